/- Text. -/
import Derived.Test.YtikkobmccagdlaaGreatDoorNtp
import Derived.Test.YtikkobmccagdlaaGreatDoorNsh
import Derived.Test.YtikkobmccagdlaaGreatDoorNg
import Derived.Test.YtikkobmccagdlaaGreatDoorNcl
import Derived.Test.YtikkobmccagdlaaGreatDoorNof
import Derived.WalkKit
import Derived.WalkSpells
import Derived.WalkLawsBesides
import Derived.WalkSmall
import Derived.Handy
import Derived.BigQuiet
import Derived.Deep.QuietTactic
import Derived.Deep.RegionHeld3
import Derived.Deep.DeepFit
import Derived.Below
import Derived.Lib.Hide
import Derived.Lib.QuietBelow
import Derived.Deep.DeepCutAuto
import Derived.Maps.AppendAt
import Derived.Sort.OwnSorted
namespace Go.Proofs.YtikkobmccagdlaaGreatDoor
open Go Go.RowKit Go.Sort
set_option maxRecDepth 100000
set_option linter.unusedVariables false
theorem Arr.trim {w : World} {r off : Nat} {l : List Nat} (h : Arr w r off l) (hL : Lim l) : Arr w r off (nd (nv l)) := by
  have hk := nd_take hL
  have hle := nd_nv_le hL
  intro i hi
  obtain ⟨a, b⟩ := h i (by omega)
  refine ⟨?_, b⟩
  have e : (nd (nv l)).getD i 0 = l.getD i 0 := by
    conv => lhs; rw [hk]
    rw [List.getD_eq_getElem?_getD, List.getElem?_take, if_pos hi, ← List.getD_eq_getElem?_getD]
  rw [a, e]
theorem Arr.grown {w w' : World} {r off : Nat} {row : Option Nat} {l : List Nat} (h : Arr w r off l) (g : w.grownBy w' row) (hr : ∀ k, row = some k → r ≠ k) : Arr w' r off l := by
  cases row with
  | none => exact h.gr (Gr.ofGrown g)
  | some k => exact h.ex (Ex.ofGrown g) (hr k rfl)
def sv (l : List UInt8) : Value := .string (str l)
theorem strInfo : ∃ i z, Tryz.prog.info? 9 = some i ∧ i.zero = some z ∧ i.size = 1 ∧ i.bytes = 16 ∧ z.cells = #[z] := by
  have h : (Tryz.prog.info? 9).map (fun i => (i.zero, i.size, i.bytes)) = some (some (.string ⟨#[]⟩), 1, 16) := by kernel_rfl
  obtain ⟨i, h1, h2, h3, h4⟩ := info_parts h
  exact ⟨i, _, h1, h2, h3, h4, rfl⟩
theorem ownsRow_ex {w w' : World} {base b n : Nat} {e : TypeId} {v : Value} {xs : List Value} (h : w.ownsRow base e 1 v n xs) (g : Ex b w w') (hb : b < base) : w'.ownsRow base e 1 v n xs := by
  refine World.ownsRow.kept (row := some b) h ⟨g.os, g.tape, g.output, g.size, fun k hk hne => g.block k (fun e => hne (by rw [e])) hk⟩ ?_
  cases hv : v.ownBlock with
  | none => exact .inl rfl
  | some k => exact .inr (fun e => by have := (World.ownsRow.lt h k hv).1; cases e; omega)
theorem shrink_9 (M g cap : Nat) (w : World) (hA : Arr w g 0 (nd M)) (hl : (nd M).length ≤ 1000000) (h0 : 0 < (nd M).length) :
    Calls Tryz.prog 83 #[.slice (some ⟨g, 0, none⟩) (nd M).length cap, .int .i64 1000000000] w fun e w' => ∃ Q : List Nat, e = .returned (.int .i64 (M % 1000000000 : Nat)) ∧ Q.length = (nd M).length ∧ Lim Q ∧ nv Q = M / 1000000000 ∧ Arr w' g 0 Q ∧ Ex g w w' := by
  have := shrink_any (nd M) 1000000000 g cap w hA (lim_nd M) hl h0 (by omega) (by omega)
  unfold ShPost at this
  rw [nv_nd] at this
  exact this
theorem reverse_any (g c : Nat) (l : List (List UInt8)) (w : World) (hH : Holds encStr w g 0 l.toArray) (hl : l.length ≤ 1000000) (hg : g < w.heap.size) :
    Calls Tryz.prog 84 #[.slice (some ⟨g, 0, none⟩) l.length c] w fun e w' => e = .returned (.tuple #[]) ∧ Holds encStr w' g 0 l.reverse.toArray ∧ w.grownBy w' (some g) ∧ g < w'.heap.size := by
  refine (Tryz.slices_Reverse_string g 0 c l w hH (by omega)).mono fun e w' ⟨he, n, hw⟩ => ?_
  subst hw
  refine ⟨he, holds_putRow encStr (Sort.ahead w n) g 0 l.toArray _ hH (by simp), ?_, by simpa using hg⟩
  have := grownBy_sorted (w := w) (g := g) (n := n) (os := #[]) l.reverse.toArray
  rwa [grow_empty] at this
theorem join_any (g c : Nat) (l : List (List UInt8)) (w : World) (hH : Holds encStr w g 0 l.toArray) (hg : g < w.heap.size) (hc : l.length ≤ c) (hl : l.length ≤ 1000000) (hf : l.flatten.length ≤ 1000000) :
    Calls Tryz.prog 86 #[.slice (some ⟨g, 0, none⟩) l.length c, .string ⟨#[]⟩] w fun e w' => e = .returned (.string (str l.flatten)) ∧ Gr w w' := by
  have hm : (l.map str).map (·.data.toList) = l := by rw [List.map_map]; conv => rhs; rw [← List.map_id l]
                                                      exact List.map_congr_left fun x _ => str_data x
  have hj : Lib.join ((l.map str).map (·.data.toList)) (⟨#[]⟩ : ByteArray).data.toList = l.flatten := by rw [hm]; exact join_nil l
  have := Tryz.strings_Join g 0 c (l.map str) ⟨#[]⟩ w (by
    intro i x hx
    rw [List.getElem?_map] at hx
    by_cases hi : i < l.length
    · rw [List.getElem?_eq_getElem hi] at hx
      obtain rfl := Option.some.inj hx
      rw [(hH i (by simpa using hi)).1]
      simp [hi, encStr, str]
    · rw [List.getElem?_eq_none (by omega)] at hx; cases hx) hg (by rw [List.length_map]; omega) (by rw [List.length_map]; exact hc) (by rw [hj]; omega)
  rw [List.length_map, hj] at this
  exact this
def TxRel (w : World) (g N : Nat) (gv rv : Value) (wr : World) : Prop :=
  ∃ (j M cap : Nat), M = N / 10 ^ (9 * j) ∧ rv = .slice (some ⟨g, 0, none⟩) (nd M).length cap ∧ (nd M).length ≤ cap ∧ cap ≤ 9223372036854775807 ∧ Arr wr g 0 (nd M) ∧ g < wr.heap.size ∧ (0 < j → 10 ^ (9 * (j - 1)) ≤ N) ∧ wr.ownsRow (g + 1) 9 1 gv (grp j N).length ((grp j N).map sv) ∧ Gr w wr
theorem tx_bound {N j : Nat} (hN : (nd N).length ≤ 256) (h : 0 < j → 10 ^ (9 * (j - 1)) ≤ N) : j ≤ 300 := by
  rw [nd_len] at hN
  apply Decidable.byContradiction; intro hc
  have h1 := h (by omega)
  obtain ⟨n, hn⟩ : ∃ n, n = 256 := ⟨_, rfl⟩
  rw [← hn] at hN
  have h2 : (1073741824 : Nat) ^ n ≤ (10 ^ 10) ^ n := Nat.pow_le_pow_left (by decide) n
  rw [← Nat.pow_mul] at h2
  have h3 : (10 : Nat) ^ (10 * n) ≤ 10 ^ (9 * (j - 1)) := Nat.pow_le_pow_right (by omega) (by omega)
  have := Nat.le_trans h2 (Nat.le_trans h3 h1)
  exact absurd hN (Nat.not_lt.2 this)
set_option maxHeartbeats 2000000 in
theorem text_any {N : Nat} (v : Value) (w : World) (hN : Num w v N) (h0 : 0 < N) (hl : (nd N).length ≤ 256) (ht : Tab w) :
    Calls Tryz.prog 22 #[v] w fun e w' => e = .returned (.string (str (Lib.decDigits N))) ∧ Gr w w' := by
  have hV := Lib.hid (num_valid hN hl)
  have hC := Lib.hid (clone_any v (nd N) w hN (by omega))
  obtain ⟨a, c, rfl, -, -, -⟩ := hN
  have hnl : 0 < (nd N).length := by rw [nd_pos h0]; simp
  have d0 : (((nd N).length : Int) == 0) = false := by rw [beq_eq_false_iff_ne]; omega
  have HL := Lib.hid hl
  have H0 := Lib.hid h0
  clear hl h0
  go_enter Tryz.func22, Tryz.ntmps22
  go_wp2_with fail
  refine hV.out.mono ?_
  rintro e w' ⟨rfl, rfl⟩
  go_wp2_with fail
  refine hC.out.mono ?_
  rintro e w1 ⟨v1, rfl, hown, hg1⟩
  rcases hown.is with ⟨-, hz⟩ | ⟨g, cap, rfl, hb, hcap, hcap2, harr, hlt⟩
  · rw [hz] at hnl; simp at hnl
  have HT := Lib.hid ht
  clear hown ht
  go_wp2_with fail
  go_loopw [3, 4] (fun gv rv wr => TxRel w g N gv rv wr) (fun _ rv wr => numOf wr rv)
  case atStart => exact ⟨0, N, cap, by simp, rfl, hcap, hcap2, harr, hlt, fun h => absurd h (by omega), World.ownsRow_nil _ _ _ _, hg1⟩
  case round =>
    obtain ⟨j, M, cp, hM, rfl, hc1, hc2, hA, hgw, hj, hown, hG⟩ := hrel
    have hj3 := tx_bound HL.out hj
    by_cases hm : 0 < M
    · have hml : 0 < (nd M).length := by rw [nd_pos hm]; simp
      have hMN : M ≤ N := by rw [hM]; exact Nat.div_le_self _ _
      have hml2 : (nd M).length ≤ 256 := Nat.le_trans (nd_mono hMN) HL.out
      have HNM := Lib.hid (show Num wr (.slice (some ⟨g, 0, none⟩) (nd M).length cp) M from hA.rd hc1 hc2 trivial)
      have HS := Lib.hid (shrink_9 M g cp wr hA (by omega) hml)
      have HM := Lib.hid hM
      have HJ := Lib.hid hj
      have HO := Lib.hid hown
      obtain ⟨ti, tz, hi1, hi2, hi3, hi4, hi5⟩ := strInfo
      have hgl := grp_len j N
      have h62 : (grp j N).length + 1 ≤ maxLen := by rw [hgl]; unfold maxLen; omega
      have h63 : ((grp j N).length + 1) * 16 ≤ 140737488355328 := by rw [hgl]; omega
      clear hM hj hown hA hMN
      go_wp2_with fail
      refine HS.out.mono ?_
      rintro e w2 ⟨Q, rfl, hQl, hQL, hQv, hQa, hex⟩
      have hG2 : Gr w w2 := Ex.gr hG (by omega) hex
      have HQV := Lib.hid hQv
      have HQL := Lib.hid hQl
      have HQA := Lib.hid hQa
      have hown := ownsRow_ex HO.out hex (Nat.lt_succ_self g)
      have hsz2 := hex.size
      clear hQv hQl hQa hex
      go_wp2_with fail
      refine (padded_any (M % 1000000000) _ (Nat.mod_lt _ (by omega)) (HT.out.gr hG2)).mono ?_
      rintro e w3 ⟨rfl, hg3⟩
      have hown := Gr.owns hg3 hown
      have hsz3 := Gr.size hg3
      have hG3 := hG2.step hg3
      have HQA := Lib.hid (HQA.out.gr hg3)
      obtain ⟨dl, hdl⟩ : ∃ dl, dl = pd 9 (M % 1000000000) := ⟨_, rfl⟩
      rw [← hdl]
      have HDL := Lib.hid hdl
      have hnews : ∀ j u, [Value.string (str dl)][j]? = some u → (w3.alloc (.cells #[.string (str dl)] 9)).cell? ((⟨w3.heap.size, 0, none⟩ : Addr).add j) = some u := by
        intro j u hj
        match j, hj with
        | 0, hj => simp at hj; subst hj; simp [Addr.add]
      have hbase : g + 1 ≤ (w3.alloc (.cells #[.string (str dl)] 9)).heap.size := by simp; omega
      have hown3 := hown.alloc (.cells #[.string (str dl)] 9)
      clear hdl
      go_wp2_with (at_builtin; refine wpList_append_own_at _ rfl _ _ 62 rfl (g + 1) 9 ti tz 1 16 Tryz.underlying62 hi1 hi2 hi3 hi4 (by rw [hi5]; rfl) (by decide) _ _ _ rfl hown3 ⟨w3.heap.size, 0, none⟩ 1 1 [.string (str dl)] rfl rfl hnews (by intro u hu; simp at hu; subst hu; rfl) h62 h63 hbase ?_; intro v' w4 hown4 hgrow hnil hloc)
      have hlt3 : ∀ k, _ = some k → g + 1 ≤ k := fun k hk => (hown3.lt k hk).1
      have hQ4 : Arr w4 g 0 Q := (HQA.out.gr (Gr.alloc (Gr.refl _) _)).grown hgrow (fun k hk => by have := hlt3 k hk; omega)
      have hrd : Rd (fun _ => True) w4 (.slice (some ⟨g, 0, none⟩) (nd M).length cp) Q := by
        have := hQ4.rd (p := fun _ => True) (cap := cp) (by rw [HQL.out]; exact hc1) hc2 trivial
        rwa [HQL.out] at this
      have HTM := Lib.hid (trim_at w4 hrd hQL)
      have HQ4 := Lib.hid hQ4
      have HO4 := Lib.hid hown4
      have hG4 : Gr w w4 := Gr.grown (Gr.alloc hG3 _) hgrow (fun k hk => by have := hlt3 k hk; omega)
      have hsz4 : g < w4.heap.size := by have := hgrow.size; simp at this; omega
      clear hrd hQ4 hown4 hgrow hnil hloc hlt3 hown3 hnews
      refine HTM.out.mono ?_
      rintro e w' ⟨rfl, rfl⟩
      rw [HQV.out]
      go_wp2_with fail
      have hA4 : Arr w4 g 0 (nd (M / 1000000000)) := by have := HQ4.out.trim hQL; rwa [HQV.out] at this
      have hle : (nd (M / 1000000000)).length ≤ cp := Nat.le_trans (nd_mono (Nat.div_le_self _ _)) hc1
      refine ⟨⟨j + 1, M / 1000000000, cp, ?_, rfl, hle, hc2, hA4, hsz4, ?_, ?_, hG4⟩, ?_⟩
      · rw [HM.out, Nat.div_div_eq_div_mul, show (1000000000 : Nat) = 10 ^ 9 from rfl, ← Nat.pow_add, show 9 * j + 9 = 9 * (j + 1) by omega]
      · intro _
        rw [Nat.add_sub_cancel]
        apply Decidable.byContradiction; intro hc
        have := Nat.div_eq_of_lt (Nat.not_le.1 hc)
        rw [← HM.out] at this
        omega
      · rw [grp, ← HM.out, ← HDL.out, List.length_append, List.map_append]
        exact HO4.out
      · rw [numOf_eq HNM.out, numOf_eq (show Num w4 _ (M / 1000000000) from hA4.rd hle hc2 trivial)]
        exact Nat.div_lt_self hm (by omega)
    · obtain rfl : M = 0 := by omega
      have hjp : 0 < j := by
        rcases Nat.eq_zero_or_pos j with rfl | h
        · rw [Nat.mul_zero, Nat.pow_zero, Nat.div_one] at hM; have := H0.out; omega
        · exact h
      have hlt10 : N < 10 ^ (9 * j) := by
        have hp : 0 < 10 ^ (9 * j) := Nat.pow_pos (by omega)
        exact (Nat.div_eq_zero_iff_lt hp).1 hM.symm
      have hown0 := hown
      rcases hown.2 with ⟨-, hn⟩ | ⟨gg, gc, cur, rfl, hb2, hh, hgc, hm2, -, -⟩
      · rw [grp_len] at hn; omega
      have hH : Holds encStr wr gg 0 (grp j N).toArray := by
        intro i hi
        rw [List.size_toArray] at hi
        rw [Nat.zero_add, hown0.cellAt i (by omega), hown0.frozenAt i, List.getElem?_map, List.getElem?_eq_getElem hi]
        exact ⟨by simp [hi, sv, encStr, str], rfl⟩
      have hggs : gg < wr.heap.size := (Array.getElem?_eq_some_iff.1 hh).1
      have hr := reverse_any gg gc (grp j N) wr hH (by rw [grp_len]; omega) hggs
      rw [grp_len] at hr
      have HR := Lib.hid hr
      have hgw2 : w.heap.size ≤ gg := by omega
      have hgl := grp_len j N
      have HTR := Lib.hid (trim_pd hlt10 H0.out)
      have HGJ := Lib.hid (grp_join j N)
      have hcc : (grp j N).length ≤ gc := hgc
      rw [nd_zero, hgl]
      have HGL := Lib.hid hgl
      have HCC := Lib.hid hcc
      clear hM hA hj hown hown0 hH hh hlt10 hgc hm2 hr hgl hcc
      go_wp2_with fail
      refine HR.out.mono ?_
      rintro e w2 ⟨rfl, hH2, hgrow, hs2⟩
      have hG2 : Gr w w2 := Gr.grown hG hgrow (fun k hk => by cases hk; exact hgw2)
      have hjn := join_any gg gc (grp j N).reverse w2 hH2 hs2 (by rw [List.length_reverse]; exact HCC.out) (by rw [List.length_reverse, HGL.out]; omega) (by rw [HGJ.out, pd_len]; omega)
      rw [List.length_reverse, HGJ.out, HGL.out] at hjn
      have HJN := Lib.hid hjn
      clear hjn hH2 hgrow
      go_wp2_with fail
      refine HJN.out.mono ?_
      rintro e w3 ⟨rfl, hg3⟩
      go_wp2_with fail
      refine (Tryz.strings_TrimLeft_one (str (pd (9 * j) N)) 48 (by decide) w3).mono ?_
      rintro e w4 ⟨rfl, rfl⟩
      rw [str_data, HTR.out]
      go_wp2_with fail
      go_ret
      exact ⟨rfl, hG2.step hg3⟩
end Go.Proofs.YtikkobmccagdlaaGreatDoor
