/- Several texts in one. -/
import Derived.Test.YtjpjnbgfodlkcaaGreatDoorGAO
import Derived.WalkKit
import Derived.WalkSpells
import Derived.WalkLawsBesides
import Derived.WalkSmall
import Derived.Handy
import Derived.BigQuiet
import Derived.Deep.QuietTactic
import Derived.Deep.RegionHeld3
import Derived.Deep.DeepFit
import Derived.Below
import Derived.Lib.Hide
import Derived.Lib.QuietBelow
import Derived.Test.YtjpjnbgfodlkcaaGreatDoorGAC
import Derived.Test.YtjpjnbgfodlkcaaGreatDoorGAG
import Derived.Test.YtjpjnbgfodlkcaaGreatDoorGAD
import Derived.Test.YtjpjnbgfodlkcaaGreatDoorGAF
import Derived.Deep.DeepCutAuto
import Derived.Maps.AppendAt
import Derived.Sort.OwnSorted
import Derived.Test.YtjpjnbgfodlkcaaGreatDoorGAH
/- padded. -/
namespace Go.Proofs.YtjpjnbgfodlkcaaGreatDoor
open Go Go.RowKit Go.Sort
set_option maxRecDepth 100000
set_option linter.unusedVariables false
theorem repeat_zero (c : Int) (k : Nat) (w : World) (hc : c = k) (hk : k ≤ 9) :
    Calls Tryz.prog 102 #[.string ⟨#[48]⟩, .int .i64 c] w fun e w' => e = .returned (.string (str (Lib.repeatL [48] k))) ∧ Gr w w' := by
  subst hc
  exact Tryz.strings_Repeat ⟨#[48]⟩ k w (by omega) (by show 1 * k ≤ _; omega)
theorem padded_any (n : Nat) (w : World) (h : n < 1000000000) (ht : Tab w) :
    Calls Tryz.prog 84 #[.int .i64 (n : Nat)] w fun e w' => e = .returned (.string (str (pd 9 n))) ∧ Gr w w' := by
  obtain ⟨he, hl⟩ := padded_eq h
  have hi := itoa_any (n : Nat) w (by omega) (by omega) ht
  rw [Int.toNat_natCast] at hi
  generalize hd : Lib.decDigits n = d at *
  obtain ⟨k, hk⟩ : ∃ k, k = 9 - d.length := ⟨_, rfl⟩
  rw [← hk] at he
  have hs := add_str (Lib.repeatL [48] k) d (by rw [Lib.repeatL_length]; simp; omega)
  rw [he] at hs
  have HI := Lib.hid hi
  have dl : (d.length : Int) ≤ 9 := by omega
  have sz : (str d).size = d.length := str_size d
  have HK := Lib.hid hk
  clear hi hd he hk
  go_enter Tryz.func84, Tryz.ntmps84
  go_wp2_with fail
  refine HI.out.mono ?_
  rintro e w1 ⟨rfl, hg1⟩
  go_wp2_with fail
  refine (repeat_zero _ k _ (by have := HK.out; omega) (by have := HK.out; omega)).mono ?_
  rintro e w2 ⟨rfl, hg2⟩
  go_wp2_with fail
  go_ret
  exact ⟨rfl, hg1.step hg2⟩
end Go.Proofs.YtjpjnbgfodlkcaaGreatDoor
/- Text. -/
namespace Go.Proofs.YtjpjnbgfodlkcaaGreatDoor
open Go Go.RowKit Go.Sort
set_option maxRecDepth 100000
set_option linter.unusedVariables false
theorem Arr.trim {w : World} {r off : Nat} {l : List Nat} (h : Arr w r off l) (hL : Lim l) : Arr w r off (nd (nv l)) := by
  have hk := nd_take hL
  have hle := nd_nv_le hL
  intro i hi
  obtain ⟨a, b⟩ := h i (by omega)
  refine ⟨?_, b⟩
  have e : (nd (nv l)).getD i 0 = l.getD i 0 := by
    conv => lhs; rw [hk]
    rw [List.getD_eq_getElem?_getD, List.getElem?_take, if_pos hi, ← List.getD_eq_getElem?_getD]
  rw [a, e]
theorem Arr.grown {w w' : World} {r off : Nat} {row : Option Nat} {l : List Nat} (h : Arr w r off l) (g : w.grownBy w' row) (hr : ∀ k, row = some k → r ≠ k) : Arr w' r off l := by
  cases row with
  | none => exact h.gr (Gr.ofGrown g)
  | some k => exact h.ex (Ex.ofGrown g) (hr k rfl)
def sv (l : List UInt8) : Value := .string (str l)
theorem strInfo : ∃ i z, Tryz.prog.info? 9 = some i ∧ i.zero = some z ∧ i.size = 1 ∧ i.bytes = 16 ∧ z.cells = #[z] := by
  have h : (Tryz.prog.info? 9).map (fun i => (i.zero, i.size, i.bytes)) = some (some (.string ⟨#[]⟩), 1, 16) := by kernel_rfl
  obtain ⟨i, h1, h2, h3, h4⟩ := info_parts h
  exact ⟨i, _, h1, h2, h3, h4, rfl⟩
theorem ownsRow_ex {w w' : World} {base b n : Nat} {e : TypeId} {v : Value} {xs : List Value} (h : w.ownsRow base e 1 v n xs) (g : Ex b w w') (hb : b < base) : w'.ownsRow base e 1 v n xs := by
  refine World.ownsRow.kept (row := some b) h ⟨g.os, g.tape, g.output, g.size, fun k hk hne => g.block k (fun e => hne (by rw [e])) hk⟩ ?_
  cases hv : v.ownBlock with
  | none => exact .inl rfl
  | some k => exact .inr (fun e => by have := (World.ownsRow.lt h k hv).1; cases e; omega)
theorem shrink_9 (M g cap : Nat) (w : World) (hA : Arr w g 0 (nd M)) (hl : (nd M).length ≤ 1000000) (h0 : 0 < (nd M).length) :
    Calls Tryz.prog 85 #[.slice (some ⟨g, 0, none⟩) (nd M).length cap, .int .i64 1000000000] w fun e w' => ∃ Q : List Nat, e = .returned (.int .i64 (M % 1000000000 : Nat)) ∧ Q.length = (nd M).length ∧ Lim Q ∧ nv Q = M / 1000000000 ∧ Arr w' g 0 Q ∧ Ex g w w' := by
  have := shrink_any (nd M) 1000000000 g cap w hA (lim_nd M) hl h0 (by omega) (by omega)
  unfold ShPost at this
  rw [nv_nd] at this
  exact this
theorem reverse_any (g c : Nat) (l : List (List UInt8)) (w : World) (hH : Holds encStr w g 0 l.toArray) (hl : l.length ≤ 1000000) (hg : g < w.heap.size) :
    Calls Tryz.prog 86 #[.slice (some ⟨g, 0, none⟩) l.length c] w fun e w' => e = .returned (.tuple #[]) ∧ Holds encStr w' g 0 l.reverse.toArray ∧ w.grownBy w' (some g) ∧ g < w'.heap.size := by
  refine (Tryz.slices_Reverse_string g 0 c l w hH (by omega)).mono fun e w' ⟨he, n, hw⟩ => ?_
  subst hw
  refine ⟨he, holds_putRow encStr (Sort.ahead w n) g 0 l.toArray _ hH (by simp), ?_, by simpa using hg⟩
  have := grownBy_sorted (w := w) (g := g) (n := n) (os := #[]) l.reverse.toArray
  rwa [grow_empty] at this
theorem join_any (g c : Nat) (l : List (List UInt8)) (w : World) (hH : Holds encStr w g 0 l.toArray) (hg : g < w.heap.size) (hc : l.length ≤ c) (hl : l.length ≤ 1000000) (hf : l.flatten.length ≤ 1000000) :
    Calls Tryz.prog 88 #[.slice (some ⟨g, 0, none⟩) l.length c, .string ⟨#[]⟩] w fun e w' => e = .returned (.string (str l.flatten)) ∧ Gr w w' := by
  have hm : (l.map str).map (·.data.toList) = l := by rw [List.map_map]; conv => rhs; rw [← List.map_id l]
                                                      exact List.map_congr_left fun x _ => str_data x
  have hj : Lib.join ((l.map str).map (·.data.toList)) (⟨#[]⟩ : ByteArray).data.toList = l.flatten := by rw [hm]; exact join_nil l
  have := Tryz.strings_Join g 0 c (l.map str) ⟨#[]⟩ w (by
    intro i x hx
    rw [List.getElem?_map] at hx
    by_cases hi : i < l.length
    · rw [List.getElem?_eq_getElem hi] at hx
      obtain rfl := Option.some.inj hx
      rw [(hH i (by simpa using hi)).1]
      simp [hi, encStr, str]
    · rw [List.getElem?_eq_none (by omega)] at hx; cases hx) hg (by rw [List.length_map]; omega) (by rw [List.length_map]; exact hc) (by rw [hj]; omega)
  rw [List.length_map, hj] at this
  exact this
def TxRel (w : World) (g N : Nat) (gv rv : Value) (wr : World) : Prop :=
  ∃ (j M cap : Nat), M = N / 10 ^ (9 * j) ∧ rv = .slice (some ⟨g, 0, none⟩) (nd M).length cap ∧ (nd M).length ≤ cap ∧ cap ≤ 9223372036854775807 ∧ Arr wr g 0 (nd M) ∧ g < wr.heap.size ∧ (0 < j → 10 ^ (9 * (j - 1)) ≤ N) ∧ wr.ownsRow (g + 1) 9 1 gv (grp j N).length ((grp j N).map sv) ∧ Gr w wr
theorem tx_bound {N j : Nat} (hN : (nd N).length ≤ 256) (h : 0 < j → 10 ^ (9 * (j - 1)) ≤ N) : j ≤ 300 := by
  rw [nd_len] at hN
  apply Decidable.byContradiction; intro hc
  have h1 := h (by omega)
  obtain ⟨n, hn⟩ : ∃ n, n = 256 := ⟨_, rfl⟩
  rw [← hn] at hN
  have h2 : (1073741824 : Nat) ^ n ≤ (10 ^ 10) ^ n := Nat.pow_le_pow_left (by decide) n
  rw [← Nat.pow_mul] at h2
  have h3 : (10 : Nat) ^ (10 * n) ≤ 10 ^ (9 * (j - 1)) := Nat.pow_le_pow_right (by omega) (by omega)
  have := Nat.le_trans h2 (Nat.le_trans h3 h1)
  exact absurd hN (Nat.not_lt.2 this)
set_option maxHeartbeats 2000000 in
theorem text_any {N : Nat} (v : Value) (w : World) (hN : Num w v N) (h0 : 0 < N) (hl : (nd N).length ≤ 256) (ht : Tab w) :
    Calls Tryz.prog 55 #[v] w fun e w' => e = .returned (.string (str (Lib.decDigits N))) ∧ Gr w w' := by
  have hV := Lib.hid (num_valid hN hl)
  have hC := Lib.hid (clone_any v (nd N) w hN (by omega))
  obtain ⟨a, c, rfl, -, -, -⟩ := hN
  have hnl : 0 < (nd N).length := by rw [nd_pos h0]; simp
  have d0 : (((nd N).length : Int) == 0) = false := by rw [beq_eq_false_iff_ne]; omega
  have HL := Lib.hid hl
  have H0 := Lib.hid h0
  clear hl h0
  go_enter Tryz.func55, Tryz.ntmps55
  go_wp2_with fail
  refine hV.out.mono ?_
  rintro e w' ⟨rfl, rfl⟩
  go_wp2_with fail
  refine hC.out.mono ?_
  rintro e w1 ⟨v1, rfl, hown, hg1⟩
  rcases hown.is with ⟨-, hz⟩ | ⟨g, cap, rfl, hb, hcap, hcap2, harr, hlt⟩
  · rw [hz] at hnl; simp at hnl
  have HT := Lib.hid ht
  clear hown ht
  go_wp2_with fail
  go_loopw [3, 4] (fun gv rv wr => TxRel w g N gv rv wr) (fun _ rv wr => numOf wr rv)
  case atStart => exact ⟨0, N, cap, by simp, rfl, hcap, hcap2, harr, hlt, fun h => absurd h (by omega), World.ownsRow_nil _ _ _ _, hg1⟩
  case round =>
    obtain ⟨j, M, cp, hM, rfl, hc1, hc2, hA, hgw, hj, hown, hG⟩ := hrel
    have hj3 := tx_bound HL.out hj
    by_cases hm : 0 < M
    · have hml : 0 < (nd M).length := by rw [nd_pos hm]; simp
      have hMN : M ≤ N := by rw [hM]; exact Nat.div_le_self _ _
      have hml2 : (nd M).length ≤ 256 := Nat.le_trans (nd_mono hMN) HL.out
      have HNM := Lib.hid (show Num wr (.slice (some ⟨g, 0, none⟩) (nd M).length cp) M from hA.rd hc1 hc2 trivial)
      have HS := Lib.hid (shrink_9 M g cp wr hA (by omega) hml)
      have HM := Lib.hid hM
      have HJ := Lib.hid hj
      have HO := Lib.hid hown
      obtain ⟨ti, tz, hi1, hi2, hi3, hi4, hi5⟩ := strInfo
      have hgl := grp_len j N
      have h62 : (grp j N).length + 1 ≤ maxLen := by rw [hgl]; unfold maxLen; omega
      have h63 : ((grp j N).length + 1) * 16 ≤ 140737488355328 := by rw [hgl]; omega
      clear hM hj hown hA hMN
      go_wp2_with fail
      refine HS.out.mono ?_
      rintro e w2 ⟨Q, rfl, hQl, hQL, hQv, hQa, hex⟩
      have hG2 : Gr w w2 := Ex.gr hG (by omega) hex
      have HQV := Lib.hid hQv
      have HQL := Lib.hid hQl
      have HQA := Lib.hid hQa
      have hown := ownsRow_ex HO.out hex (Nat.lt_succ_self g)
      have hsz2 := hex.size
      clear hQv hQl hQa hex
      go_wp2_with fail
      refine (padded_any (M % 1000000000) _ (Nat.mod_lt _ (by omega)) (HT.out.gr hG2)).mono ?_
      rintro e w3 ⟨rfl, hg3⟩
      have hown := Gr.owns hg3 hown
      have hsz3 := Gr.size hg3
      have hG3 := hG2.step hg3
      have HQA := Lib.hid (HQA.out.gr hg3)
      obtain ⟨dl, hdl⟩ : ∃ dl, dl = pd 9 (M % 1000000000) := ⟨_, rfl⟩
      rw [← hdl]
      have HDL := Lib.hid hdl
      have hnews : ∀ j u, [Value.string (str dl)][j]? = some u → (w3.alloc (.cells #[.string (str dl)] 9)).cell? ((⟨w3.heap.size, 0, none⟩ : Addr).add j) = some u := by
        intro j u hj
        match j, hj with
        | 0, hj => simp at hj; subst hj; simp [Addr.add]
      have hbase : g + 1 ≤ (w3.alloc (.cells #[.string (str dl)] 9)).heap.size := by simp; omega
      have hown3 := hown.alloc (.cells #[.string (str dl)] 9)
      clear hdl
      go_wp2_with (at_builtin; refine wpList_append_own_at _ rfl _ _ 44 rfl (g + 1) 9 ti tz 1 16 Tryz.underlying44 hi1 hi2 hi3 hi4 (by rw [hi5]; rfl) (by decide) _ _ _ rfl hown3 ⟨w3.heap.size, 0, none⟩ 1 1 [.string (str dl)] rfl rfl hnews (by intro u hu; simp at hu; subst hu; rfl) h62 h63 hbase ?_; intro v' w4 hown4 hgrow hnil hloc)
      have hlt3 : ∀ k, _ = some k → g + 1 ≤ k := fun k hk => (hown3.lt k hk).1
      have hQ4 : Arr w4 g 0 Q := (HQA.out.gr (Gr.alloc (Gr.refl _) _)).grown hgrow (fun k hk => by have := hlt3 k hk; omega)
      have hrd : Rd (fun _ => True) w4 (.slice (some ⟨g, 0, none⟩) (nd M).length cp) Q := by
        have := hQ4.rd (p := fun _ => True) (cap := cp) (by rw [HQL.out]; exact hc1) hc2 trivial
        rwa [HQL.out] at this
      have HTM := Lib.hid (trim_at w4 hrd hQL)
      have HQ4 := Lib.hid hQ4
      have HO4 := Lib.hid hown4
      have hG4 : Gr w w4 := Gr.grown (Gr.alloc hG3 _) hgrow (fun k hk => by have := hlt3 k hk; omega)
      have hsz4 : g < w4.heap.size := by have := hgrow.size; simp at this; omega
      clear hrd hQ4 hown4 hgrow hnil hloc hlt3 hown3 hnews
      refine HTM.out.mono ?_
      rintro e w' ⟨rfl, rfl⟩
      rw [HQV.out]
      go_wp2_with fail
      have hA4 : Arr w4 g 0 (nd (M / 1000000000)) := by have := HQ4.out.trim hQL; rwa [HQV.out] at this
      have hle : (nd (M / 1000000000)).length ≤ cp := Nat.le_trans (nd_mono (Nat.div_le_self _ _)) hc1
      refine ⟨⟨j + 1, M / 1000000000, cp, ?_, rfl, hle, hc2, hA4, hsz4, ?_, ?_, hG4⟩, ?_⟩
      · rw [HM.out, Nat.div_div_eq_div_mul, show (1000000000 : Nat) = 10 ^ 9 from rfl, ← Nat.pow_add, show 9 * j + 9 = 9 * (j + 1) by omega]
      · intro _
        rw [Nat.add_sub_cancel]
        apply Decidable.byContradiction; intro hc
        have := Nat.div_eq_of_lt (Nat.not_le.1 hc)
        rw [← HM.out] at this
        omega
      · rw [grp, ← HM.out, ← HDL.out, List.length_append, List.map_append]
        exact HO4.out
      · rw [numOf_eq HNM.out, numOf_eq (show Num w4 _ (M / 1000000000) from hA4.rd hle hc2 trivial)]
        exact Nat.div_lt_self hm (by omega)
    · obtain rfl : M = 0 := by omega
      have hjp : 0 < j := by
        rcases Nat.eq_zero_or_pos j with rfl | h
        · rw [Nat.mul_zero, Nat.pow_zero, Nat.div_one] at hM; have := H0.out; omega
        · exact h
      have hlt10 : N < 10 ^ (9 * j) := by
        have hp : 0 < 10 ^ (9 * j) := Nat.pow_pos (by omega)
        exact (Nat.div_eq_zero_iff_lt hp).1 hM.symm
      have hown0 := hown
      rcases hown.2 with ⟨-, hn⟩ | ⟨gg, gc, cur, rfl, hb2, hh, hgc, hm2, -, -⟩
      · rw [grp_len] at hn; omega
      have hH : Holds encStr wr gg 0 (grp j N).toArray := by
        intro i hi
        rw [List.size_toArray] at hi
        rw [Nat.zero_add, hown0.cellAt i (by omega), hown0.frozenAt i, List.getElem?_map, List.getElem?_eq_getElem hi]
        exact ⟨by simp [hi, sv, encStr, str], rfl⟩
      have hggs : gg < wr.heap.size := (Array.getElem?_eq_some_iff.1 hh).1
      have hr := reverse_any gg gc (grp j N) wr hH (by rw [grp_len]; omega) hggs
      rw [grp_len] at hr
      have HR := Lib.hid hr
      have hgw2 : w.heap.size ≤ gg := by omega
      have hgl := grp_len j N
      have HTR := Lib.hid (trim_pd hlt10 H0.out)
      have HGJ := Lib.hid (grp_join j N)
      have hcc : (grp j N).length ≤ gc := hgc
      rw [nd_zero, hgl]
      have HGL := Lib.hid hgl
      have HCC := Lib.hid hcc
      clear hM hA hj hown hown0 hH hh hlt10 hgc hm2 hr hgl hcc
      go_wp2_with fail
      refine HR.out.mono ?_
      rintro e w2 ⟨rfl, hH2, hgrow, hs2⟩
      have hG2 : Gr w w2 := Gr.grown hG hgrow (fun k hk => by cases hk; exact hgw2)
      have hjn := join_any gg gc (grp j N).reverse w2 hH2 hs2 (by rw [List.length_reverse]; exact HCC.out) (by rw [List.length_reverse, HGL.out]; omega) (by rw [HGJ.out, pd_len]; omega)
      rw [List.length_reverse, HGJ.out, HGL.out] at hjn
      have HJN := Lib.hid hjn
      clear hjn hH2 hgrow
      go_wp2_with fail
      refine HJN.out.mono ?_
      rintro e w3 ⟨rfl, hg3⟩
      go_wp2_with fail
      refine (Tryz.strings_TrimLeft_one (str (pd (9 * j) N)) 48 (by decide) w3).mono ?_
      rintro e w4 ⟨rfl, rfl⟩
      rw [str_data, HTR.out]
      go_wp2_with fail
      go_ret
      exact ⟨rfl, hG2.step hg3⟩
end Go.Proofs.YtjpjnbgfodlkcaaGreatDoor
/- Text of any number. -/
namespace Go.Proofs.YtjpjnbgfodlkcaaGreatDoor
open Go Go.RowKit Go.Sort
set_option maxRecDepth 100000
set_option linter.unusedVariables false
theorem text_nought (v : Value) (w : World) (hN : Num w v 0) :
    Calls Tryz.prog 55 #[v] w fun e w' => e = .returned (.string (str (Lib.decDigits 0))) ∧ Gr w w' := by
  have hV := Lib.hid (num_valid hN (by rw [nd_zero]; simp))
  unfold Num at hN
  rw [nd_zero] at hN
  obtain ⟨a, c, rfl, -, -, -⟩ := hN
  have e0 : str (Lib.decDigits 0) = ⟨#[48]⟩ := by rw [dd_one (by omega)]; rfl
  rw [e0]
  go_enter Tryz.func55, Tryz.ntmps55
  go_wp2_with fail
  refine hV.out.mono ?_
  rintro e w' ⟨rfl, rfl⟩
  go_wp2_with fail
  go_ret
  exact ⟨rfl, Gr.refl _⟩
theorem text_full {N : Nat} (v : Value) (w : World) (hN : Num w v N) (hl : (nd N).length ≤ 256) (ht : Tab w) :
    Calls Tryz.prog 55 #[v] w fun e w' => e = .returned (.string (str (Lib.decDigits N))) ∧ Gr w w' := by
  rcases Nat.eq_zero_or_pos N with rfl | h0
  · exact text_nought v w hN
  · exact text_any v w hN h0 hl ht
theorem dd_pos (N : Nat) : 0 < (Lib.decDigits N).length := by rw [Lib.decDigits_length]; exact Lib.nDigits_pos N
theorem dd_short {N k : Nat} (hN : (nd N).length ≤ k) (hk : 0 < k) : (Lib.decDigits N).length ≤ 10 * k := by
  rw [nd_len] at hN
  have h2 : (1073741824 : Nat) ^ k ≤ (10 ^ 10) ^ k := Nat.pow_le_pow_left (by decide) k
  rw [← Nat.pow_mul] at h2
  rw [Lib.decDigits_length]
  exact (pd_digits (10 * k) N (Nat.lt_of_lt_of_le hN h2) (by omega)).1
end Go.Proofs.YtjpjnbgfodlkcaaGreatDoor
/- isOne, Text. -/
namespace Go.Proofs.YtjpjnbgfodlkcaaGreatDoor
open Go Go.RowKit Go.Sort
set_option maxRecDepth 100000
set_option linter.unusedVariables false
theorem one_num (w : World) : Num (w.alloc (.cells #[.int .i64 1] 3)) (.slice (some ⟨w.heap.size, 0, none⟩) 1 1) 1 := num_lit w 1 1 rfl (by omega) (by omega)
theorem isOne_yes (v : Value) (w : World) (h : Num w v 1) :
    Calls Tryz.prog 56 #[v] w fun e w' => e = .returned (.bool true) ∧ Gr w w' := by
  have HC := Lib.hid (cmp_any (A := 1) (B := 1) v _ _ (h.gr (Gr.alloc (Gr.refl _) _)) (one_num w) (by rw [nd_one (by omega) (by omega)]; simp))
  obtain ⟨a, c, rfl⟩ := num_slice h
  clear h
  go_enter Tryz.func56, Tryz.ntmps56
  go_wp2_with fail
  refine HC.out.mono ?_
  rintro e w1 ⟨rfl, hg⟩
  rw [ncmp_eq]
  have hG : Gr w w1 := (Gr.alloc (Gr.refl w) _).step hg
  go_wp2_with fail
  go_ret
  exact ⟨rfl, hG⟩
theorem isOne_eq {N : Nat} (v : Value) (w : World) (h : Num w v N) (e : N = 1) : Calls Tryz.prog 56 #[v] w fun e w' => e = .returned (.bool true) ∧ Gr w w' := by
  subst e; exact isOne_yes v w h
theorem isOne_no {N : Nat} (v : Value) (w : World) (h : Num w v N) (hl : (nd N).length ≤ 1000000) (hN : N ≠ 1) :
    Calls Tryz.prog 56 #[v] w fun e w' => e = .returned (.bool false) ∧ Gr w w' := by
  have HC := Lib.hid (cmp_any (A := N) (B := 1) v _ _ (h.gr (Gr.alloc (Gr.refl _) _)) (one_num w) hl)
  obtain ⟨a, c, rfl⟩ := num_slice h
  have hne : ncmp N 1 ≠ 0 := by
    rcases Nat.lt_or_gt_of_ne hN with h | h
    · rw [ncmp_lt h]; omega
    · rw [ncmp_gt h]; omega
  have d1 : (ncmp N 1 == 0) = false := by rw [beq_eq_false_iff_ne]; exact hne
  clear h hN hne
  go_enter Tryz.func56, Tryz.ntmps56
  go_wp2_with fail
  refine HC.out.mono ?_
  rintro e w1 ⟨rfl, hg⟩
  have hG : Gr w w1 := (Gr.alloc (Gr.refl w) _).step hg
  go_wp2_with fail
  go_ret
  exact ⟨rfl, hG⟩
/-- the text of a fraction -/
def ftext (r : Rat) : List UInt8 := (if r.num < 0 then [45] else []) ++ Lib.decDigits r.num.natAbs ++ (if r.den = 1 then [] else 47 :: Lib.decDigits r.den)
set_option maxHeartbeats 2000000 in
theorem ftext_at {r : Rat} (ng : Bool) (hng : decide (r.num < 0) = ng) (v : Value) (w : World) (ha : Fra w v r) (ht : Tab w) :
    Calls Tryz.prog 27 #[v] w fun e w' => e = .returned (.string (str (ftext r))) ∧ Gr w w' := by
  obtain ⟨x, va, vb, A, B, rfl, hA, hB, hB0, hx, lA, lB, hr⟩ := ha
  have hbd := bd_rat (x := x) hB0 lA lB
  rw [← hr] at hbd
  obtain ⟨l1, l2⟩ := hbd
  have HV : Hid (rat x A B = r) := Lib.hid hr.symm
  have HNEG := Lib.hid hng
  have HA := Lib.hid hA
  have HB := Lib.hid hB
  have HB0 := Lib.hid hB0
  have HX := Lib.hid hx
  have HT := Lib.hid ht
  obtain ⟨aa, ca, rfl⟩ := num_slice hA
  obtain ⟨ab, cb, rfl⟩ := num_slice hB
  have s1 := dd_short l1 (by omega)
  have s2 := dd_short l2 (by omega)
  have a1 := add_str [45] (Lib.decDigits r.num.natAbs) (by simp; omega)
  have a1 : ∀ w : World, (Op.stringOp .add ⟨#[45]⟩ (str (Lib.decDigits r.num.natAbs))).run Tryz.prog w = .ok (.string (str (45 :: Lib.decDigits r.num.natAbs))) w := a1
  have a2 := add_str [47] (Lib.decDigits r.den) (by simp; omega)
  have a2 : ∀ w : World, (Op.stringOp .add ⟨#[47]⟩ (str (Lib.decDigits r.den))).run Tryz.prog w = .ok (.string (str (47 :: Lib.decDigits r.den))) w := a2
  have a3 := add_str (Lib.decDigits r.num.natAbs) (47 :: Lib.decDigits r.den) (by simp; omega)
  have a4 := add_str (45 :: Lib.decDigits r.num.natAbs) (47 :: Lib.decDigits r.den) (by simp; omega)
  clear hA hB hB0 hx hr hng ht s1 s2
  have hX0 := C3.new w (.bool x) (.slice aa (nd A).length ca) (.slice ab (nd B).length cb) 26 w.heap.size rfl
  have hG0 : Gr w (w.alloc (.cells #[.bool x, .slice aa (nd A).length ca, .slice ab (nd B).length cb] 26)) := Gr.alloc (Gr.refl _) _
  by_cases hd1 : r.den = 1
  · have HDEN := Lib.hid hd1
    clear hd1
    cases ng
    · have HTX : Hid (ftext r = Lib.decDigits r.num.natAbs) := Lib.hid (by unfold ftext; rw [if_neg (by simpa using HNEG.out), if_pos HDEN.out]; simp)
      go_enter Tryz.func27, Tryz.ntmps27
      go_wp2_with fail
      generalize w.alloc (.cells #[.bool x, .slice aa (nd A).length ca, .slice ab (nd B).length cb] 26) = W0 at *
      refine (fvalid_yes x _ _ _ (HA.out.gr hG0) (HB.out.gr hG0) HB0.out HX.out lA lB).mono ?_
      rintro e w1 ⟨rfl, hg⟩
      have hX := hX0.gr hg
      have hG := hG0.step hg
      obtain ⟨xc0, xc1, xc2, xf0, xf1, xf2, xlt, -⟩ := id hX
      clear hX0 hG0 hg
      go_wp2_with fail
      have hfa : Fra w1 (.agg #[.bool x, .slice aa (nd A).length ca, .slice ab (nd B).length cb]) (rat x A B) := ⟨x, _, _, A, B, rfl, HA.out.gr hG, HB.out.gr hG, HB0.out, HX.out, lA, lB, rfl⟩
      refine (freduce_any _ _ hfa).mono ?_
      rintro e w2 ⟨u, rfl, ⟨vn, vd, rfl, hn, hd⟩, -, hg⟩
      rw [HV.out] at hn hd ⊢
      rw [HNEG.out]
      obtain ⟨an, cn, rfl⟩ := num_slice hn
      obtain ⟨ad, cd, rfl⟩ := num_slice hd
      have hX := hX.gr hg
      have hG := hG.step hg
      have hfl := hX.fill false an ad (nd r.num.natAbs).length (nd r.den).length cn cd
      clear xc0 xc1 xc2 xf0 xf1 xf2 xlt hg hfa
      obtain ⟨xc0, xc1, xc2, xf0, xf1, xf2, xlt, -⟩ := id hX
      obtain ⟨yc0, yc1, yc2, -, -, -, -, -⟩ := id hfl.1
      have hn2 := hfl.2 hn
      have hd2 := hfl.2 hd
      have hG2 := C3.three hG (q := w.heap.size) (Nat.le_refl _) (.bool false) (.slice an (nd r.num.natAbs).length cn) (.slice ad (nd r.den).length cd)
      have hY := hfl.1
      clear hn hd hfl
      go_wp2_with fail
      clear xc0 xc1 xc2 xf0 xf1 xf2 xlt hX hG
      generalize ((w2.setCell ⟨w.heap.size, 0, none⟩ (.bool false)).setCell ⟨w.heap.size, 1, none⟩ (.slice an (nd r.num.natAbs).length cn)).setCell ⟨w.heap.size, 2, none⟩ (.slice ad (nd r.den).length cd) = w3 at *
      refine (text_full (N := r.num.natAbs) _ _ hn2 (by omega) (HT.out.gr hG2)).mono ?_
      rintro e w4 ⟨rfl, hg⟩
      have hY := hY.gr hg
      have hd2 := Num.gr hd2 hg
      have hG2 := hG2.step hg
      clear yc0 yc1 yc2
      obtain ⟨yc0, yc1, yc2, -, -, -, -, -⟩ := id hY
      go_wp2_with fail
      refine (isOne_eq _ _ hd2 HDEN.out).mono ?_
      rintro e w5 ⟨rfl, hg⟩
      go_wp2_with fail
      go_ret
      exact ⟨by rw [HTX.out]; rfl, hG2.step hg⟩
    · have HTX : Hid (ftext r = 45 :: Lib.decDigits r.num.natAbs) := Lib.hid (by unfold ftext; rw [if_pos (by simpa using HNEG.out), if_pos HDEN.out]; simp)
      go_enter Tryz.func27, Tryz.ntmps27
      go_wp2_with fail
      generalize w.alloc (.cells #[.bool x, .slice aa (nd A).length ca, .slice ab (nd B).length cb] 26) = W0 at *
      refine (fvalid_yes x _ _ _ (HA.out.gr hG0) (HB.out.gr hG0) HB0.out HX.out lA lB).mono ?_
      rintro e w1 ⟨rfl, hg⟩
      have hX := hX0.gr hg
      have hG := hG0.step hg
      obtain ⟨xc0, xc1, xc2, xf0, xf1, xf2, xlt, -⟩ := id hX
      clear hX0 hG0 hg
      go_wp2_with fail
      have hfa : Fra w1 (.agg #[.bool x, .slice aa (nd A).length ca, .slice ab (nd B).length cb]) (rat x A B) := ⟨x, _, _, A, B, rfl, HA.out.gr hG, HB.out.gr hG, HB0.out, HX.out, lA, lB, rfl⟩
      refine (freduce_any _ _ hfa).mono ?_
      rintro e w2 ⟨u, rfl, ⟨vn, vd, rfl, hn, hd⟩, -, hg⟩
      rw [HV.out] at hn hd ⊢
      rw [HNEG.out]
      obtain ⟨an, cn, rfl⟩ := num_slice hn
      obtain ⟨ad, cd, rfl⟩ := num_slice hd
      have hX := hX.gr hg
      have hG := hG.step hg
      have hfl := hX.fill true an ad (nd r.num.natAbs).length (nd r.den).length cn cd
      clear xc0 xc1 xc2 xf0 xf1 xf2 xlt hg hfa
      obtain ⟨xc0, xc1, xc2, xf0, xf1, xf2, xlt, -⟩ := id hX
      obtain ⟨yc0, yc1, yc2, -, -, -, -, -⟩ := id hfl.1
      have hn2 := hfl.2 hn
      have hd2 := hfl.2 hd
      have hG2 := C3.three hG (q := w.heap.size) (Nat.le_refl _) (.bool true) (.slice an (nd r.num.natAbs).length cn) (.slice ad (nd r.den).length cd)
      have hY := hfl.1
      clear hn hd hfl
      go_wp2_with fail
      clear xc0 xc1 xc2 xf0 xf1 xf2 xlt hX hG
      generalize ((w2.setCell ⟨w.heap.size, 0, none⟩ (.bool true)).setCell ⟨w.heap.size, 1, none⟩ (.slice an (nd r.num.natAbs).length cn)).setCell ⟨w.heap.size, 2, none⟩ (.slice ad (nd r.den).length cd) = w3 at *
      refine (text_full (N := r.num.natAbs) _ _ hn2 (by omega) (HT.out.gr hG2)).mono ?_
      rintro e w4 ⟨rfl, hg⟩
      have hY := hY.gr hg
      have hd2 := Num.gr hd2 hg
      have hG2 := hG2.step hg
      clear yc0 yc1 yc2
      obtain ⟨yc0, yc1, yc2, -, -, -, -, -⟩ := id hY
      go_wp2_with fail
      refine (isOne_eq _ _ hd2 HDEN.out).mono ?_
      rintro e w5 ⟨rfl, hg⟩
      go_wp2_with fail
      go_ret
      exact ⟨by rw [HTX.out]; rfl, hG2.step hg⟩
  · have HDEN := Lib.hid hd1
    clear hd1
    cases ng
    · have HTX : Hid (ftext r = Lib.decDigits r.num.natAbs ++ 47 :: Lib.decDigits r.den) := Lib.hid (by unfold ftext; rw [if_neg (by simpa using HNEG.out), if_neg HDEN.out]; simp)
      go_enter Tryz.func27, Tryz.ntmps27
      go_wp2_with fail
      generalize w.alloc (.cells #[.bool x, .slice aa (nd A).length ca, .slice ab (nd B).length cb] 26) = W0 at *
      refine (fvalid_yes x _ _ _ (HA.out.gr hG0) (HB.out.gr hG0) HB0.out HX.out lA lB).mono ?_
      rintro e w1 ⟨rfl, hg⟩
      have hX := hX0.gr hg
      have hG := hG0.step hg
      obtain ⟨xc0, xc1, xc2, xf0, xf1, xf2, xlt, -⟩ := id hX
      clear hX0 hG0 hg
      go_wp2_with fail
      have hfa : Fra w1 (.agg #[.bool x, .slice aa (nd A).length ca, .slice ab (nd B).length cb]) (rat x A B) := ⟨x, _, _, A, B, rfl, HA.out.gr hG, HB.out.gr hG, HB0.out, HX.out, lA, lB, rfl⟩
      refine (freduce_any _ _ hfa).mono ?_
      rintro e w2 ⟨u, rfl, ⟨vn, vd, rfl, hn, hd⟩, -, hg⟩
      rw [HV.out] at hn hd ⊢
      rw [HNEG.out]
      obtain ⟨an, cn, rfl⟩ := num_slice hn
      obtain ⟨ad, cd, rfl⟩ := num_slice hd
      have hX := hX.gr hg
      have hG := hG.step hg
      have hfl := hX.fill false an ad (nd r.num.natAbs).length (nd r.den).length cn cd
      clear xc0 xc1 xc2 xf0 xf1 xf2 xlt hg hfa
      obtain ⟨xc0, xc1, xc2, xf0, xf1, xf2, xlt, -⟩ := id hX
      obtain ⟨yc0, yc1, yc2, -, -, -, -, -⟩ := id hfl.1
      have hn2 := hfl.2 hn
      have hd2 := hfl.2 hd
      have hG2 := C3.three hG (q := w.heap.size) (Nat.le_refl _) (.bool false) (.slice an (nd r.num.natAbs).length cn) (.slice ad (nd r.den).length cd)
      have hY := hfl.1
      clear hn hd hfl
      go_wp2_with fail
      clear xc0 xc1 xc2 xf0 xf1 xf2 xlt hX hG
      generalize ((w2.setCell ⟨w.heap.size, 0, none⟩ (.bool false)).setCell ⟨w.heap.size, 1, none⟩ (.slice an (nd r.num.natAbs).length cn)).setCell ⟨w.heap.size, 2, none⟩ (.slice ad (nd r.den).length cd) = w3 at *
      refine (text_full (N := r.num.natAbs) _ _ hn2 (by omega) (HT.out.gr hG2)).mono ?_
      rintro e w4 ⟨rfl, hg⟩
      have hY := hY.gr hg
      have hd2 := Num.gr hd2 hg
      have hG2 := hG2.step hg
      clear yc0 yc1 yc2
      obtain ⟨yc0, yc1, yc2, -, -, -, -, -⟩ := id hY
      go_wp2_with fail
      refine (isOne_no _ _ hd2 (by omega) HDEN.out).mono ?_
      rintro e w5 ⟨rfl, hg⟩
      have hY := hY.gr hg
      have hd2 := Num.gr hd2 hg
      have hG2 := hG2.step hg
      clear yc0 yc1 yc2
      obtain ⟨yc0, yc1, yc2, -, -, -, -, -⟩ := id hY
      go_wp2_with fail
      refine (text_full (N := r.den) _ _ hd2 (by omega) (HT.out.gr hG2)).mono ?_
      rintro e w6 ⟨rfl, hg⟩
      go_wp2_with fail
      go_ret
      exact ⟨by rw [HTX.out]; rfl, hG2.step hg⟩
    · have HTX : Hid (ftext r = 45 :: Lib.decDigits r.num.natAbs ++ 47 :: Lib.decDigits r.den) := Lib.hid (by unfold ftext; rw [if_pos (by simpa using HNEG.out), if_neg HDEN.out]; simp)
      go_enter Tryz.func27, Tryz.ntmps27
      go_wp2_with fail
      generalize w.alloc (.cells #[.bool x, .slice aa (nd A).length ca, .slice ab (nd B).length cb] 26) = W0 at *
      refine (fvalid_yes x _ _ _ (HA.out.gr hG0) (HB.out.gr hG0) HB0.out HX.out lA lB).mono ?_
      rintro e w1 ⟨rfl, hg⟩
      have hX := hX0.gr hg
      have hG := hG0.step hg
      obtain ⟨xc0, xc1, xc2, xf0, xf1, xf2, xlt, -⟩ := id hX
      clear hX0 hG0 hg
      go_wp2_with fail
      have hfa : Fra w1 (.agg #[.bool x, .slice aa (nd A).length ca, .slice ab (nd B).length cb]) (rat x A B) := ⟨x, _, _, A, B, rfl, HA.out.gr hG, HB.out.gr hG, HB0.out, HX.out, lA, lB, rfl⟩
      refine (freduce_any _ _ hfa).mono ?_
      rintro e w2 ⟨u, rfl, ⟨vn, vd, rfl, hn, hd⟩, -, hg⟩
      rw [HV.out] at hn hd ⊢
      rw [HNEG.out]
      obtain ⟨an, cn, rfl⟩ := num_slice hn
      obtain ⟨ad, cd, rfl⟩ := num_slice hd
      have hX := hX.gr hg
      have hG := hG.step hg
      have hfl := hX.fill true an ad (nd r.num.natAbs).length (nd r.den).length cn cd
      clear xc0 xc1 xc2 xf0 xf1 xf2 xlt hg hfa
      obtain ⟨xc0, xc1, xc2, xf0, xf1, xf2, xlt, -⟩ := id hX
      obtain ⟨yc0, yc1, yc2, -, -, -, -, -⟩ := id hfl.1
      have hn2 := hfl.2 hn
      have hd2 := hfl.2 hd
      have hG2 := C3.three hG (q := w.heap.size) (Nat.le_refl _) (.bool true) (.slice an (nd r.num.natAbs).length cn) (.slice ad (nd r.den).length cd)
      have hY := hfl.1
      clear hn hd hfl
      go_wp2_with fail
      clear xc0 xc1 xc2 xf0 xf1 xf2 xlt hX hG
      generalize ((w2.setCell ⟨w.heap.size, 0, none⟩ (.bool true)).setCell ⟨w.heap.size, 1, none⟩ (.slice an (nd r.num.natAbs).length cn)).setCell ⟨w.heap.size, 2, none⟩ (.slice ad (nd r.den).length cd) = w3 at *
      refine (text_full (N := r.num.natAbs) _ _ hn2 (by omega) (HT.out.gr hG2)).mono ?_
      rintro e w4 ⟨rfl, hg⟩
      have hY := hY.gr hg
      have hd2 := Num.gr hd2 hg
      have hG2 := hG2.step hg
      clear yc0 yc1 yc2
      obtain ⟨yc0, yc1, yc2, -, -, -, -, -⟩ := id hY
      go_wp2_with fail
      refine (isOne_no _ _ hd2 (by omega) HDEN.out).mono ?_
      rintro e w5 ⟨rfl, hg⟩
      have hY := hY.gr hg
      have hd2 := Num.gr hd2 hg
      have hG2 := hG2.step hg
      clear yc0 yc1 yc2
      obtain ⟨yc0, yc1, yc2, -, -, -, -, -⟩ := id hY
      go_wp2_with fail
      refine (text_full (N := r.den) _ _ hd2 (by omega) (HT.out.gr hG2)).mono ?_
      rintro e w6 ⟨rfl, hg⟩
      go_wp2_with fail
      go_ret
      exact ⟨by rw [HTX.out]; rfl, hG2.step hg⟩
theorem ftext_any {r : Rat} (v : Value) (w : World) (ha : Fra w v r) (ht : Tab w) :
    Calls Tryz.prog 27 #[v] w fun e w' => e = .returned (.string (str (ftext r))) ∧ Gr w w' := ftext_at _ rfl v w ha ht
end Go.Proofs.YtjpjnbgfodlkcaaGreatDoor
