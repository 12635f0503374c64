/- The program's joined. -/
import Derived.Test.YtefocmcpeigfcaaAd
import Derived.WalkKit
import Derived.WalkSpells
import Derived.WalkLawsBesides
import Derived.WalkSmall
import Derived.Handy
import Derived.BigQuiet
import Derived.Deep.QuietTactic
import Derived.Deep.RegionHeld3
import Derived.Deep.DeepFit
import Derived.Below
import Derived.Lib.Hide
import Derived.Lib.QuietBelow
import Derived.Deep.DeepCutAuto
namespace Go.Proofs.Ytefocmcpeigfcaa
open Go Go.RowKit Go.Sort
set_option maxRecDepth 100000
set_option linter.unusedVariables false
/-- parts of a table, as a slice of slices -/
def Pt (p : Nat → Prop) (w : World) (v : Value) (ls : List (List Rt)) : Prop :=
  ∃ (b off cap : Nat), v = .slice (some ⟨b, off, none⟩) ls.length cap ∧ ls.length ≤ cap ∧ ∀ (i : Nat) (l : List Rt), ls[i]? = some l → ∃ v', w.cell? ⟨b, off + i, none⟩ = some v' ∧ Tb p w v' l
theorem flat_one (ls : List (List Rt)) (k : Nat) (l : List Rt) (h : ls[k]? = some l) : (ls.take (k + 1)).flatten = (ls.take k).flatten ++ l := by
  rw [List.take_add_one, h]; simp
theorem take_one (l : List Rt) (k : Nat) (r : Rt) (h : l[k]? = some r) : l.take (k + 1) = l.take k ++ [r] := by
  rw [List.take_add_one, h]; rfl
theorem flat_len (ls : List (List Rt)) (h : ∀ l ∈ ls, l.length ≤ 1000) : ls.flatten.length ≤ 1000 * ls.length := by
  induction ls with
  | nil => simp
  | cons x t ih =>
    have h1 := h x (by simp)
    have h2 := ih fun l hl => h l (by simp [hl])
    rw [List.flatten_cons, List.length_append, List.length_cons]; omega
set_option maxHeartbeats 2000000 in
theorem joined_any {p : Nat → Prop} (v : Value) (ls : List (List Rt)) (w : World) (h : Pt p w v ls) (hf : ∀ l ∈ ls, Few l) (hn : ls.length ≤ 10) :
    Calls Try.prog 39 #[v] w (TabPost ls.flatten w) := by
  obtain ⟨b, off, cap, rfl, hlc, hp⟩ := h
  have HP := Lib.hid hp
  have HF := Lib.hid hf
  have HFL := Lib.hid (flat_len (ls.take 0) (by simp))
  clear hp hf
  generalize hln : ls.length = len at *
  have HN := Lib.hid hln
  clear hln HFL
  go_enter Try.func39, Try.ntmps39
  go_wp2_with fail
  go_loopw [3, 10] (fun out i wr => ∃ k : Nat, i = .int .i64 k ∧ k ≤ len ∧ OwT w.heap.size wr out (ls.take k).flatten ∧ Gr w wr)
    (fun _ i _ => len - (intOf i).toNat)
  case atStart => exact ⟨0, rfl, by omega, OwT.nil _ _, Gr.refl _⟩
  case round =>
    obtain ⟨k, rfl, hk, hO, hG⟩ := hrel
    by_cases hlt : k < len
    · obtain ⟨l, hl⟩ : ∃ l, ls[k]? = some l := ⟨_, List.getElem?_eq_getElem (by have := HN.out; omega)⟩
      obtain ⟨v', hcell, hT⟩ := HP.out k l hl
      have hfew := HF.out l (List.mem_of_getElem? hl)
      have hstep := flat_one ls k l hl
      have hfl : (ls.take k).flatten.length ≤ 10000 := by
        refine Nat.le_trans (flat_len (ls.take k) fun l hl => (HF.out l (List.mem_of_mem_take hl)).1) ?_
        rw [List.length_take]; omega
      obtain ⟨ad, cp, rfl, hlc2, hcp2⟩ := hT.form
      have HT := Lib.hid hT
      have HW := Lib.hid hfew
      have hll := hfew.1
      generalize (ls.take k).flatten = acc at *
      generalize hlm : l.length = m at *
      have HM := Lib.hid hlm
      have HS := Lib.hid hstep
      have HO := Lib.hid hO
      have c0 := ((Gr.cells hG).1 b (off + k) (World.block_lt_of_cell? _ _ hcell)).trans hcell
      have k0 : (k : Int) < (len : Int) := by omega
      clear hT hfew hlm hstep hcell hO hl
      go_wp2_with fail
      go_loopw [3, 16] (fun out i wv => ∃ j : Nat, i = .int .i64 j ∧ j ≤ m ∧ OwT w.heap.size wv out (acc ++ l.take j) ∧ Gr w wv)
        (fun _ i _ => m - (intOf i).toNat)
      case atStart => exact ⟨0, rfl, by omega, by simpa using HO.out, hG⟩
      case round =>
        obtain ⟨j, rfl, hj, hO, hG2⟩ := hrel
        have HO2 := Lib.hid hO
        clear hO
        by_cases hjm : j < m
        · obtain ⟨r, hr⟩ : ∃ r, l[j]? = some r := ⟨_, List.getElem?_eq_getElem (by have := HM.out; omega)⟩
          obtain ⟨b2, o2, nv, rfl, -, ⟨d0, d1, d2, d3⟩, hok, hnx⟩ := (HT.out.gr hG2).at' hr
          have hrn := HW.out.2 r (List.mem_of_getElem? hr)
          have hst := take_one l j r hr
          have HST := Lib.hid hst
          obtain ⟨ad2, cp3, rfl⟩ := hnx.form
          have HX := Lib.hid hnx
          have HK := Lib.hid hok
          have HL := Lib.hid hrn
          have j0 : (j : Int) < (m : Int) := by omega
          have htl : (l.take j).length ≤ j := by rw [List.length_take]; omega
          clear hst hr hok hnx hrn c0
          go_wp2_with fail
          have hGa : Gr wr (wr.alloc (.cells #[.int .u32 r.a, .int .i64 r.n, .slice ad2 r.nx.length cp3, .int .i64 r.bal] 34)) := (Gr.refl _).alloc _
          have hsz : (wr.alloc (.cells #[.int .u32 r.a, .int .i64 r.n, .slice ad2 r.nx.length cp3, .int .i64 r.bal] 34)).heap.size = wr.heap.size + 1 := by simp
          generalize hwa : wr.alloc (.cells #[.int .u32 r.a, .int .i64 r.n, .slice ad2 r.nx.length cp3, .int .i64 r.bal] 34) = wa at *
          clear hwa
          refine (own_any _ r wa ⟨_, rfl, HK.out, HX.out.gr hGa⟩ HL.out).mono ?_
          rintro e w2 ⟨v', rfl, ⟨nv2, rfl, hok2, hnx2⟩, hg2⟩
          unfold rtv
          dsimp only
          have hgs : w.heap.size ≤ wr.heap.size := Gr.size hG2
          have HN2 := Lib.hid ((OwT.fresh HO2.out hGa hgs hnx2).gr ((Gr.refl _).alloc (.cells #[.int .u32 r.a, .int .i64 r.n, nv2, .int .i64 r.bal] 34)))
          have hO3 := Lib.hid ((HO2.out.gr (hGa.step hg2)).gr ((Gr.refl _).alloc (.cells #[.int .u32 r.a, .int .i64 r.n, nv2, .int .i64 r.bal] 34)))
          have hs3 := Gr.size (hGa.step hg2)
          clear hnx2 hok2 d0 d1 d2 d3
          go_wp2_with (at_builtin; refine wpList_addR (base := w.heap.size) (g := w2.heap.size) (y := (r, nv2)) rfl (.tmp 20) (.tmp 23) rfl rfl hO3.out rfl (rc_new _ _ _ _) HK.out HN2.out (by rw [List.length_append]; omega) (by simp; omega) ?_; intro v3 w3 ho3 g3; have hG3 : Gr w w3 := ((hG2.step (hGa.step hg2)).alloc _).grown g3 (fun k hk => (HO2.out.lt k hk).1); clear g3; have HO3 := Lib.hid ho3; clear ho3 hO3 HN2)
          case roundEnd =>
            refine ⟨⟨j + 1, rfl, by omega, ?_, hG3⟩, by simp only [intOf]; omega⟩
            rw [HST.out, ← List.append_assoc]
            exact HO3.out
        · obtain rfl : j = m := by omega
          have j0 : ¬ (j : Int) < (j : Int) := by omega
          go_wp2_with fail
          case roundEnd =>
            refine ⟨⟨k + 1, rfl, by omega, ?_, hG2⟩, by simp only [intOf]; omega⟩
            rw [HS.out]
            have := HO2.out
            rw [← HM.out, List.take_length] at this
            exact this
    · obtain rfl : k = len := by omega
      have k0 : ¬ (k : Int) < (k : Int) := by omega
      go_wp2_with fail
      go_ret
      rw [← HN.out, List.take_length] at hO
      exact ⟨_, rfl, hO, hG⟩
end Go.Proofs.Ytefocmcpeigfcaa
