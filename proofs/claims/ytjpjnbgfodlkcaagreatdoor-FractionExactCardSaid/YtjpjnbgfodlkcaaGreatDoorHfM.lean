/- The document's Compare and Text of fractions. -/
import Derived.Test.YtjpjnbgfodlkcaaGreatDoorGAU
import Derived.Test.YtjpjnbgfodlkcaaGreatDoorEtM
import Derived.Test.YtjpjnbgfodlkcaaGreatDoorGAP
import Derived.WalkKit
import Derived.WalkSpells
import Derived.WalkLawsBesides
import Derived.WalkSmall
import Derived.Handy
import Derived.BigQuiet
import Derived.Deep.QuietTactic
import Derived.Deep.RegionHeld3
import Derived.Deep.DeepFit
import Derived.Below
import Derived.Lib.Hide
import Derived.Lib.QuietBelow
namespace Go.Proofs.YtjpjnbgfodlkcaaGreatDoor
open Go Go.RowKit Go.Sort
set_option maxRecDepth 100000
set_option linter.unusedVariables false
theorem red_parts {w : World} {b : Bool} {p1 p2 : Option Addr} {n1 n2 c1 c2 : Nat} {r : Rat} (h : Red w (.agg #[.bool b, .slice p1 n1 c1, .slice p2 n2 c2]) r) : b = decide (r.num < 0) ∧ n1 = (nd r.num.natAbs).length := by
  obtain ⟨vn, vd, e, hn, hd⟩ := h
  simp only [Value.agg.injEq, Array.mk.injEq, List.cons.injEq, and_true, Value.bool.injEq] at e
  obtain ⟨rfl, rfl, rfl⟩ := e
  obtain ⟨a, c, e, -⟩ := hn
  simp only [Value.slice.injEq] at e
  exact ⟨rfl, e.2.1⟩
set_option maxHeartbeats 4000000 in
theorem rforder_any {a b : Rat} (v u : Value) (w : World) (ha : Fra w v a) (hb : Fra w u b) :
    Calls Tryz.prog 53 #[v, u] w fun e w' => e = .returned (.int .i64 (rcmp a b)) ∧ Gr w w' := by
  have HFA := Lib.hid ha
  have HFB := Lib.hid hb
  obtain ⟨x, va, vb, A, B, rfl, hA, hB, -⟩ := id ha
  obtain ⟨y, vc, vd, C, D, rfl, hC, hD, -⟩ := id hb
  obtain ⟨aa, ca, rfl⟩ := num_slice hA
  obtain ⟨ab, cb, rfl⟩ := num_slice hB
  obtain ⟨ac, cc, rfl⟩ := num_slice hC
  obtain ⟨ad, cd, rfl⟩ := num_slice hD
  clear ha hb hA hB hC hD
  have hX := (C3.new w (.bool x) (.slice aa (nd A).length ca) (.slice ab (nd B).length cb) 26 w.heap.size rfl).gr (Gr.alloc (Gr.refl _) (.cells #[.bool y, .slice ac (nd C).length cc, .slice ad (nd D).length cd] 26))
  have hY := C3.new (w.alloc (.cells #[.bool x, .slice aa (nd A).length ca, .slice ab (nd B).length cb] 26)) (.bool y) (.slice ac (nd C).length cc) (.slice ad (nd D).length cd) 26 (w.heap.size + 1) (by simp)
  have hG : Gr w ((w.alloc (.cells #[.bool x, .slice aa (nd A).length ca, .slice ab (nd B).length cb] 26)).alloc (.cells #[.bool y, .slice ac (nd C).length cc, .slice ad (nd D).length cd] 26)) := (Gr.alloc (Gr.refl _) _).alloc _
  go_enter Tryz.func53, Tryz.ntmps53
  go_wp2_with fail
  generalize (w.alloc (.cells #[.bool x, .slice aa (nd A).length ca, .slice ab (nd B).length cb] 26)).alloc (.cells #[.bool y, .slice ac (nd C).length cc, .slice ad (nd D).length cd] 26) = W0 at *
  replace hX := hX.gr (Gr.drew (Gr.refl _))
  replace hY := hY.gr (Gr.drew (Gr.refl _))
  replace hG := hG.step (Gr.drew (Gr.refl _))
  have hS := And.intro hX hY
  refine region_plain (fun W => C3 W w.heap.size (.bool x) (.slice aa (nd A).length ca) (.slice ab (nd B).length cb) ∧ C3 W (w.heap.size + 1) (.bool y) (.slice ac (nd C).length cc) (.slice ad (nd D).length cd)) (by kernel_rfl) ?_
  refine take_at 0 (some 6) (v := ?va0) rfl rfl (by kernel_rfl) (by kernel_rfl) (by kernel_rfl) (by rfl) ?ya0 hS ?ta0
  case ya0 =>
    intro w' hSw
    obtain ⟨⟨xc0, xc1, xc2, -, -, -, -, -⟩, yc0, yc1, yc2, -, -, -, -, -⟩ := hSw
    go_simp
    (try with_reducible rfl)
  simp only [Act.put, List.setIfInBounds_toArray, List.set_cons_zero, List.set_cons_succ]
  refine take_at 1 (some 7) (v := ?va1) rfl rfl (by kernel_rfl) (by kernel_rfl) (by kernel_rfl) (by rfl) ?ya1 hS ?ta1
  case ya1 =>
    intro w' hSw
    obtain ⟨⟨xc0, xc1, xc2, -, -, -, -, -⟩, yc0, yc1, yc2, -, -, -, -, -⟩ := hSw
    go_simp
    (try with_reducible rfl)
  simp only [Act.put, List.setIfInBounds_toArray, List.set_cons_zero, List.set_cons_succ]
  refine next_two 2 4 rfl rfl (by kernel_rfl) (by rfl) (by rfl) (fun K hK => ?_) (fun K hK => ?_)
  · skip
    go_simp
    refine ((ropp_any _ _ (HFB.out.gr hG)).mono ?_)
    rintro e wo ⟨bo, o1, o2, l1, l2, j1, j2, rfl, ho, hg⟩
    have HO := Lib.hid ho
    replace hX := hX.gr hg
    replace hY := hY.gr hg
    replace hG := hG.step hg
    replace hS := And.intro hX hY
    refine hK _ _ hS ?_
    clear hK K hg ho
    refine next_two 3 4 rfl rfl (by kernel_rfl) (by rfl) (by rfl) (fun K hK => ?_) (fun K hK => ?_)
    · skip
      go_simp
      refine ((rsum_any _ _ _ (HFA.out.gr hG) HO.out).mono ?_)
      rintro e ws ⟨b1, p1, p2, n1, n2, c1, c2, rfl, hred, hg⟩
      have HRED := Lib.hid hred.red
      replace hX := hX.gr hg
      replace hY := hY.gr hg
      replace hG := hG.step hg
      replace hS := And.intro hX hY
      refine hK _ _ hS ?_
      clear hK K hg hred HO
      refine next_at 4 rfl (by kernel_rfl) (by rfl) (fun K hK => ?_)
      go_simp
      have hkd : w.heap.size + 1 < ws.heap.size := hY.lt
      have hD := C3.new ws (.bool false) (.slice none 0 0) (.slice none 0 0) 26 ws.heap.size rfl
      have hg : Gr ws (ws.alloc (.cells #[.bool false, .slice none 0 0, .slice none 0 0] 26)) := Gr.alloc (Gr.refl _) _
      replace hX := hX.gr hg
      replace hY := hY.gr hg
      replace hG := hG.step hg
      replace hS := And.intro hX hY
      refine hK _ _ hS ?_
      clear hK K
      generalize ws.alloc (.cells #[.bool false, .slice none 0 0, .slice none 0 0] 26) = WD at *
      have HRED := Lib.hid (HRED.out.gr hg)
      clear hg
      obtain ⟨hb1, hn1⟩ := red_parts HRED.out
      have HN1 := Lib.hid hn1
      have HB1 := Lib.hid hb1
      clear hb1
      have HCMP := Lib.hid (rcmp_sub a b)
      rw [Rat.sub_eq_add_neg] at HCMP
      have hfl := hD.fill b1 p1 p2 n1 n2 c1 c2
      obtain ⟨dc0, dc1, dc2, df0, df1, df2, dlt, -⟩ := id hD
      have hSX := ((hX.other (o := 0) (.bool b1) (s := ws.heap.size) (by omega)).other (o := 1) (.slice p1 n1 c1) (s := ws.heap.size) (by omega)).other (o := 2) (.slice p2 n2 c2) (s := ws.heap.size) (by omega)
      have hSY := ((hY.other (o := 0) (.bool b1) (s := ws.heap.size) (by omega)).other (o := 1) (.slice p1 n1 c1) (s := ws.heap.size) (by omega)).other (o := 2) (.slice p2 n2 c2) (s := ws.heap.size) (by omega)
      have HG2 := Lib.hid (C3.three hG (show w.heap.size ≤ ws.heap.size by omega) (.bool b1) (.slice p1 n1 c1) (.slice p2 n2 c2))
      clear hn1
      refine next_at 5 rfl (by kernel_rfl) (by rfl) (fun K hK => ?_)
      go_simp
      refine hK _ _ (And.intro hSX hSY) ?_
      clear hK K
      refine wpAnyH_done (by kernel_rfl) ?_ _
      refine qz_normal ?_
      have hD2 := hfl.1
      obtain ⟨sc0, sc1, sc2, -, -, -, -, -⟩ := id hD2
      clear dc0 dc1 dc2 df0 df1 df2 dlt hSX hSY hfl
      have hb1 := HB1.out
      clear HB1
      by_cases hneg : (a + -b).num < 0
      · rw [decide_eq_true hneg] at hb1
        subst hb1
        have HC : Hid (rcmp a b = -1) := Lib.hid (by rw [HCMP.out, if_pos hneg])
        clear hneg
        go_wp2_with fail
        go_ret
        exact ⟨ret_int HC.out.symm, HG2.out⟩
      · rw [decide_eq_false hneg] at hb1
        subst hb1
        have HC : Hid (rcmp a b = min (n1 : Int) 1) := Lib.hid (by
          rw [HCMP.out, if_neg hneg, ← HN1.out]
          by_cases h0 : n1 = 0
          · rw [if_pos h0, h0]; rfl
          · rw [if_neg h0]; omega)
        clear hneg
        go_wp2_with fail
        go_ret
        exact ⟨ret_int HC.out.symm, HG2.out⟩
    · skip
      go_simp
      have hkd : w.heap.size + 1 < wo.heap.size := hY.lt
      have hD := C3.new wo (.bool false) (.slice none 0 0) (.slice none 0 0) 26 wo.heap.size rfl
      have hg : Gr wo (wo.alloc (.cells #[.bool false, .slice none 0 0, .slice none 0 0] 26)) := Gr.alloc (Gr.refl _) _
      replace hX := hX.gr hg
      replace hY := hY.gr hg
      replace hG := hG.step hg
      replace hS := And.intro hX hY
      refine hK _ _ hS ?_
      clear hK K
      have HO := Lib.hid (HO.out.gr hg)
      clear hg
      refine next_at 3 rfl (by kernel_rfl) (by rfl) (fun K hK => ?_)
      go_simp
      refine ((rsum_any _ _ _ (HFA.out.gr hG) HO.out).mono ?_)
      rintro e ws ⟨b1, p1, p2, n1, n2, c1, c2, rfl, hred, hg⟩
      have HRED := Lib.hid hred.red
      replace hX := hX.gr hg
      replace hY := hY.gr hg
      replace hG := hG.step hg
      replace hS := And.intro hX hY
      replace hD := hD.gr hg
      refine hK _ _ hS ?_
      clear hK K hg hred HO
      obtain ⟨hb1, hn1⟩ := red_parts HRED.out
      have HN1 := Lib.hid hn1
      have HB1 := Lib.hid hb1
      clear hb1
      have HCMP := Lib.hid (rcmp_sub a b)
      rw [Rat.sub_eq_add_neg] at HCMP
      have hfl := hD.fill b1 p1 p2 n1 n2 c1 c2
      obtain ⟨dc0, dc1, dc2, df0, df1, df2, dlt, -⟩ := id hD
      have hSX := ((hX.other (o := 0) (.bool b1) (s := wo.heap.size) (by omega)).other (o := 1) (.slice p1 n1 c1) (s := wo.heap.size) (by omega)).other (o := 2) (.slice p2 n2 c2) (s := wo.heap.size) (by omega)
      have hSY := ((hY.other (o := 0) (.bool b1) (s := wo.heap.size) (by omega)).other (o := 1) (.slice p1 n1 c1) (s := wo.heap.size) (by omega)).other (o := 2) (.slice p2 n2 c2) (s := wo.heap.size) (by omega)
      have HG2 := Lib.hid (C3.three hG (show w.heap.size ≤ wo.heap.size by omega) (.bool b1) (.slice p1 n1 c1) (.slice p2 n2 c2))
      clear hn1
      refine next_at 5 rfl (by kernel_rfl) (by rfl) (fun K hK => ?_)
      go_simp
      refine hK _ _ (And.intro hSX hSY) ?_
      clear hK K
      refine wpAnyH_done (by kernel_rfl) ?_ _
      refine qz_normal ?_
      have hD2 := hfl.1
      obtain ⟨sc0, sc1, sc2, -, -, -, -, -⟩ := id hD2
      clear dc0 dc1 dc2 df0 df1 df2 dlt hSX hSY hfl
      have hb1 := HB1.out
      clear HB1
      by_cases hneg : (a + -b).num < 0
      · rw [decide_eq_true hneg] at hb1
        subst hb1
        have HC : Hid (rcmp a b = -1) := Lib.hid (by rw [HCMP.out, if_pos hneg])
        clear hneg
        go_wp2_with fail
        go_ret
        exact ⟨ret_int HC.out.symm, HG2.out⟩
      · rw [decide_eq_false hneg] at hb1
        subst hb1
        have HC : Hid (rcmp a b = min (n1 : Int) 1) := Lib.hid (by
          rw [HCMP.out, if_neg hneg, ← HN1.out]
          by_cases h0 : n1 = 0
          · rw [if_pos h0, h0]; rfl
          · rw [if_neg h0]; omega)
        clear hneg
        go_wp2_with fail
        go_ret
        exact ⟨ret_int HC.out.symm, HG2.out⟩
  · skip
    go_simp
    have hkd : w.heap.size + 1 < W0.heap.size := hY.lt
    have hD := C3.new W0.drew (.bool false) (.slice none 0 0) (.slice none 0 0) 26 W0.heap.size rfl
    have hg : Gr W0.drew (W0.drew.alloc (.cells #[.bool false, .slice none 0 0, .slice none 0 0] 26)) := Gr.alloc (Gr.refl _) _
    replace hX := hX.gr hg
    replace hY := hY.gr hg
    replace hG := hG.step hg
    replace hS := And.intro hX hY
    refine hK _ _ hS ?_
    clear hK K
    clear hg
    refine next_at 2 rfl (by kernel_rfl) (by rfl) (fun K hK => ?_)
    go_simp
    refine ((ropp_any _ _ (HFB.out.gr hG)).mono ?_)
    rintro e wo ⟨bo, o1, o2, l1, l2, j1, j2, rfl, ho, hg⟩
    have HO := Lib.hid ho
    replace hX := hX.gr hg
    replace hY := hY.gr hg
    replace hG := hG.step hg
    replace hS := And.intro hX hY
    replace hD := hD.gr hg
    refine hK _ _ hS ?_
    clear hK K hg ho
    refine next_at 3 rfl (by kernel_rfl) (by rfl) (fun K hK => ?_)
    go_simp
    refine ((rsum_any _ _ _ (HFA.out.gr hG) HO.out).mono ?_)
    rintro e ws ⟨b1, p1, p2, n1, n2, c1, c2, rfl, hred, hg⟩
    have HRED := Lib.hid hred.red
    replace hX := hX.gr hg
    replace hY := hY.gr hg
    replace hG := hG.step hg
    replace hS := And.intro hX hY
    replace hD := hD.gr hg
    refine hK _ _ hS ?_
    clear hK K hg hred HO
    obtain ⟨hb1, hn1⟩ := red_parts HRED.out
    have HN1 := Lib.hid hn1
    have HB1 := Lib.hid hb1
    clear hb1
    have HCMP := Lib.hid (rcmp_sub a b)
    rw [Rat.sub_eq_add_neg] at HCMP
    have hfl := hD.fill b1 p1 p2 n1 n2 c1 c2
    obtain ⟨dc0, dc1, dc2, df0, df1, df2, dlt, -⟩ := id hD
    have hSX := ((hX.other (o := 0) (.bool b1) (s := W0.heap.size) (by omega)).other (o := 1) (.slice p1 n1 c1) (s := W0.heap.size) (by omega)).other (o := 2) (.slice p2 n2 c2) (s := W0.heap.size) (by omega)
    have hSY := ((hY.other (o := 0) (.bool b1) (s := W0.heap.size) (by omega)).other (o := 1) (.slice p1 n1 c1) (s := W0.heap.size) (by omega)).other (o := 2) (.slice p2 n2 c2) (s := W0.heap.size) (by omega)
    have HG2 := Lib.hid (C3.three hG (show w.heap.size ≤ W0.heap.size by omega) (.bool b1) (.slice p1 n1 c1) (.slice p2 n2 c2))
    clear hn1
    refine next_at 5 rfl (by kernel_rfl) (by rfl) (fun K hK => ?_)
    go_simp
    refine hK _ _ (And.intro hSX hSY) ?_
    clear hK K
    refine wpAnyH_done (by kernel_rfl) ?_ _
    refine qz_normal ?_
    have hD2 := hfl.1
    obtain ⟨sc0, sc1, sc2, -, -, -, -, -⟩ := id hD2
    clear dc0 dc1 dc2 df0 df1 df2 dlt hSX hSY hfl
    have hb1 := HB1.out
    clear HB1
    by_cases hneg : (a + -b).num < 0
    · rw [decide_eq_true hneg] at hb1
      subst hb1
      have HC : Hid (rcmp a b = -1) := Lib.hid (by rw [HCMP.out, if_pos hneg])
      clear hneg
      go_wp2_with fail
      go_ret
      exact ⟨ret_int HC.out.symm, HG2.out⟩
    · rw [decide_eq_false hneg] at hb1
      subst hb1
      have HC : Hid (rcmp a b = min (n1 : Int) 1) := Lib.hid (by
        rw [HCMP.out, if_neg hneg, ← HN1.out]
        by_cases h0 : n1 = 0
        · rw [if_pos h0, h0]; rfl
        · rw [if_neg h0]; omega)
      clear hneg
      go_wp2_with fail
      go_ret
      exact ⟨ret_int HC.out.symm, HG2.out⟩
end Go.Proofs.YtjpjnbgfodlkcaaGreatDoor
