/- Several texts in one. -/
import Derived.Test.YtjpjnbgfodlkcaaGreatDoorGAL
import Derived.WalkKit
import Derived.WalkSpells
import Derived.WalkLawsBesides
import Derived.WalkSmall
import Derived.Handy
import Derived.BigQuiet
import Derived.Deep.QuietTactic
import Derived.Deep.RegionHeld3
import Derived.Deep.DeepFit
import Derived.Below
import Derived.Lib.Hide
import Derived.Lib.QuietBelow
import Derived.Test.YtjpjnbgfodlkcaaGreatDoorGAH
import Derived.Deep.DeepCutAuto
import Derived.Test.YtjpjnbgfodlkcaaGreatDoorGAB
/- The document's sum of fractions. -/
namespace Go.Proofs.YtjpjnbgfodlkcaaGreatDoor
open Go Go.RowKit Go.Sort
set_option maxRecDepth 100000
set_option linter.unusedVariables false
theorem less_one {A B : Nat} (va vb : Value) (w : World) (hA : Num w va A) (hB : Num w vb B) (hBA : B ≤ A) (lA : (nd A).length ≤ 10000) :
    Calls Tryz.prog 79 #[va, vb] w (OneNum w (A - B)) :=
  less_any va vb w hA hB hBA lA
set_option maxHeartbeats 4000000 in
theorem rsum_any {a b : Rat} (v u : Value) (w : World) (ha : Fra w v a) (hb : Fra w u b) :
    Calls Tryz.prog 43 #[v, u] w (RRed w (a + b)) := by
  obtain ⟨x, va, vb, A, B, rfl, hA, hB, hB0, hx, lA, lB, rfl⟩ := ha
  obtain ⟨y, vc, vd, C, D, rfl, hC, hD, hD0, hy, lC, lD, rfl⟩ := hb
  obtain ⟨aa, ca, rfl⟩ := num_slice hA
  obtain ⟨ab, cb, rfl⟩ := num_slice hB
  obtain ⟨ac, cc, rfl⟩ := num_slice hC
  obtain ⟨ad, cd, rfl⟩ := num_slice hD
  have HA := Lib.hid hA
  have HB := Lib.hid hB
  have HC := Lib.hid hC
  have HD := Lib.hid hD
  have HBD := Lib.hid (Nat.mul_pos hB0 hD0)
  have lX := nd_mul' lA lD
  have lY := nd_mul' lC lB
  have lZ := nd_mul' lB lD
  have HADD := Lib.hid (rat_add (x := x) (y := y) (A := A) (C := C) hB0 hD0)
  clear hA hB hC hD hB0 hD0 hx hy
  have hX := ((C3.new w (.bool x) (.slice aa (nd A).length ca) (.slice ab (nd B).length cb) 26 w.heap.size rfl).gr (Gr.alloc (Gr.refl _) (.cells #[.bool y, .slice ac (nd C).length cc, .slice ad (nd D).length cd] 26))).gr (Gr.alloc (Gr.refl _) (.cells #[.bool false, .slice none 0 0, .slice none 0 0] 26))
  have hY := (C3.new (w.alloc (.cells #[.bool x, .slice aa (nd A).length ca, .slice ab (nd B).length cb] 26)) (.bool y) (.slice ac (nd C).length cc) (.slice ad (nd D).length cd) 26 (w.heap.size + 1) (by simp)).gr (Gr.alloc (Gr.refl _) (.cells #[.bool false, .slice none 0 0, .slice none 0 0] 26))
  have hR := C3.new ((w.alloc (.cells #[.bool x, .slice aa (nd A).length ca, .slice ab (nd B).length cb] 26)).alloc (.cells #[.bool y, .slice ac (nd C).length cc, .slice ad (nd D).length cd] 26)) (.bool false) (.slice none 0 0) (.slice none 0 0) 26 (w.heap.size + 1 + 1) (by simp)
  have hG : Gr w (((w.alloc (.cells #[.bool x, .slice aa (nd A).length ca, .slice ab (nd B).length cb] 26)).alloc (.cells #[.bool y, .slice ac (nd C).length cc, .slice ad (nd D).length cd] 26)).alloc (.cells #[.bool false, .slice none 0 0, .slice none 0 0] 26)) := ((Gr.alloc (Gr.refl _) _).alloc _).alloc _
  go_enter Tryz.func43, Tryz.ntmps43
  go_wp2_with fail
  generalize ((w.alloc (.cells #[.bool x, .slice aa (nd A).length ca, .slice ab (nd B).length cb] 26)).alloc (.cells #[.bool y, .slice ac (nd C).length cc, .slice ad (nd D).length cd] 26)).alloc (.cells #[.bool false, .slice none 0 0, .slice none 0 0] 26) = W0 at *
  have hS : Gr W0 W0.drew := Gr.drew (Gr.refl _)
  refine region_plain (Gr W0) (by kernel_rfl) ?_
  refine take_at 0 (some 8) (v := ?va0) rfl rfl (by kernel_rfl) (by kernel_rfl) (by kernel_rfl) (by rfl) ?ya0 hS ?ta0
  case ya0 =>
    intro w' hSw
    obtain ⟨xc0, xc1, xc2, -, -, -, -, -⟩ := hX.gr hSw
    obtain ⟨yc0, yc1, yc2, -, -, -, -, -⟩ := hY.gr hSw
    go_simp
    (try with_reducible rfl)
  simp only [Act.put, List.setIfInBounds_toArray, List.set_cons_zero, List.set_cons_succ]
  refine take_at 1 (some 9) (v := ?va1) rfl rfl (by kernel_rfl) (by kernel_rfl) (by kernel_rfl) (by rfl) ?ya1 hS ?ta1
  case ya1 =>
    intro w' hSw
    obtain ⟨xc0, xc1, xc2, -, -, -, -, -⟩ := hX.gr hSw
    obtain ⟨yc0, yc1, yc2, -, -, -, -, -⟩ := hY.gr hSw
    go_simp
    (try with_reducible rfl)
  simp only [Act.put, List.setIfInBounds_toArray, List.set_cons_zero, List.set_cons_succ]
  refine take_at 2 (some 10) (v := ?va2) rfl rfl (by kernel_rfl) (by kernel_rfl) (by kernel_rfl) (by rfl) ?ya2 hS ?ta2
  case ya2 =>
    intro w' hSw
    obtain ⟨xc0, xc1, xc2, -, -, -, -, -⟩ := hX.gr hSw
    obtain ⟨yc0, yc1, yc2, -, -, -, -, -⟩ := hY.gr hSw
    go_simp
    (try with_reducible rfl)
  simp only [Act.put, List.setIfInBounds_toArray, List.set_cons_zero, List.set_cons_succ]
  refine take_at 3 (some 11) (v := ?va3) rfl rfl (by kernel_rfl) (by kernel_rfl) (by kernel_rfl) (by rfl) ?ya3 hS ?ta3
  case ya3 =>
    intro w' hSw
    obtain ⟨xc0, xc1, xc2, -, -, -, -, -⟩ := hX.gr hSw
    obtain ⟨yc0, yc1, yc2, -, -, -, -, -⟩ := hY.gr hSw
    go_simp
    (try with_reducible rfl)
  simp only [Act.put, List.setIfInBounds_toArray, List.set_cons_zero, List.set_cons_succ]
  refine take_at 5 (some 13) (v := ?va5) rfl rfl (by kernel_rfl) (by kernel_rfl) (by kernel_rfl) (by rfl) ?ya5 hS ?ta5
  case ya5 =>
    intro w' hSw
    obtain ⟨xc0, xc1, xc2, -, -, -, -, -⟩ := hX.gr hSw
    obtain ⟨yc0, yc1, yc2, -, -, -, -, -⟩ := hY.gr hSw
    go_simp
    (try with_reducible rfl)
  simp only [Act.put, List.setIfInBounds_toArray, List.set_cons_zero, List.set_cons_succ]
  refine take_at 6 (some 14) (v := ?va6) rfl rfl (by kernel_rfl) (by kernel_rfl) (by kernel_rfl) (by rfl) ?ya6 hS ?ta6
  case ya6 =>
    intro w' hSw
    obtain ⟨xc0, xc1, xc2, -, -, -, -, -⟩ := hX.gr hSw
    obtain ⟨yc0, yc1, yc2, -, -, -, -, -⟩ := hY.gr hSw
    go_simp
    (try with_reducible rfl)
  simp only [Act.put, List.setIfInBounds_toArray, List.set_cons_zero, List.set_cons_succ]
  refine take_at 7 (some 15) (v := ?va7) rfl rfl (by kernel_rfl) (by kernel_rfl) (by kernel_rfl) (by rfl) ?ya7 hS ?ta7
  case ya7 =>
    intro w' hSw
    obtain ⟨xc0, xc1, xc2, -, -, -, -, -⟩ := hX.gr hSw
    obtain ⟨yc0, yc1, yc2, -, -, -, -, -⟩ := hY.gr hSw
    go_simp
    (try with_reducible rfl)
  simp only [Act.put, List.setIfInBounds_toArray, List.set_cons_zero, List.set_cons_succ]
  refine take_at 8 (some 16) (v := ?va8) rfl rfl (by kernel_rfl) (by kernel_rfl) (by kernel_rfl) (by rfl) ?ya8 hS ?ta8
  case ya8 =>
    intro w' hSw
    obtain ⟨xc0, xc1, xc2, -, -, -, -, -⟩ := hX.gr hSw
    obtain ⟨yc0, yc1, yc2, -, -, -, -, -⟩ := hY.gr hSw
    go_simp
    (try with_reducible rfl)
  simp only [Act.put, List.setIfInBounds_toArray, List.set_cons_zero, List.set_cons_succ]
  refine take_at 10 (some 18) (v := ?va10) rfl rfl (by kernel_rfl) (by kernel_rfl) (by kernel_rfl) (by rfl) ?ya10 hS ?ta10
  case ya10 =>
    intro w' hSw
    obtain ⟨xc0, xc1, xc2, -, -, -, -, -⟩ := hX.gr hSw
    obtain ⟨yc0, yc1, yc2, -, -, -, -, -⟩ := hY.gr hSw
    go_simp
    (try with_reducible rfl)
  simp only [Act.put, List.setIfInBounds_toArray, List.set_cons_zero, List.set_cons_succ]
  refine take_at 11 (some 19) (v := ?va11) rfl rfl (by kernel_rfl) (by kernel_rfl) (by kernel_rfl) (by rfl) ?ya11 hS ?ta11
  case ya11 =>
    intro w' hSw
    obtain ⟨xc0, xc1, xc2, -, -, -, -, -⟩ := hX.gr hSw
    obtain ⟨yc0, yc1, yc2, -, -, -, -, -⟩ := hY.gr hSw
    go_simp
    (try with_reducible rfl)
  simp only [Act.put, List.setIfInBounds_toArray, List.set_cons_zero, List.set_cons_succ]
  refine take_at 12 (some 20) (v := ?va12) rfl rfl (by kernel_rfl) (by kernel_rfl) (by kernel_rfl) (by rfl) ?ya12 hS ?ta12
  case ya12 =>
    intro w' hSw
    obtain ⟨xc0, xc1, xc2, -, -, -, -, -⟩ := hX.gr hSw
    obtain ⟨yc0, yc1, yc2, -, -, -, -, -⟩ := hY.gr hSw
    go_simp
    (try with_reducible rfl)
  simp only [Act.put, List.setIfInBounds_toArray, List.set_cons_zero, List.set_cons_succ]
  refine take_at 13 (some 21) (v := ?va13) rfl rfl (by kernel_rfl) (by kernel_rfl) (by kernel_rfl) (by rfl) ?ya13 hS ?ta13
  case ya13 =>
    intro w' hSw
    obtain ⟨xc0, xc1, xc2, -, -, -, -, -⟩ := hX.gr hSw
    obtain ⟨yc0, yc1, yc2, -, -, -, -, -⟩ := hY.gr hSw
    go_simp
    (try with_reducible rfl)
  simp only [Act.put, List.setIfInBounds_toArray, List.set_cons_zero, List.set_cons_succ]
  refine next_at 4 rfl (by kernel_rfl) (by rfl) (fun K hK => ?_)
  go_simp
  refine ((times_any _ _ _ (HA.out.gr (hG.step hS)) (HD.out.gr (hG.step hS)) (by omega) (by omega)).mono ?_)
  rintro e w1 ⟨vw1, rfl, hvw1, hg⟩
  obtain ⟨aw1, cw1, rfl⟩ := num_slice hvw1
  replace hS := Gr.step hS hg
  have H1 := Lib.hid hvw1
  refine hK _ _ hS ?_
  clear hK K hg hvw1
  refine next_at 9 rfl (by kernel_rfl) (by rfl) (fun K hK => ?_)
  go_simp
  refine ((times_any _ _ _ (HC.out.gr (hG.step hS)) (HB.out.gr (hG.step hS)) (by omega) (by omega)).mono ?_)
  rintro e w2 ⟨vw2, rfl, hvw2, hg⟩
  obtain ⟨aw2, cw2, rfl⟩ := num_slice hvw2
  replace hS := Gr.step hS hg
  have H1 := Lib.hid (H1.out.gr hg)
  have H2 := Lib.hid hvw2
  refine hK _ _ hS ?_
  clear hK K hg hvw2
  refine next_at 14 rfl (by kernel_rfl) (by rfl) (fun K hK => ?_)
  go_simp
  refine ((times_any _ _ _ (HB.out.gr (hG.step hS)) (HD.out.gr (hG.step hS)) (by omega) (by omega)).mono ?_)
  rintro e w3 ⟨vw3, rfl, hvw3, hg⟩
  obtain ⟨aw3, cw3, rfl⟩ := num_slice hvw3
  replace hS := Gr.step hS hg
  have H1 := Lib.hid (H1.out.gr hg)
  have H2 := Lib.hid (H2.out.gr hg)
  have H3 := Lib.hid hvw3
  refine hK _ _ hS ?_
  clear hK K hg hvw3
  refine next_at 15 rfl (by kernel_rfl) (by rfl) (fun K hK => ?_)
  go_simp
  refine hK _ _ hS ?_
  clear hK K
  refine next_at 16 rfl (by kernel_rfl) (by rfl) (fun K hK => ?_)
  go_simp
  refine hK _ _ hS ?_
  clear hK K
  refine next_at 17 rfl (by kernel_rfl) (by rfl) (fun K hK => ?_)
  go_simp
  refine hK _ _ hS ?_
  clear hK K
  refine wpAnyH_done (by kernel_rfl) ?_ _
  refine qz_normal ?_
  replace hX := hX.gr hS
  replace hY := hY.gr hS
  replace hR := hR.gr hS
  replace hG := hG.step hS
  obtain ⟨xc0, xc1, xc2, -, -, -, -, -⟩ := id hX
  obtain ⟨yc0, yc1, yc2, -, -, -, -, -⟩ := id hY
  clear hS
  by_cases hxy : x = y
  · have d : (x == y) = true := by rw [beq_iff_eq]; exact hxy
    have HR0 := Lib.hid (show rat x A B + rat y C D = rat x (A * D + C * B) (B * D) by rw [HADD.out, ← hxy]; exact rat_same)
    have lS := nd_add' lX lY
    clear hxy
    go_wp2_with fail
    replace hX := hX.gr (Gr.drew (Gr.refl _))
    replace hY := hY.gr (Gr.drew (Gr.refl _))
    replace hR := hR.gr (Gr.drew (Gr.refl _))
    replace hG := hG.step (Gr.drew (Gr.refl _))
    have H1 := Lib.hid (H1.out.gr (Gr.drew (Gr.refl _)))
    have H2 := Lib.hid (H2.out.gr (Gr.drew (Gr.refl _)))
    have H3 := Lib.hid (H3.out.gr (Gr.drew (Gr.refl _)))
    clear xc0 xc1 xc2 yc0 yc1 yc2
    have hS := hX.c0
    refine region_plain (fun W => W.cell? ⟨w.heap.size, 0, none⟩ = some (.bool x)) (by kernel_rfl) ?_
    refine take_at 0 (some 28) (v := ?vb0) rfl rfl (by kernel_rfl) (by kernel_rfl) (by kernel_rfl) (by rfl) ?yb0 hS ?tb0
    case yb0 =>
      intro w' hSw
      go_simp
      (try with_reducible rfl)
    simp only [Act.put, List.setIfInBounds_toArray, List.set_cons_zero, List.set_cons_succ]
    refine take_at 1 (some 29) (v := ?vb1) rfl rfl (by kernel_rfl) (by kernel_rfl) (by kernel_rfl) (by rfl) ?yb1 hS ?tb1
    case yb1 =>
      intro w' hSw
      go_simp
      (try with_reducible rfl)
    simp only [Act.put, List.setIfInBounds_toArray, List.set_cons_zero, List.set_cons_succ]
    refine take_at 2 (some 30) (v := ?vb2) rfl rfl (by kernel_rfl) (by kernel_rfl) (by kernel_rfl) (by rfl) ?yb2 hS ?tb2
    case yb2 =>
      intro w' hSw
      go_simp
      (try with_reducible rfl)
    simp only [Act.put, List.setIfInBounds_toArray, List.set_cons_zero, List.set_cons_succ]
    refine take_at 3 (some 31) (v := ?vb3) rfl rfl (by kernel_rfl) (by kernel_rfl) (by kernel_rfl) (by rfl) ?yb3 hS ?tb3
    case yb3 =>
      intro w' hSw
      go_simp
      (try with_reducible rfl)
    simp only [Act.put, List.setIfInBounds_toArray, List.set_cons_zero, List.set_cons_succ]
    refine take_at 5 (some 33) (v := ?vb5) rfl rfl (by kernel_rfl) (by kernel_rfl) (by kernel_rfl) (by rfl) ?yb5 hS ?tb5
    case yb5 =>
      intro w' hSw
      go_simp
      (try with_reducible rfl)
    simp only [Act.put, List.setIfInBounds_toArray, List.set_cons_zero, List.set_cons_succ]
    refine next_at 4 rfl (by kernel_rfl) (by rfl) (fun K hK => ?_)
    go_simp
    refine ((plus_any _ _ _ H1.out H2.out (by omega) (by omega)).mono ?_)
    rintro e w4 ⟨v4, rfl, hv4, hg⟩
    obtain ⟨a4, c4, rfl⟩ := num_slice hv4
    have H4 := Lib.hid hv4
    replace hX := hX.gr hg
    replace hY := hY.gr hg
    replace hR := hR.gr hg
    replace hG := hG.step hg
    have H3 := Lib.hid (H3.out.gr hg)
    replace hS := hX.c0
    refine hK _ _ hS ?_
    clear hK K hg hv4 H1 H2
    refine next_at 6 rfl (by kernel_rfl) (by rfl) (fun K hK => ?_)
    go_simp
    refine ((reduced_any x _ _ _ H4.out H3.out HBD.out (by omega) (by omega)).mono ?_)
    rintro e w5 ⟨b5, p1, p2, n1, n2, c1, c2, rfl, hred, hg⟩
    have HRED := Lib.hid (hred.imp (q := fun c => w.heap.size ≤ c) fun _ hc => Nat.le_trans (Gr.size hG) hc)
    replace hX := hX.gr hg
    replace hY := hY.gr hg
    replace hR := hR.gr hg
    replace hG := hG.step hg
    replace hS := hX.c0
    refine hK _ _ hS ?_
    clear hK K hg hred H3 H4
    have hfl := hR.fill b5 p1 p2 n1 n2 c1 c2
    obtain ⟨sc0, sc1, sc2, -, -, -, -, -⟩ := hfl.1
    obtain ⟨rc0, rc1, rc2, rf0, rf1, rf2, rlt, -⟩ := id hR
    have hS2 := ((((hX).other (o := 0) (.bool b5) (s := w.heap.size + 1 + 1) (by omega)).other (o := 1) (.slice p1 n1 c1) (s := w.heap.size + 1 + 1) (by omega)).other (o := 2) (.slice p2 n2 c2) (s := w.heap.size + 1 + 1) (by omega)).c0
    refine next_at 7 rfl (by kernel_rfl) (by rfl) (fun K hK => ?_)
    go_simp
    refine hK _ _ hS2 ?_
    clear hK K
    refine wpAnyH_done (by kernel_rfl) ?_ _
    refine qz_normal ?_
    go_wp2_with fail
    refine bodyPost_ret (v := .agg #[.bool b5, .slice p1 n1 c1, .slice p2 n2 c2]) (by simp [results, Tryz.results43, go_sem, sc0, sc1, sc2]) rfl ?_
    rw [HR0.out]
    exact ⟨_, _, _, _, _, _, _, rfl, hR.redp b5 p1 p2 n1 n2 c1 c2 HRED.out, C3.three hG (by omega) _ _ _⟩
  · have d : (x == y) = false := by rw [beq_eq_false_iff_ne]; exact hxy
    obtain rfl : y = !x := by cases x <;> cases y <;> simp_all
    by_cases hle : C * B ≤ A * D
    · have HR0 := Lib.hid (show rat x A B + rat (!x) C D = rat x (A * D - C * B) (B * D) by rw [HADD.out]; exact rat_diff_ge hle)
      have hc : decide (0 ≤ ncmp (A * D) (C * B)) = true := by
        rw [decide_eq_true_eq]
        rcases Nat.lt_or_eq_of_le hle with h | h
        · rw [ncmp_gt h]; omega
        · rw [h, ncmp_eq]; omega
      have HLE := Lib.hid hle
      have lS : (nd (A * D - C * B)).length ≤ 64 + 64 := Nat.le_trans (nd_mono (Nat.sub_le _ _)) lX
      clear hxy hle
      go_wp2_with fail
      refine (rcmp_nat _ _ _ H1.out H2.out (by omega) (by omega)).mono ?_
      rintro e w3 ⟨rfl, hg⟩
      replace hX := hX.gr hg
      replace hY := hY.gr hg
      replace hR := hR.gr hg
      replace hG := hG.step hg
      have H1 := Lib.hid (H1.out.gr hg)
      have H2 := Lib.hid (H2.out.gr hg)
      have H3 := Lib.hid (H3.out.gr hg)
      clear xc0 xc1 xc2 yc0 yc1 yc2 hg
      obtain ⟨xc0, xc1, xc2, -, -, -, -, -⟩ := id hX
      obtain ⟨yc0, yc1, yc2, -, -, -, -, -⟩ := id hY
      generalize ncmp (A * D) (C * B) = cm at *
      go_wp2_with fail
      replace hX := hX.gr (Gr.drew (Gr.refl _))
      replace hY := hY.gr (Gr.drew (Gr.refl _))
      replace hR := hR.gr (Gr.drew (Gr.refl _))
      replace hG := hG.step (Gr.drew (Gr.refl _))
      have H1 := Lib.hid (H1.out.gr (Gr.drew (Gr.refl _)))
      have H2 := Lib.hid (H2.out.gr (Gr.drew (Gr.refl _)))
      have H3 := Lib.hid (H3.out.gr (Gr.drew (Gr.refl _)))
      clear xc0 xc1 xc2 yc0 yc1 yc2
      have hS := hX.c0
      refine region_plain (fun W => W.cell? ⟨w.heap.size, 0, none⟩ = some (.bool x)) (by kernel_rfl) ?_
      refine take_at 0 (some 39) (v := ?vc0) rfl rfl (by kernel_rfl) (by kernel_rfl) (by kernel_rfl) (by rfl) ?yc0 hS ?tc0
      case yc0 =>
        intro w' hSw
        go_simp
        (try with_reducible rfl)
      simp only [Act.put, List.setIfInBounds_toArray, List.set_cons_zero, List.set_cons_succ]
      refine take_at 1 (some 40) (v := ?vc1) rfl rfl (by kernel_rfl) (by kernel_rfl) (by kernel_rfl) (by rfl) ?yc1 hS ?tc1
      case yc1 =>
        intro w' hSw
        go_simp
        (try with_reducible rfl)
      simp only [Act.put, List.setIfInBounds_toArray, List.set_cons_zero, List.set_cons_succ]
      refine take_at 2 (some 41) (v := ?vc2) rfl rfl (by kernel_rfl) (by kernel_rfl) (by kernel_rfl) (by rfl) ?yc2 hS ?tc2
      case yc2 =>
        intro w' hSw
        go_simp
        (try with_reducible rfl)
      simp only [Act.put, List.setIfInBounds_toArray, List.set_cons_zero, List.set_cons_succ]
      refine take_at 3 (some 42) (v := ?vc3) rfl rfl (by kernel_rfl) (by kernel_rfl) (by kernel_rfl) (by rfl) ?yc3 hS ?tc3
      case yc3 =>
        intro w' hSw
        go_simp
        (try with_reducible rfl)
      simp only [Act.put, List.setIfInBounds_toArray, List.set_cons_zero, List.set_cons_succ]
      refine take_at 5 (some 44) (v := ?vc5) rfl rfl (by kernel_rfl) (by kernel_rfl) (by kernel_rfl) (by rfl) ?yc5 hS ?tc5
      case yc5 =>
        intro w' hSw
        go_simp
        (try with_reducible rfl)
      simp only [Act.put, List.setIfInBounds_toArray, List.set_cons_zero, List.set_cons_succ]
      refine next_at 4 rfl (by kernel_rfl) (by rfl) (fun K hK => ?_)
      go_simp
      refine ((less_one _ _ _ H1.out H2.out HLE.out (by omega)).mono ?_)
      rintro e w4 ⟨v4, rfl, hv4, hg⟩
      obtain ⟨a4, c4, rfl⟩ := num_slice hv4
      have H4 := Lib.hid hv4
      replace hX := hX.gr hg
      replace hY := hY.gr hg
      replace hR := hR.gr hg
      replace hG := hG.step hg
      have H3 := Lib.hid (H3.out.gr hg)
      replace hS := hX.c0
      refine hK _ _ hS ?_
      clear hK K hg hv4 H1 H2
      refine next_at 6 rfl (by kernel_rfl) (by rfl) (fun K hK => ?_)
      go_simp
      refine ((reduced_any x _ _ _ H4.out H3.out HBD.out (by omega) (by omega)).mono ?_)
      rintro e w5 ⟨b5, p1, p2, n1, n2, c1, c2, rfl, hred, hg⟩
      have HRED := Lib.hid (hred.imp (q := fun c => w.heap.size ≤ c) fun _ hc => Nat.le_trans (Gr.size hG) hc)
      replace hX := hX.gr hg
      replace hY := hY.gr hg
      replace hR := hR.gr hg
      replace hG := hG.step hg
      replace hS := hX.c0
      refine hK _ _ hS ?_
      clear hK K hg hred H3 H4
      have hfl := hR.fill b5 p1 p2 n1 n2 c1 c2
      obtain ⟨sc0, sc1, sc2, -, -, -, -, -⟩ := hfl.1
      obtain ⟨rc0, rc1, rc2, rf0, rf1, rf2, rlt, -⟩ := id hR
      have hS2 := ((((hX).other (o := 0) (.bool b5) (s := w.heap.size + 1 + 1) (by omega)).other (o := 1) (.slice p1 n1 c1) (s := w.heap.size + 1 + 1) (by omega)).other (o := 2) (.slice p2 n2 c2) (s := w.heap.size + 1 + 1) (by omega)).c0
      refine next_at 7 rfl (by kernel_rfl) (by rfl) (fun K hK => ?_)
      go_simp
      refine hK _ _ hS2 ?_
      clear hK K
      refine wpAnyH_done (by kernel_rfl) ?_ _
      refine qz_normal ?_
      go_wp2_with fail
      refine bodyPost_ret (v := .agg #[.bool b5, .slice p1 n1 c1, .slice p2 n2 c2]) (by simp [results, Tryz.results43, go_sem, sc0, sc1, sc2]) rfl ?_
      rw [HR0.out]
      exact ⟨_, _, _, _, _, _, _, rfl, hR.redp b5 p1 p2 n1 n2 c1 c2 HRED.out, C3.three hG (by omega) _ _ _⟩
    · have HR0 := Lib.hid (show rat x A B + rat (!x) C D = rat (!x) (C * B - A * D) (B * D) by rw [HADD.out]; exact rat_diff_lt (by omega))
      have hc : decide (0 ≤ ncmp (A * D) (C * B)) = false := by
        rw [decide_eq_false_iff_not, ncmp_lt (by omega)]; omega
      have HLE := Lib.hid (show A * D ≤ C * B by omega)
      have lS : (nd (C * B - A * D)).length ≤ 64 + 64 := Nat.le_trans (nd_mono (Nat.sub_le _ _)) lY
      clear hxy hle
      go_wp2_with fail
      refine (rcmp_nat _ _ _ H1.out H2.out (by omega) (by omega)).mono ?_
      rintro e w3 ⟨rfl, hg⟩
      replace hX := hX.gr hg
      replace hY := hY.gr hg
      replace hR := hR.gr hg
      replace hG := hG.step hg
      have H1 := Lib.hid (H1.out.gr hg)
      have H2 := Lib.hid (H2.out.gr hg)
      have H3 := Lib.hid (H3.out.gr hg)
      clear xc0 xc1 xc2 yc0 yc1 yc2 hg
      obtain ⟨xc0, xc1, xc2, -, -, -, -, -⟩ := id hX
      obtain ⟨yc0, yc1, yc2, -, -, -, -, -⟩ := id hY
      generalize ncmp (A * D) (C * B) = cm at *
      go_wp2_with fail
      replace hX := hX.gr (Gr.drew (Gr.refl _))
      replace hY := hY.gr (Gr.drew (Gr.refl _))
      replace hR := hR.gr (Gr.drew (Gr.refl _))
      replace hG := hG.step (Gr.drew (Gr.refl _))
      have H1 := Lib.hid (H1.out.gr (Gr.drew (Gr.refl _)))
      have H2 := Lib.hid (H2.out.gr (Gr.drew (Gr.refl _)))
      have H3 := Lib.hid (H3.out.gr (Gr.drew (Gr.refl _)))
      clear xc0 xc1 xc2 yc0 yc1 yc2
      have hS := hY.c0
      refine region_plain (fun W => W.cell? ⟨w.heap.size+1, 0, none⟩ = some (.bool (!x))) (by kernel_rfl) ?_
      refine take_at 0 (some 46) (v := ?vd0) rfl rfl (by kernel_rfl) (by kernel_rfl) (by kernel_rfl) (by rfl) ?yd0 hS ?td0
      case yd0 =>
        intro w' hSw
        go_simp
        (try with_reducible rfl)
      simp only [Act.put, List.setIfInBounds_toArray, List.set_cons_zero, List.set_cons_succ]
      refine take_at 1 (some 47) (v := ?vd1) rfl rfl (by kernel_rfl) (by kernel_rfl) (by kernel_rfl) (by rfl) ?yd1 hS ?td1
      case yd1 =>
        intro w' hSw
        go_simp
        (try with_reducible rfl)
      simp only [Act.put, List.setIfInBounds_toArray, List.set_cons_zero, List.set_cons_succ]
      refine take_at 2 (some 48) (v := ?vd2) rfl rfl (by kernel_rfl) (by kernel_rfl) (by kernel_rfl) (by rfl) ?yd2 hS ?td2
      case yd2 =>
        intro w' hSw
        go_simp
        (try with_reducible rfl)
      simp only [Act.put, List.setIfInBounds_toArray, List.set_cons_zero, List.set_cons_succ]
      refine take_at 3 (some 49) (v := ?vd3) rfl rfl (by kernel_rfl) (by kernel_rfl) (by kernel_rfl) (by rfl) ?yd3 hS ?td3
      case yd3 =>
        intro w' hSw
        go_simp
        (try with_reducible rfl)
      simp only [Act.put, List.setIfInBounds_toArray, List.set_cons_zero, List.set_cons_succ]
      refine take_at 5 (some 51) (v := ?vd5) rfl rfl (by kernel_rfl) (by kernel_rfl) (by kernel_rfl) (by rfl) ?yd5 hS ?td5
      case yd5 =>
        intro w' hSw
        go_simp
        (try with_reducible rfl)
      simp only [Act.put, List.setIfInBounds_toArray, List.set_cons_zero, List.set_cons_succ]
      refine next_at 4 rfl (by kernel_rfl) (by rfl) (fun K hK => ?_)
      go_simp
      refine ((less_one _ _ _ H2.out H1.out HLE.out (by omega)).mono ?_)
      rintro e w4 ⟨v4, rfl, hv4, hg⟩
      obtain ⟨a4, c4, rfl⟩ := num_slice hv4
      have H4 := Lib.hid hv4
      replace hX := hX.gr hg
      replace hY := hY.gr hg
      replace hR := hR.gr hg
      replace hG := hG.step hg
      have H3 := Lib.hid (H3.out.gr hg)
      replace hS := hY.c0
      refine hK _ _ hS ?_
      clear hK K hg hv4 H1 H2
      refine next_at 6 rfl (by kernel_rfl) (by rfl) (fun K hK => ?_)
      go_simp
      refine ((reduced_any (!x) _ _ _ H4.out H3.out HBD.out (by omega) (by omega)).mono ?_)
      rintro e w5 ⟨b5, p1, p2, n1, n2, c1, c2, rfl, hred, hg⟩
      have HRED := Lib.hid (hred.imp (q := fun c => w.heap.size ≤ c) fun _ hc => Nat.le_trans (Gr.size hG) hc)
      replace hX := hX.gr hg
      replace hY := hY.gr hg
      replace hR := hR.gr hg
      replace hG := hG.step hg
      replace hS := hY.c0
      refine hK _ _ hS ?_
      clear hK K hg hred H3 H4
      have hfl := hR.fill b5 p1 p2 n1 n2 c1 c2
      obtain ⟨sc0, sc1, sc2, -, -, -, -, -⟩ := hfl.1
      obtain ⟨rc0, rc1, rc2, rf0, rf1, rf2, rlt, -⟩ := id hR
      have hS2 := ((((hY).other (o := 0) (.bool b5) (s := w.heap.size + 1 + 1) (by omega)).other (o := 1) (.slice p1 n1 c1) (s := w.heap.size + 1 + 1) (by omega)).other (o := 2) (.slice p2 n2 c2) (s := w.heap.size + 1 + 1) (by omega)).c0
      refine next_at 7 rfl (by kernel_rfl) (by rfl) (fun K hK => ?_)
      go_simp
      refine hK _ _ hS2 ?_
      clear hK K
      refine wpAnyH_done (by kernel_rfl) ?_ _
      refine qz_normal ?_
      go_wp2_with fail
      refine bodyPost_ret (v := .agg #[.bool b5, .slice p1 n1 c1, .slice p2 n2 c2]) (by simp [results, Tryz.results43, go_sem, sc0, sc1, sc2]) rfl ?_
      rw [HR0.out]
      exact ⟨_, _, _, _, _, _, _, rfl, hR.redp b5 p1 p2 n1 n2 c1 c2 HRED.out, C3.three hG (by omega) _ _ _⟩
end Go.Proofs.YtjpjnbgfodlkcaaGreatDoor
/- From. -/
namespace Go.Proofs.YtjpjnbgfodlkcaaGreatDoor
open Go Go.RowKit Go.Sort
set_option maxRecDepth 100000
set_option linter.unusedVariables false
/-- what the loop of From keeps -/
def FmRel (w : World) (X : Nat) (s v : Value) (wr : World) : Prop :=
  ∃ (r : Nat) (l : List Nat), s = .int .i64 r ∧ r ≤ X ∧ nd X = l ++ nd r ∧ Own wr w.heap.size v l ∧ Gr w wr
set_option maxHeartbeats 1000000 in
theorem natfrom_any (X : Nat) (w : World) (hX : X < 9223372036854775808) :
    Calls Tryz.prog 81 #[.int .i64 (X : Nat)] w fun e w' => ∃ v, e = .returned (.tuple #[v, .int .i64 0]) ∧ Num w' v X ∧ Gr w w' := by
  have hXl : (nd X).length ≤ 3 := (nd_len X 3).2 (by omega)
  go_enter Tryz.func81, Tryz.ntmps81
  go_wp2_with fail
  go_loopw [0, 4] (fun s v wr => FmRel w X s v wr) (fun s _ _ => (intOf s).toNat)
  case atStart => exact ⟨X, [], rfl, Nat.le_refl _, rfl, Own.nil _ _, Gr.refl _⟩
  case round =>
    obtain ⟨r, l, rfl, hr, hnd, hown, hgr⟩ := hrel
    by_cases h0 : 0 < r
    · have hnd2 := hnd
      rw [nd_pos h0] at hnd2
      have hll : l.length ≤ 3 := by rw [hnd] at hXl; simp at hXl; omega
      have r0 : (0 : Int) < (r : Int) := by omega
      have d0 : decide (0 < r) = true := by simpa using h0
      have r1 : (r : Int) < 9223372036854775808 := by omega
      obtain ⟨d, hd⟩ : ∃ d : Nat, d = r % 1073741824 := ⟨_, rfl⟩
      obtain ⟨q, hq⟩ : ∃ q : Nat, q = r / 1073741824 := ⟨_, rfl⟩
      rw [← hd, ← hq] at hnd2
      have e0 : bits .and .i64 (r : Int) 1073741823 = (d : Int) := by rw [and30]; omega
      have e2 : (r : Int) / 1073741824 = (q : Int) := by omega
      have d1 : (d : Int) < 1073741824 := by omega
      have q1 : q < r := by omega
      have HND := Lib.hid hnd2
      have HR0 := Lib.hid hr
      have hown0 := Lib.hid hown
      obtain ⟨ti, hi1, hi2, hi3, hi4⟩ := intInfo
      unfold Own at hown
      clear hnd hnd2 hd hq hr
      go_wp2_with (at_builtin; refine wpList_append_own_at _ rfl _ _ 24 rfl w.heap.size 3 ti (.int .i64 0) 1 8 Tryz.underlying24 hi1 hi2 hi3 hi4 rfl (by decide) _ _ _ rfl (hown.alloc _) ⟨wr.heap.size, 0, none⟩ 1 1 [.int .i64 d] rfl rfl (cell_one_new _ _ _) (by simp [Value.oneCell']) (by unfold maxLen; omega) (by omega) (by have := Gr.size hgr; simp; omega) ?_; intro v' w2 hown2 hgrow hnil hloc)
      clear hnil hloc
      refine ⟨⟨q, l ++ [d], rfl, by have := HR0.out; omega, by rw [HND.out]; simp, ?_, ?_⟩, ?_⟩
      · unfold Own
        rw [List.length_append, List.map_append]
        exact hown2
      · exact Gr.grown (by repeat' (first | (with_reducible exact Gr.refl _) | (with_reducible assumption) | (with_reducible refine Gr.drewN ?_ _) | (with_reducible refine Gr.drew ?_) | (with_reducible refine Gr.alloc ?_ _) | (with_reducible refine Gr.setCell ?_ ?_ _) | (with_reducible refine Gr.grow ?_ _ _) | (refine Gr.step ?_ (by with_reducible assumption)) | go_size)) hgrow (fun k hk => (hown.lt k hk).1)
      · simp only [intOf]; omega
    · obtain rfl : r = 0 := by omega
      rw [nd_zero, List.append_nil] at hnd
      have HN := Lib.hid hnd
      have HO := Lib.hid hown
      clear hnd hown
      go_wp2_with fail
      go_ret2
      exact ⟨_, rfl, HO.out.num HN.out.symm, hgr⟩
theorem natfrom_int (x : Int) (X : Nat) (w : World) (hx : x = X) (hX : X < 9223372036854775808) :
    Calls Tryz.prog 81 #[.int .i64 x] w fun e w' => ∃ v, e = .returned (.tuple #[v, .int .i64 0]) ∧ Num w' v X ∧ Gr w w' := by
  subst hx; exact natfrom_any X w hX
theorem magnitude_any (n : Int) (w : World) (h0 : -9223372036854775808 ≤ n) (h1 : n ≤ 9223372036854775807) :
    Calls Tryz.prog 47 #[.int .i64 n] w fun e w' => ∃ v, e = .returned v ∧ Num w' v n.natAbs ∧ Gr w w' := by
  by_cases hn : 0 ≤ n
  · have d0 : decide (0 ≤ n) = true := by simpa using hn
    have HC := Lib.hid (natfrom_int n n.natAbs w (by omega) (by omega))
    go_enter Tryz.func47, Tryz.ntmps47
    go_wp2_with fail
    refine HC.out.mono ?_
    rintro e w1 ⟨v, rfl, hv, hg⟩
    go_wp2_with fail
    go_ret
    exact ⟨v, rfl, hv, hg⟩
  · have d0 : decide (0 ≤ n) = false := by simpa using hn
    have m1 : IntKind.i64.wrap (n + 1) = n + 1 := IntWalk.i64_in _ (by omega)
    have m2 : IntKind.i64.wrap (-(n + 1)) = -(n + 1) := IntWalk.i64_in _ (by omega)
    have HC := Lib.hid (natfrom_int (-(n + 1)) (n.natAbs - 1) w (by omega) (by omega))
    have hl1 : (nd (n.natAbs - 1)).length ≤ 3 := (nd_len _ 3).2 (by omega)
    have HE : Hid (n.natAbs - 1 + 1 = n.natAbs) := Lib.hid (by omega)
    go_enter Tryz.func47, Tryz.ntmps47
    go_wp2_with fail
    refine HC.out.mono ?_
    rintro e w1 ⟨v, rfl, hv, hg⟩
    have HV := Lib.hid (hv.gr (Gr.alloc (Gr.refl w1) (.cells #[.int .i64 1] 3)))
    have HO := Lib.hid (num_lit w1 1 1 rfl (by omega) (by omega))
    clear hv
    go_wp2_with fail
    refine (add_129 _ _ _ HV.out HO.out (by omega) (by rw [nd_one (by omega) (by omega)]; simp)).mono ?_
    rintro e w2 ⟨u, rfl, hu, hg2⟩
    rw [HE.out] at hu
    go_wp2_with fail
    go_ret
    exact ⟨u, rfl, hu, (hg.alloc _).step hg2⟩
/-- the value of a quotient of two ints -/
def quot (n d : Int) : Rat := rat (decide (n < 0) != decide (d < 0)) n.natAbs d.natAbs
end Go.Proofs.YtjpjnbgfodlkcaaGreatDoor
/- Word, at any number of 64 bits. -/
namespace Go.Proofs.YtjpjnbgfodlkcaaGreatDoor
open Go Go.RowKit Go.Sort
set_option maxRecDepth 100000
set_option linter.unusedVariables false
/-- what the loop of Word keeps -/
def WbRel (w : World) (X : Nat) (s v : Value) (wr : World) : Prop :=
  ∃ (r : Nat) (l : List Nat), s = .int .u64 r ∧ r ≤ X ∧ nd X = l ++ nd r ∧ Own wr w.heap.size v l ∧ Gr w wr
set_option maxHeartbeats 1000000 in
theorem word_big (X : Nat) (w : World) (hX : X < 18446744073709551616) :
    Calls Tryz.prog 82 #[.int .u64 (X : Nat)] w fun e w' => ∃ v, e = .returned v ∧ Num w' v X ∧ Gr w w' := by
  have hXl : (nd X).length ≤ 3 := (nd_len X 3).2 (by omega)
  go_enter Tryz.func82, Tryz.ntmps82
  go_wp2_with fail
  go_loopw [0, 3] (fun s v wr => WbRel w X s v wr) (fun s _ _ => (intOf s).toNat)
  case atStart => exact ⟨X, [], rfl, Nat.le_refl _, rfl, Own.nil _ _, Gr.refl _⟩
  case round =>
    obtain ⟨r, l, rfl, hr, hnd, hown, hgr⟩ := hrel
    by_cases h0 : 0 < r
    · have hnd2 := hnd
      rw [nd_pos h0] at hnd2
      have hll : l.length ≤ 3 := by rw [hnd] at hXl; simp at hXl; omega
      have r0 : (0 : Int) < (r : Int) := by omega
      have d0 : decide (0 < r) = true := by simpa using h0
      have r1 : (r : Int) < 18446744073709551616 := by omega
      obtain ⟨d, hd⟩ : ∃ d : Nat, d = r % 1073741824 := ⟨_, rfl⟩
      obtain ⟨q, hq⟩ : ∃ q : Nat, q = r / 1073741824 := ⟨_, rfl⟩
      rw [← hd, ← hq] at hnd2
      have e1 : (r : Int) % 1073741824 = (d : Int) := by omega
      have e2 : (r : Int) / 1073741824 = (q : Int) := by omega
      have d1 : (d : Int) < 1073741824 := by omega
      have q1 : q < r := by omega
      have HND := Lib.hid hnd2
      have HR0 := Lib.hid hr
      have hown0 := Lib.hid hown
      obtain ⟨ti, hi1, hi2, hi3, hi4⟩ := intInfo
      unfold Own at hown
      clear hnd hnd2 hd hq hr
      go_wp2_with (at_builtin; refine wpList_append_own_at _ rfl _ _ 24 rfl w.heap.size 3 ti (.int .i64 0) 1 8 Tryz.underlying24 hi1 hi2 hi3 hi4 rfl (by decide) _ _ _ rfl (hown.alloc _) ⟨wr.heap.size, 0, none⟩ 1 1 [.int .i64 d] rfl rfl (cell_one_new _ _ _) (by simp [Value.oneCell']) (by unfold maxLen; omega) (by omega) (by have := Gr.size hgr; simp; omega) ?_; intro v' w2 hown2 hgrow hnil hloc)
      clear hnil hloc
      refine ⟨⟨q, l ++ [d], rfl, by have := HR0.out; omega, by rw [HND.out]; simp, ?_, ?_⟩, ?_⟩
      · unfold Own
        rw [List.length_append, List.map_append]
        exact hown2
      · exact Gr.grown (by repeat' (first | (with_reducible exact Gr.refl _) | (with_reducible assumption) | (with_reducible refine Gr.drewN ?_ _) | (with_reducible refine Gr.drew ?_) | (with_reducible refine Gr.alloc ?_ _) | (with_reducible refine Gr.setCell ?_ ?_ _) | (with_reducible refine Gr.grow ?_ _ _) | (refine Gr.step ?_ (by with_reducible assumption)) | go_size)) hgrow (fun k hk => (hown.lt k hk).1)
      · simp only [intOf]; omega
    · obtain rfl : r = 0 := by omega
      rw [nd_zero, List.append_nil] at hnd
      have HN := Lib.hid hnd
      have HO := Lib.hid hown
      clear hnd hown
      go_wp2_with fail
      go_ret
      exact ⟨_, rfl, HO.out.num HN.out.symm, hgr⟩
theorem word_bigint (x : Int) (X : Nat) (w : World) (hx : x = X) (hX : X < 18446744073709551616) :
    Calls Tryz.prog 82 #[.int .u64 x] w fun e w' => ∃ v, e = .returned v ∧ Num w' v X ∧ Gr w w' := by
  subst hx; exact word_big X w hX
end Go.Proofs.YtjpjnbgfodlkcaaGreatDoor
