/- The document's Add, Sub, Mul, Div, From of fractions. -/
import Derived.Test.YtjpjnbgfodlkcaaGreatDoorGAM
import Derived.WalkKit
import Derived.WalkSpells
import Derived.WalkLawsBesides
import Derived.WalkSmall
import Derived.Handy
import Derived.BigQuiet
import Derived.Deep.QuietTactic
import Derived.Deep.RegionHeld3
import Derived.Deep.DeepFit
import Derived.Below
import Derived.Lib.Hide
import Derived.Lib.QuietBelow
namespace Go.Proofs.YtjpjnbgfodlkcaaGreatDoor
open Go Go.RowKit Go.Sort
set_option maxRecDepth 100000
set_option linter.unusedVariables false
set_option maxHeartbeats 1000000 in
theorem rfadd_any {a b : Rat} (v u : Value) (w : World) (ha : Fra w v a) (hb : Fra w u b) :
    Calls Tryz.prog 8 #[v, u] w (FRes w (a + b)) := by
  have HFA := Lib.hid ha
  have HFB := Lib.hid hb
  obtain ⟨x, va, vb, A, B, rfl, hA, hB, -⟩ := id ha
  obtain ⟨y, vc, vd, C, D, rfl, hC, hD, -⟩ := id hb
  obtain ⟨aa, ca, rfl⟩ := num_slice hA
  obtain ⟨ab, cb, rfl⟩ := num_slice hB
  obtain ⟨ac, cc, rfl⟩ := num_slice hC
  obtain ⟨ad, cd, rfl⟩ := num_slice hD
  clear ha hb hA hB hC hD
  have hX := ((C3.new w (.bool x) (.slice aa (nd A).length ca) (.slice ab (nd B).length cb) 26 w.heap.size rfl).gr (Gr.alloc (Gr.refl _) (.cells #[.bool y, .slice ac (nd C).length cc, .slice ad (nd D).length cd] 26))).gr (Gr.alloc (Gr.refl _) (.cells #[.bool false, .slice none 0 0, .slice none 0 0] 26))
  have hY := (C3.new (w.alloc (.cells #[.bool x, .slice aa (nd A).length ca, .slice ab (nd B).length cb] 26)) (.bool y) (.slice ac (nd C).length cc) (.slice ad (nd D).length cd) 26 (w.heap.size + 1) (by simp)).gr (Gr.alloc (Gr.refl _) (.cells #[.bool false, .slice none 0 0, .slice none 0 0] 26))
  have hR := C3.new ((w.alloc (.cells #[.bool x, .slice aa (nd A).length ca, .slice ab (nd B).length cb] 26)).alloc (.cells #[.bool y, .slice ac (nd C).length cc, .slice ad (nd D).length cd] 26)) (.bool false) (.slice none 0 0) (.slice none 0 0) 26 (w.heap.size + 1 + 1) (by simp)
  have hG : Gr w (((w.alloc (.cells #[.bool x, .slice aa (nd A).length ca, .slice ab (nd B).length cb] 26)).alloc (.cells #[.bool y, .slice ac (nd C).length cc, .slice ad (nd D).length cd] 26)).alloc (.cells #[.bool false, .slice none 0 0, .slice none 0 0] 26)) := ((Gr.alloc (Gr.refl _) _).alloc _).alloc _
  obtain ⟨xc0, xc1, xc2, -, -, -, -, -⟩ := id hX
  obtain ⟨yc0, yc1, yc2, -, -, -, -, -⟩ := id hY
  go_enter Tryz.func8, Tryz.ntmps8
  go_wp2_with fail
  generalize ((w.alloc (.cells #[.bool x, .slice aa (nd A).length ca, .slice ab (nd B).length cb] 26)).alloc (.cells #[.bool y, .slice ac (nd C).length cc, .slice ad (nd D).length cd] 26)).alloc (.cells #[.bool false, .slice none 0 0, .slice none 0 0] 26) = W0 at *
  refine (rsum_any _ _ _ (HFA.out.gr hG) (HFB.out.gr hG)).mono ?_
  rintro e w1 ⟨b1, p1, p2, n1, n2, c1, c2, rfl, hred, hg⟩
  replace hR := hR.gr hg
  replace hX := hX.gr hg
  replace hY := hY.gr hg
  replace hG := hG.step hg
  clear xc0 xc1 xc2 yc0 yc1 yc2 hg
  obtain ⟨xc0, xc1, xc2, -, -, -, -, -⟩ := id hX
  obtain ⟨yc0, yc1, yc2, -, -, -, -, -⟩ := id hY
  have HRED := Lib.hid hred.red
  clear hred
  go_wp2_with fail
  refine (rlimited_any _ _ HRED.out).mono ?_
  intro e w5 hres
  obtain ⟨b, a1, a2, n1, n2, c1, c2, er, rfl, hres, hg⟩ := hres.form
  have HRES := Lib.hid hres
  replace hR := hR.gr hg
  replace hG := hG.step hg
  have hfl := hR.fill b a1 a2 n1 n2 c1 c2
  obtain ⟨sc0, sc1, sc2, -, -, -, -, -⟩ := hfl.1
  obtain ⟨rc0, rc1, rc2, rf0, rf1, rf2, rlt, -⟩ := id hR
  clear hres hg
  go_wp2_with fail
  refine bodyPost_ret (v := .tuple #[.agg #[.bool b, .slice a1 n1 c1, .slice a2 n2 c2], .int .i64 er]) (by simp [results, Tryz.results8, go_sem, sc0, sc1, sc2]) rfl ?_
  exact ⟨_, er, rfl, HRES.out.imp (fun h => ⟨h.1, h.2.1, hR.red b a1 a2 n1 n2 c1 c2 h.2.2⟩) id, C3.three hG (by omega) _ _ _⟩
set_option maxHeartbeats 4000000 in
theorem rfsub_any {a b : Rat} (v u : Value) (w : World) (ha : Fra w v a) (hb : Fra w u b) :
    Calls Tryz.prog 11 #[v, u] w (FRes w (a - b)) := by
  rw [Rat.sub_eq_add_neg]
  have HFA := Lib.hid ha
  have HFB := Lib.hid hb
  obtain ⟨x, va, vb, A, B, rfl, hA, hB, -⟩ := id ha
  obtain ⟨y, vc, vd, C, D, rfl, hC, hD, -⟩ := id hb
  obtain ⟨aa, ca, rfl⟩ := num_slice hA
  obtain ⟨ab, cb, rfl⟩ := num_slice hB
  obtain ⟨ac, cc, rfl⟩ := num_slice hC
  obtain ⟨ad, cd, rfl⟩ := num_slice hD
  clear ha hb hA hB hC hD
  have hX := ((C3.new w (.bool x) (.slice aa (nd A).length ca) (.slice ab (nd B).length cb) 26 w.heap.size rfl).gr (Gr.alloc (Gr.refl _) (.cells #[.bool y, .slice ac (nd C).length cc, .slice ad (nd D).length cd] 26))).gr (Gr.alloc (Gr.refl _) (.cells #[.bool false, .slice none 0 0, .slice none 0 0] 26))
  have hY := (C3.new (w.alloc (.cells #[.bool x, .slice aa (nd A).length ca, .slice ab (nd B).length cb] 26)) (.bool y) (.slice ac (nd C).length cc) (.slice ad (nd D).length cd) 26 (w.heap.size + 1) (by simp)).gr (Gr.alloc (Gr.refl _) (.cells #[.bool false, .slice none 0 0, .slice none 0 0] 26))
  have hR := C3.new ((w.alloc (.cells #[.bool x, .slice aa (nd A).length ca, .slice ab (nd B).length cb] 26)).alloc (.cells #[.bool y, .slice ac (nd C).length cc, .slice ad (nd D).length cd] 26)) (.bool false) (.slice none 0 0) (.slice none 0 0) 26 (w.heap.size + 1 + 1) (by simp)
  have hG : Gr w (((w.alloc (.cells #[.bool x, .slice aa (nd A).length ca, .slice ab (nd B).length cb] 26)).alloc (.cells #[.bool y, .slice ac (nd C).length cc, .slice ad (nd D).length cd] 26)).alloc (.cells #[.bool false, .slice none 0 0, .slice none 0 0] 26)) := ((Gr.alloc (Gr.refl _) _).alloc _).alloc _
  go_enter Tryz.func11, Tryz.ntmps11
  go_wp2_with fail
  generalize ((w.alloc (.cells #[.bool x, .slice aa (nd A).length ca, .slice ab (nd B).length cb] 26)).alloc (.cells #[.bool y, .slice ac (nd C).length cc, .slice ad (nd D).length cd] 26)).alloc (.cells #[.bool false, .slice none 0 0, .slice none 0 0] 26) = W0 at *
  replace hX := hX.gr (Gr.drew (Gr.refl _))
  replace hY := hY.gr (Gr.drew (Gr.refl _))
  replace hR := hR.gr (Gr.drew (Gr.refl _))
  replace hG := hG.step (Gr.drew (Gr.refl _))
  have hS := And.intro hX hY
  refine region_plain (fun W => C3 W w.heap.size (.bool x) (.slice aa (nd A).length ca) (.slice ab (nd B).length cb) ∧ C3 W (w.heap.size + 1) (.bool y) (.slice ac (nd C).length cc) (.slice ad (nd D).length cd)) (by kernel_rfl) ?_
  refine take_at 0 (some 6) (v := ?va0) rfl rfl (by kernel_rfl) (by kernel_rfl) (by kernel_rfl) (by rfl) ?ya0 hS ?ta0
  case ya0 =>
    intro w' hSw
    obtain ⟨⟨xc0, xc1, xc2, -, -, -, -, -⟩, yc0, yc1, yc2, -, -, -, -, -⟩ := hSw
    go_simp
    (try with_reducible rfl)
  simp only [Act.put, List.setIfInBounds_toArray, List.set_cons_zero, List.set_cons_succ]
  refine take_at 1 (some 7) (v := ?va1) rfl rfl (by kernel_rfl) (by kernel_rfl) (by kernel_rfl) (by rfl) ?ya1 hS ?ta1
  case ya1 =>
    intro w' hSw
    obtain ⟨⟨xc0, xc1, xc2, -, -, -, -, -⟩, yc0, yc1, yc2, -, -, -, -, -⟩ := hSw
    go_simp
    (try with_reducible rfl)
  simp only [Act.put, List.setIfInBounds_toArray, List.set_cons_zero, List.set_cons_succ]
  refine next_at 2 rfl (by kernel_rfl) (by rfl) (fun K hK => ?_)
  go_simp
  refine ((ropp_any _ _ (HFB.out.gr hG)).mono ?_)
  rintro e w2 ⟨bo, o1, o2, l1, l2, j1, j2, rfl, ho, hg⟩
  have HO := Lib.hid ho
  replace hX := hX.gr hg
  replace hY := hY.gr hg
  replace hR := hR.gr hg
  replace hG := hG.step hg
  replace hS := And.intro hX hY
  refine hK _ _ hS ?_
  clear hK K hg ho
  refine next_at 3 rfl (by kernel_rfl) (by rfl) (fun K hK => ?_)
  go_simp
  refine ((rsum_any _ _ _ (HFA.out.gr hG) HO.out).mono ?_)
  rintro e w3 ⟨b1, p1, p2, n1, n2, c1, c2, rfl, hred, hg⟩
  have HRED := Lib.hid hred.red
  replace hX := hX.gr hg
  replace hY := hY.gr hg
  replace hR := hR.gr hg
  replace hG := hG.step hg
  replace hS := And.intro hX hY
  refine hK _ _ hS ?_
  clear hK K hg hred HO
  refine next_at 4 rfl (by kernel_rfl) (by rfl) (fun K hK => ?_)
  go_simp
  refine ((rlimited_any _ _ HRED.out).mono ?_)
  intro e w5 hres
  obtain ⟨bz, z1, z2, m1, m2, k1, k2, er, rfl, hres, hg⟩ := hres.form
  replace hX := hX.gr hg
  replace hY := hY.gr hg
  replace hR := hR.gr hg
  replace hG := hG.step hg
  replace hS := And.intro hX hY
  have HRES := Lib.hid hres
  refine hK _ _ hS ?_
  clear hK K hres hg
  refine take_at 5 (some 11) (v := ?vz5) rfl rfl (by kernel_rfl) (by kernel_rfl) (by kernel_rfl) (by rfl) ?yz5 hS ?tz5
  case yz5 =>
    intro w' hSw
    obtain ⟨⟨xc0, xc1, xc2, -, -, -, -, -⟩, yc0, yc1, yc2, -, -, -, -, -⟩ := hSw
    go_simp
    (try with_reducible rfl)
  simp only [Act.put, List.setIfInBounds_toArray, List.set_cons_zero, List.set_cons_succ]
  refine take_at 6 (some 12) (v := ?vz6) rfl rfl (by kernel_rfl) (by kernel_rfl) (by kernel_rfl) (by rfl) ?yz6 hS ?tz6
  case yz6 =>
    intro w' hSw
    obtain ⟨⟨xc0, xc1, xc2, -, -, -, -, -⟩, yc0, yc1, yc2, -, -, -, -, -⟩ := hSw
    go_simp
    (try with_reducible rfl)
  simp only [Act.put, List.setIfInBounds_toArray, List.set_cons_zero, List.set_cons_succ]
  have hfl := hR.fill bz z1 z2 m1 m2 k1 k2
  obtain ⟨sc0, sc1, sc2, -, -, -, -, -⟩ := hfl.1
  obtain ⟨rc0, rc1, rc2, rf0, rf1, rf2, rlt, -⟩ := id hR
  have hSX := ((hX.other (o := 0) (.bool bz) (s := w.heap.size + 1 + 1) (by omega)).other (o := 1) (.slice z1 m1 k1) (s := w.heap.size + 1 + 1) (by omega)).other (o := 2) (.slice z2 m2 k2) (s := w.heap.size + 1 + 1) (by omega)
  have hSY := ((hY.other (o := 0) (.bool bz) (s := w.heap.size + 1 + 1) (by omega)).other (o := 1) (.slice z1 m1 k1) (s := w.heap.size + 1 + 1) (by omega)).other (o := 2) (.slice z2 m2 k2) (s := w.heap.size + 1 + 1) (by omega)
  refine next_at 7 rfl (by kernel_rfl) (by rfl) (fun K hK => ?_)
  go_simp
  refine hK _ _ (And.intro hSX hSY) ?_
  clear hK K
  refine next_at 8 rfl (by kernel_rfl) (by rfl) (fun K hK => ?_)
  go_simp
  refine hK _ _ (And.intro hSX hSY) ?_
  clear hK K
  refine wpAnyH_done (by kernel_rfl) ?_ _
  refine qz_normal ?_
  go_wp2_with fail
  refine bodyPost_ret (v := .tuple #[.agg #[.bool bz, .slice z1 m1 k1, .slice z2 m2 k2], .int .i64 er]) (by simp [results, Tryz.results11, go_sem, sc0, sc1, sc2]) rfl ?_
  exact ⟨_, er, rfl, HRES.out.imp (fun h => ⟨h.1, h.2.1, hR.red bz z1 z2 m1 m2 k1 k2 h.2.2⟩) id, C3.three hG (by omega) _ _ _⟩
set_option maxHeartbeats 4000000 in
theorem rfmul_any {a b : Rat} (v u : Value) (w : World) (ha : Fra w v a) (hb : Fra w u b) :
    Calls Tryz.prog 13 #[v, u] w (FRes w (a * b)) := by
  obtain ⟨x, va, vb, A, B, rfl, hA, hB, hB0, hx, lA, lB, rfl⟩ := ha
  obtain ⟨y, vc, vd, C, D, rfl, hC, hD, hD0, hy, lC, lD, rfl⟩ := hb
  obtain ⟨aa, ca, rfl⟩ := num_slice hA
  obtain ⟨ab, cb, rfl⟩ := num_slice hB
  obtain ⟨ac, cc, rfl⟩ := num_slice hC
  obtain ⟨ad, cd, rfl⟩ := num_slice hD
  have HA := Lib.hid hA
  have HB := Lib.hid hB
  have HC := Lib.hid hC
  have HD := Lib.hid hD
  have HBD := Lib.hid (Nat.mul_pos hB0 hD0)
  have lX := nd_mul' lA lD
  have lY := nd_mul' lC lB
  have lZ := nd_mul' lB lD
  rw [rat_mul (x := x) (y := y) (A := A) (B := B) (C := C) (D := D), bne_bool]
  have lN := nd_mul' lA lC
  clear hA hB hC hD hB0 hD0 hx hy lX lY
  have hX := ((C3.new w (.bool x) (.slice aa (nd A).length ca) (.slice ab (nd B).length cb) 26 w.heap.size rfl).gr (Gr.alloc (Gr.refl _) (.cells #[.bool y, .slice ac (nd C).length cc, .slice ad (nd D).length cd] 26))).gr (Gr.alloc (Gr.refl _) (.cells #[.bool false, .slice none 0 0, .slice none 0 0] 26))
  have hY := (C3.new (w.alloc (.cells #[.bool x, .slice aa (nd A).length ca, .slice ab (nd B).length cb] 26)) (.bool y) (.slice ac (nd C).length cc) (.slice ad (nd D).length cd) 26 (w.heap.size + 1) (by simp)).gr (Gr.alloc (Gr.refl _) (.cells #[.bool false, .slice none 0 0, .slice none 0 0] 26))
  have hR := C3.new ((w.alloc (.cells #[.bool x, .slice aa (nd A).length ca, .slice ab (nd B).length cb] 26)).alloc (.cells #[.bool y, .slice ac (nd C).length cc, .slice ad (nd D).length cd] 26)) (.bool false) (.slice none 0 0) (.slice none 0 0) 26 (w.heap.size + 1 + 1) (by simp)
  have hG : Gr w (((w.alloc (.cells #[.bool x, .slice aa (nd A).length ca, .slice ab (nd B).length cb] 26)).alloc (.cells #[.bool y, .slice ac (nd C).length cc, .slice ad (nd D).length cd] 26)).alloc (.cells #[.bool false, .slice none 0 0, .slice none 0 0] 26)) := ((Gr.alloc (Gr.refl _) _).alloc _).alloc _
  go_enter Tryz.func13, Tryz.ntmps13
  go_wp2_with fail
  generalize ((w.alloc (.cells #[.bool x, .slice aa (nd A).length ca, .slice ab (nd B).length cb] 26)).alloc (.cells #[.bool y, .slice ac (nd C).length cc, .slice ad (nd D).length cd] 26)).alloc (.cells #[.bool false, .slice none 0 0, .slice none 0 0] 26) = W0 at *
  replace hX := hX.gr (Gr.drew (Gr.refl _))
  replace hY := hY.gr (Gr.drew (Gr.refl _))
  replace hR := hR.gr (Gr.drew (Gr.refl _))
  replace hG := hG.step (Gr.drew (Gr.refl _))
  have hS := And.intro hX hY
  refine region_plain (fun W => C3 W w.heap.size (.bool x) (.slice aa (nd A).length ca) (.slice ab (nd B).length cb) ∧ C3 W (w.heap.size + 1) (.bool y) (.slice ac (nd C).length cc) (.slice ad (nd D).length cd)) (by kernel_rfl) ?_
  refine take_at 0 (some 6) (v := ?va0) rfl rfl (by kernel_rfl) (by kernel_rfl) (by kernel_rfl) (by rfl) ?ya0 hS ?ta0
  case ya0 =>
    intro w' hSw
    obtain ⟨⟨xc0, xc1, xc2, -, -, -, -, -⟩, yc0, yc1, yc2, -, -, -, -, -⟩ := hSw
    go_simp
    (try with_reducible rfl)
  simp only [Act.put, List.setIfInBounds_toArray, List.set_cons_zero, List.set_cons_succ]
  refine take_at 1 (some 7) (v := ?va1) rfl rfl (by kernel_rfl) (by kernel_rfl) (by kernel_rfl) (by rfl) ?ya1 hS ?ta1
  case ya1 =>
    intro w' hSw
    obtain ⟨⟨xc0, xc1, xc2, -, -, -, -, -⟩, yc0, yc1, yc2, -, -, -, -, -⟩ := hSw
    go_simp
    (try with_reducible rfl)
  simp only [Act.put, List.setIfInBounds_toArray, List.set_cons_zero, List.set_cons_succ]
  refine take_at 2 (some 8) (v := ?va2) rfl rfl (by kernel_rfl) (by kernel_rfl) (by kernel_rfl) (by rfl) ?ya2 hS ?ta2
  case ya2 =>
    intro w' hSw
    obtain ⟨⟨xc0, xc1, xc2, -, -, -, -, -⟩, yc0, yc1, yc2, -, -, -, -, -⟩ := hSw
    go_simp
    (try with_reducible rfl)
  simp only [Act.put, List.setIfInBounds_toArray, List.set_cons_zero, List.set_cons_succ]
  refine take_at 3 (some 9) (v := ?va3) rfl rfl (by kernel_rfl) (by kernel_rfl) (by kernel_rfl) (by rfl) ?ya3 hS ?ta3
  case ya3 =>
    intro w' hSw
    obtain ⟨⟨xc0, xc1, xc2, -, -, -, -, -⟩, yc0, yc1, yc2, -, -, -, -, -⟩ := hSw
    go_simp
    (try with_reducible rfl)
  simp only [Act.put, List.setIfInBounds_toArray, List.set_cons_zero, List.set_cons_succ]
  refine take_at 4 (some 10) (v := ?va4) rfl rfl (by kernel_rfl) (by kernel_rfl) (by kernel_rfl) (by rfl) ?ya4 hS ?ta4
  case ya4 =>
    intro w' hSw
    obtain ⟨⟨xc0, xc1, xc2, -, -, -, -, -⟩, yc0, yc1, yc2, -, -, -, -, -⟩ := hSw
    go_simp
    (try with_reducible rfl)
  simp only [Act.put, List.setIfInBounds_toArray, List.set_cons_zero, List.set_cons_succ]
  refine take_at 5 (some 11) (v := ?va5) rfl rfl (by kernel_rfl) (by kernel_rfl) (by kernel_rfl) (by rfl) ?ya5 hS ?ta5
  case ya5 =>
    intro w' hSw
    obtain ⟨⟨xc0, xc1, xc2, -, -, -, -, -⟩, yc0, yc1, yc2, -, -, -, -, -⟩ := hSw
    go_simp
    (try with_reducible rfl)
  simp only [Act.put, List.setIfInBounds_toArray, List.set_cons_zero, List.set_cons_succ]
  refine take_at 6 (some 12) (v := ?va6) rfl rfl (by kernel_rfl) (by kernel_rfl) (by kernel_rfl) (by rfl) ?ya6 hS ?ta6
  case ya6 =>
    intro w' hSw
    obtain ⟨⟨xc0, xc1, xc2, -, -, -, -, -⟩, yc0, yc1, yc2, -, -, -, -, -⟩ := hSw
    go_simp
    (try with_reducible rfl)
  simp only [Act.put, List.setIfInBounds_toArray, List.set_cons_zero, List.set_cons_succ]
  refine take_at 7 (some 13) (v := ?va7) rfl rfl (by kernel_rfl) (by kernel_rfl) (by kernel_rfl) (by rfl) ?ya7 hS ?ta7
  case ya7 =>
    intro w' hSw
    obtain ⟨⟨xc0, xc1, xc2, -, -, -, -, -⟩, yc0, yc1, yc2, -, -, -, -, -⟩ := hSw
    go_simp
    (try with_reducible rfl)
  simp only [Act.put, List.setIfInBounds_toArray, List.set_cons_zero, List.set_cons_succ]
  refine take_at 8 (some 14) (v := ?va8) rfl rfl (by kernel_rfl) (by kernel_rfl) (by kernel_rfl) (by rfl) ?ya8 hS ?ta8
  case ya8 =>
    intro w' hSw
    obtain ⟨⟨xc0, xc1, xc2, -, -, -, -, -⟩, yc0, yc1, yc2, -, -, -, -, -⟩ := hSw
    go_simp
    (try with_reducible rfl)
  simp only [Act.put, List.setIfInBounds_toArray, List.set_cons_zero, List.set_cons_succ]
  refine take_at 10 (some 16) (v := ?va10) rfl rfl (by kernel_rfl) (by kernel_rfl) (by kernel_rfl) (by rfl) ?ya10 hS ?ta10
  case ya10 =>
    intro w' hSw
    obtain ⟨⟨xc0, xc1, xc2, -, -, -, -, -⟩, yc0, yc1, yc2, -, -, -, -, -⟩ := hSw
    go_simp
    (try with_reducible rfl)
  simp only [Act.put, List.setIfInBounds_toArray, List.set_cons_zero, List.set_cons_succ]
  refine take_at 11 (some 17) (v := ?va11) rfl rfl (by kernel_rfl) (by kernel_rfl) (by kernel_rfl) (by rfl) ?ya11 hS ?ta11
  case ya11 =>
    intro w' hSw
    obtain ⟨⟨xc0, xc1, xc2, -, -, -, -, -⟩, yc0, yc1, yc2, -, -, -, -, -⟩ := hSw
    go_simp
    (try with_reducible rfl)
  simp only [Act.put, List.setIfInBounds_toArray, List.set_cons_zero, List.set_cons_succ]
  refine take_at 12 (some 18) (v := ?va12) rfl rfl (by kernel_rfl) (by kernel_rfl) (by kernel_rfl) (by rfl) ?ya12 hS ?ta12
  case ya12 =>
    intro w' hSw
    obtain ⟨⟨xc0, xc1, xc2, -, -, -, -, -⟩, yc0, yc1, yc2, -, -, -, -, -⟩ := hSw
    go_simp
    (try with_reducible rfl)
  simp only [Act.put, List.setIfInBounds_toArray, List.set_cons_zero, List.set_cons_succ]
  refine take_at 13 (some 19) (v := ?va13) rfl rfl (by kernel_rfl) (by kernel_rfl) (by kernel_rfl) (by rfl) ?ya13 hS ?ta13
  case ya13 =>
    intro w' hSw
    obtain ⟨⟨xc0, xc1, xc2, -, -, -, -, -⟩, yc0, yc1, yc2, -, -, -, -, -⟩ := hSw
    go_simp
    (try with_reducible rfl)
  simp only [Act.put, List.setIfInBounds_toArray, List.set_cons_zero, List.set_cons_succ]
  refine next_at 9 rfl (by kernel_rfl) (by rfl) (fun K hK => ?_)
  go_simp
  refine ((times_any _ _ _ (HA.out.gr hG) (HC.out.gr hG) (by omega) (by omega)).mono ?_)
  rintro e w1 ⟨v1, rfl, hv1, hg⟩
  obtain ⟨a1, c1, rfl⟩ := num_slice hv1
  have H1 := Lib.hid hv1
  replace hX := hX.gr hg
  replace hY := hY.gr hg
  replace hR := hR.gr hg
  replace hG := hG.step hg
  replace hS := And.intro hX hY
  refine hK _ _ hS ?_
  clear hK K hg hv1
  refine next_at 14 rfl (by kernel_rfl) (by rfl) (fun K hK => ?_)
  go_simp
  refine ((times_any _ _ _ (HB.out.gr hG) (HD.out.gr hG) (by omega) (by omega)).mono ?_)
  rintro e w2 ⟨v2, rfl, hv2, hg⟩
  obtain ⟨a2, c2, rfl⟩ := num_slice hv2
  have H2 := Lib.hid hv2
  have H1 := Lib.hid (H1.out.gr hg)
  replace hX := hX.gr hg
  replace hY := hY.gr hg
  replace hR := hR.gr hg
  replace hG := hG.step hg
  replace hS := And.intro hX hY
  refine hK _ _ hS ?_
  clear hK K hg hv2
  refine next_at 15 rfl (by kernel_rfl) (by rfl) (fun K hK => ?_)
  go_simp
  refine ((reduced_any _ _ _ _ H1.out H2.out HBD.out (by omega) (by omega)).mono ?_)
  rintro e w3 ⟨b3, p1, p2, n1, n2, k3, k4, rfl, hred, hg⟩
  have HRED := Lib.hid hred.red
  replace hX := hX.gr hg
  replace hY := hY.gr hg
  replace hR := hR.gr hg
  replace hG := hG.step hg
  replace hS := And.intro hX hY
  refine hK _ _ hS ?_
  clear hK K hg hred H1 H2
  refine next_at 16 rfl (by kernel_rfl) (by rfl) (fun K hK => ?_)
  go_simp
  refine ((rlimited_any _ _ HRED.out).mono ?_)
  intro e w5 hres
  obtain ⟨bz, z1, z2, m1, m2, k1, k2, er, rfl, hres, hg⟩ := hres.form
  replace hX := hX.gr hg
  replace hY := hY.gr hg
  replace hR := hR.gr hg
  replace hG := hG.step hg
  replace hS := And.intro hX hY
  have HRES := Lib.hid hres
  refine hK _ _ hS ?_
  clear hK K hres hg
  refine take_at 17 (some 23) (v := ?vz17) rfl rfl (by kernel_rfl) (by kernel_rfl) (by kernel_rfl) (by rfl) ?yz17 hS ?tz17
  case yz17 =>
    intro w' hSw
    obtain ⟨⟨xc0, xc1, xc2, -, -, -, -, -⟩, yc0, yc1, yc2, -, -, -, -, -⟩ := hSw
    go_simp
    (try with_reducible rfl)
  simp only [Act.put, List.setIfInBounds_toArray, List.set_cons_zero, List.set_cons_succ]
  refine take_at 18 (some 24) (v := ?vz18) rfl rfl (by kernel_rfl) (by kernel_rfl) (by kernel_rfl) (by rfl) ?yz18 hS ?tz18
  case yz18 =>
    intro w' hSw
    obtain ⟨⟨xc0, xc1, xc2, -, -, -, -, -⟩, yc0, yc1, yc2, -, -, -, -, -⟩ := hSw
    go_simp
    (try with_reducible rfl)
  simp only [Act.put, List.setIfInBounds_toArray, List.set_cons_zero, List.set_cons_succ]
  have hfl := hR.fill bz z1 z2 m1 m2 k1 k2
  obtain ⟨sc0, sc1, sc2, -, -, -, -, -⟩ := hfl.1
  obtain ⟨rc0, rc1, rc2, rf0, rf1, rf2, rlt, -⟩ := id hR
  have hSX := ((hX.other (o := 0) (.bool bz) (s := w.heap.size + 1 + 1) (by omega)).other (o := 1) (.slice z1 m1 k1) (s := w.heap.size + 1 + 1) (by omega)).other (o := 2) (.slice z2 m2 k2) (s := w.heap.size + 1 + 1) (by omega)
  have hSY := ((hY.other (o := 0) (.bool bz) (s := w.heap.size + 1 + 1) (by omega)).other (o := 1) (.slice z1 m1 k1) (s := w.heap.size + 1 + 1) (by omega)).other (o := 2) (.slice z2 m2 k2) (s := w.heap.size + 1 + 1) (by omega)
  refine next_at 19 rfl (by kernel_rfl) (by rfl) (fun K hK => ?_)
  go_simp
  refine hK _ _ (And.intro hSX hSY) ?_
  clear hK K
  refine next_at 20 rfl (by kernel_rfl) (by rfl) (fun K hK => ?_)
  go_simp
  refine hK _ _ (And.intro hSX hSY) ?_
  clear hK K
  refine wpAnyH_done (by kernel_rfl) ?_ _
  refine qz_normal ?_
  go_wp2_with fail
  refine bodyPost_ret (v := .tuple #[.agg #[.bool bz, .slice z1 m1 k1, .slice z2 m2 k2], .int .i64 er]) (by simp [results, Tryz.results13, go_sem, sc0, sc1, sc2]) rfl ?_
  exact ⟨_, er, rfl, HRES.out.imp (fun h => ⟨h.1, h.2.1, hR.red bz z1 z2 m1 m2 k1 k2 h.2.2⟩) id, C3.three hG (by omega) _ _ _⟩
set_option maxHeartbeats 2000000 in
theorem rfdiv_any {a b : Rat} (v u : Value) (w : World) (ha : Fra w v a) (hb : Fra w u b) (hb0 : b ≠ 0) :
    Calls Tryz.prog 15 #[v, u] w (FRes w (a / b)) := by
  have HINV : Hid (∀ W, Gr w W → ∀ (y : Bool) (vc vd : Value), u = .agg #[.bool y, vc, vd] → Fra W (.agg #[.bool y, vd, vc]) (b⁻¹)) := Lib.hid (by
    intro W hg y vc vd hu
    obtain ⟨y', vc', vd', C, D, e, hC, hD, hD0, hy, lC, lD, rfl⟩ := hb
    rw [hu] at e
    simp only [Value.agg.injEq, Array.mk.injEq, List.cons.injEq, and_true, Value.bool.injEq] at e
    obtain ⟨rfl, rfl, rfl⟩ := e
    have hC0 : 0 < C := Nat.pos_of_ne_zero fun h => hb0 ((rat_eq_zero hD0).2 h)
    exact ⟨y, vd, vc, D, C, rfl, hD.gr hg, hC.gr hg, hC0, fun _ => hD0, lD, lC, rat_inv hD0 hC0⟩)
  have HLEN : Hid (∀ (y : Bool) (a1 : Option Addr) (n1 c1 : Nat) (vd : Value), u = .agg #[.bool y, .slice a1 n1 c1, vd] → n1 ≠ 0) := Lib.hid (by
    intro y a1 n1 c1 vd hu
    rw [hu] at hb
    exact fun h => hb0 (hb.len.1 h))
  rw [Rat.div_def]
  have HFA := Lib.hid ha
  have HFB := Lib.hid hb
  obtain ⟨x, va, vb, A, B, rfl, hA, hB, -⟩ := id ha
  obtain ⟨y, vc, vd, C, D, rfl, hC, hD, -⟩ := id hb
  obtain ⟨aa, ca, rfl⟩ := num_slice hA
  obtain ⟨ab, cb, rfl⟩ := num_slice hB
  obtain ⟨ac, cc, rfl⟩ := num_slice hC
  obtain ⟨ad, cd, rfl⟩ := num_slice hD
  clear ha hb hA hB hC hD
  have hX := ((C3.new w (.bool x) (.slice aa (nd A).length ca) (.slice ab (nd B).length cb) 26 w.heap.size rfl).gr (Gr.alloc (Gr.refl _) (.cells #[.bool y, .slice ac (nd C).length cc, .slice ad (nd D).length cd] 26))).gr (Gr.alloc (Gr.refl _) (.cells #[.bool false, .slice none 0 0, .slice none 0 0] 26))
  have hY := (C3.new (w.alloc (.cells #[.bool x, .slice aa (nd A).length ca, .slice ab (nd B).length cb] 26)) (.bool y) (.slice ac (nd C).length cc) (.slice ad (nd D).length cd) 26 (w.heap.size + 1) (by simp)).gr (Gr.alloc (Gr.refl _) (.cells #[.bool false, .slice none 0 0, .slice none 0 0] 26))
  have hR := C3.new ((w.alloc (.cells #[.bool x, .slice aa (nd A).length ca, .slice ab (nd B).length cb] 26)).alloc (.cells #[.bool y, .slice ac (nd C).length cc, .slice ad (nd D).length cd] 26)) (.bool false) (.slice none 0 0) (.slice none 0 0) 26 (w.heap.size + 1 + 1) (by simp)
  have hG : Gr w (((w.alloc (.cells #[.bool x, .slice aa (nd A).length ca, .slice ab (nd B).length cb] 26)).alloc (.cells #[.bool y, .slice ac (nd C).length cc, .slice ad (nd D).length cd] 26)).alloc (.cells #[.bool false, .slice none 0 0, .slice none 0 0] 26)) := ((Gr.alloc (Gr.refl _) _).alloc _).alloc _
  have hI := HINV.out _ hG y _ _ rfl
  have hn := HLEN.out y _ _ _ _ rfl
  have dz : (((nd C).length : Int) == 0) = false := by rw [beq_eq_false_iff_ne]; omega
  have HI := Lib.hid hI
  clear HINV HLEN hb0 hI hn
  obtain ⟨xc0, xc1, xc2, -, -, -, -, -⟩ := id hX
  obtain ⟨yc0, yc1, yc2, -, -, -, -, -⟩ := id hY
  go_enter Tryz.func15, Tryz.ntmps15
  go_wp2_with fail
  generalize ((w.alloc (.cells #[.bool x, .slice aa (nd A).length ca, .slice ab (nd B).length cb] 26)).alloc (.cells #[.bool y, .slice ac (nd C).length cc, .slice ad (nd D).length cd] 26)).alloc (.cells #[.bool false, .slice none 0 0, .slice none 0 0] 26) = W0 at *
  refine (rfmul_any _ _ _ (HFA.out.gr hG) HI.out).mono ?_
  intro e w5 hres
  obtain ⟨b, a1, a2, n1, n2, c1, c2, er, rfl, hres, hg⟩ := hres.form
  have HRES := Lib.hid hres
  replace hR := hR.gr hg
  replace hG := hG.step hg
  have hfl := hR.fill b a1 a2 n1 n2 c1 c2
  obtain ⟨sc0, sc1, sc2, -, -, -, -, -⟩ := hfl.1
  obtain ⟨rc0, rc1, rc2, rf0, rf1, rf2, rlt, -⟩ := id hR
  clear hres hg
  go_wp2_with fail
  refine bodyPost_ret (v := .tuple #[.agg #[.bool b, .slice a1 n1 c1, .slice a2 n2 c2], .int .i64 er]) (by simp [results, Tryz.results15, go_sem, sc0, sc1, sc2]) rfl ?_
  exact ⟨_, er, rfl, HRES.out.imp (fun h => ⟨h.1, h.2.1, hR.red b a1 a2 n1 n2 c1 c2 h.2.2⟩) id, C3.three hG (by omega) _ _ _⟩
set_option maxHeartbeats 2000000 in
theorem rfdiv_zero {a : Rat} (v u : Value) (w : World) (ha : Fra w v a) (hb : Fra w u 0) :
    Calls Tryz.prog 15 #[v, u] w fun e w' => e = .returned (.tuple #[.agg #[.bool false, .slice none 0 0, .slice none 0 0], .int .i64 14]) ∧ Gr w w' := by
  have HLEN : Hid (∀ (y : Bool) (a1 : Option Addr) (n1 c1 : Nat) (vd : Value), u = .agg #[.bool y, .slice a1 n1 c1, vd] → n1 = 0) := Lib.hid (by
    intro y a1 n1 c1 vd hu
    rw [hu] at hb
    exact hb.len.2 rfl)
  have HFA := Lib.hid ha
  have HFB := Lib.hid hb
  obtain ⟨x, va, vb, A, B, rfl, hA, hB, -⟩ := id ha
  obtain ⟨y, vc, vd, C, D, rfl, hC, hD, -⟩ := id hb
  obtain ⟨aa, ca, rfl⟩ := num_slice hA
  obtain ⟨ab, cb, rfl⟩ := num_slice hB
  obtain ⟨ac, cc, rfl⟩ := num_slice hC
  obtain ⟨ad, cd, rfl⟩ := num_slice hD
  clear ha hb hA hB hC hD
  have hX := ((C3.new w (.bool x) (.slice aa (nd A).length ca) (.slice ab (nd B).length cb) 26 w.heap.size rfl).gr (Gr.alloc (Gr.refl _) (.cells #[.bool y, .slice ac (nd C).length cc, .slice ad (nd D).length cd] 26))).gr (Gr.alloc (Gr.refl _) (.cells #[.bool false, .slice none 0 0, .slice none 0 0] 26))
  have hY := (C3.new (w.alloc (.cells #[.bool x, .slice aa (nd A).length ca, .slice ab (nd B).length cb] 26)) (.bool y) (.slice ac (nd C).length cc) (.slice ad (nd D).length cd) 26 (w.heap.size + 1) (by simp)).gr (Gr.alloc (Gr.refl _) (.cells #[.bool false, .slice none 0 0, .slice none 0 0] 26))
  have hR := C3.new ((w.alloc (.cells #[.bool x, .slice aa (nd A).length ca, .slice ab (nd B).length cb] 26)).alloc (.cells #[.bool y, .slice ac (nd C).length cc, .slice ad (nd D).length cd] 26)) (.bool false) (.slice none 0 0) (.slice none 0 0) 26 (w.heap.size + 1 + 1) (by simp)
  have hG : Gr w (((w.alloc (.cells #[.bool x, .slice aa (nd A).length ca, .slice ab (nd B).length cb] 26)).alloc (.cells #[.bool y, .slice ac (nd C).length cc, .slice ad (nd D).length cd] 26)).alloc (.cells #[.bool false, .slice none 0 0, .slice none 0 0] 26)) := ((Gr.alloc (Gr.refl _) _).alloc _).alloc _
  have hn := HLEN.out y _ _ _ _ rfl
  have dz : (((nd C).length : Int) == 0) = true := by rw [beq_iff_eq]; omega
  have HGG := Lib.hid hG
  clear HLEN hn
  obtain ⟨xc0, xc1, xc2, -, -, -, -, -⟩ := id hX
  obtain ⟨yc0, yc1, yc2, -, -, -, -, -⟩ := id hY
  obtain ⟨sc0, sc1, sc2, -, -, -, -, -⟩ := id hR
  go_enter Tryz.func15, Tryz.ntmps15
  go_wp2_with fail
  refine bodyPost_ret (v := .tuple #[.agg #[.bool false, .slice none 0 0, .slice none 0 0], .int .i64 14]) (by simp [results, Tryz.results15, go_sem, sc0, sc1, sc2]) rfl ?_
  exact ⟨rfl, HGG.out⟩
theorem rmag_any (n : Int) (w : World) (h0 : -9223372036854775808 ≤ n) (h1 : n ≤ 9223372036854775807) :
    Calls Tryz.prog 48 #[.int .i64 n] w (OneNum w n.natAbs) := by
  by_cases hn : n < 0
  · have d0 : decide (n < 0) = true := by simpa using hn
    have m1 : IntKind.i64.wrap (n + 1) = n + 1 := IntWalk.i64_in _ (by omega)
    have m2 : IntKind.i64.wrap (-(n + 1)) = -(n + 1) := IntWalk.i64_in _ (by omega)
    have m3 : IntKind.u64.wrap (-(n + 1)) = -(n + 1) := IntWalk.u64_in _ (by omega)
    have m4 : IntKind.u64.wrap (-(n + 1) + 1) = -(n + 1) + 1 := IntWalk.u64_in _ (by omega)
    have HW := Lib.hid (word_bigint (-(n + 1) + 1) n.natAbs w (by omega) (by omega))
    go_enter Tryz.func48, Tryz.ntmps48
    go_wp2_with fail
    refine HW.out.mono ?_
    rintro e w1 ⟨v, rfl, hv, hg⟩
    go_wp2_with fail
    go_ret
    exact ⟨v, rfl, hv, hg⟩
  · have d0 : decide (n < 0) = false := by simpa using hn
    have HW := Lib.hid (word_bigint n n.natAbs w (by omega) (by omega))
    go_enter Tryz.func48, Tryz.ntmps48
    go_wp2_with fail
    refine HW.out.mono ?_
    rintro e w1 ⟨v, rfl, hv, hg⟩
    go_wp2_with fail
    go_ret
    exact ⟨v, rfl, hv, hg⟩
theorem quot_bd (n d : Int) (n0 : -9223372036854775808 ≤ n) (n1 : n ≤ 9223372036854775807) (d0 : -9223372036854775808 ≤ d) (d1 : d ≤ 9223372036854775807) (hd : d ≠ 0) : Bd 64 (quot n d) :=
  bd_rat (by omega) (Nat.le_trans ((nd_len n.natAbs 3).2 (by omega)) (by omega)) (Nat.le_trans ((nd_len d.natAbs 3).2 (by omega)) (by omega))
set_option maxHeartbeats 2000000 in
theorem rffrom_any (n d : Int) (w : World) (n0 : -9223372036854775808 ≤ n) (n1 : n ≤ 9223372036854775807) (d0 : -9223372036854775808 ≤ d) (d1 : d ≤ 9223372036854775807) (hd : d ≠ 0) :
    Calls Tryz.prog 17 #[.int .i64 n, .int .i64 d] w (FRes w (quot n d)) := by
  have HBQ := Lib.hid (quot_bd n d n0 n1 d0 d1 hd)
  unfold quot at HBQ ⊢
  rw [bne_bool] at HBQ ⊢
  have dz : (d == 0) = false := by rw [beq_eq_false_iff_ne]; exact hd
  have lN : (nd n.natAbs).length ≤ 256 := by have := (nd_len n.natAbs 3).2 (by omega); omega
  have lD : (nd d.natAbs).length ≤ 256 := by have := (nd_len d.natAbs 3).2 (by omega); omega
  have HD := Lib.hid (show 0 < d.natAbs by omega)
  clear hd
  have hR := C3.new w (.bool false) (.slice none 0 0) (.slice none 0 0) 26 w.heap.size rfl
  have hG : Gr w (w.alloc (.cells #[.bool false, .slice none 0 0, .slice none 0 0] 26)) := Gr.alloc (Gr.refl _) _
  go_enter Tryz.func17, Tryz.ntmps17
  go_wp2_with fail
  generalize w.alloc (.cells #[.bool false, .slice none 0 0, .slice none 0 0] 26) = W0 at *
  refine (rmag_any n _ n0 n1).mono ?_
  rintro e w1 ⟨v, rfl, hv, hg⟩
  replace hR := hR.gr hg
  replace hG := hG.step hg
  have HV := Lib.hid hv
  clear hv hg
  go_wp2_with fail
  refine (rmag_any d _ d0 d1).mono ?_
  rintro e w2 ⟨u, rfl, hu, hg⟩
  have HV := Lib.hid (HV.out.gr hg)
  have HU := Lib.hid hu
  replace hR := hR.gr hg
  replace hG := hG.step hg
  clear hu hg
  go_wp2_with fail
  refine (reduced_any _ _ _ _ HV.out HU.out HD.out (by omega) (by omega)).mono ?_
  rintro e w3 ⟨b5, p1, p2, n1', n2', c1, c2, rfl, hred, hg⟩
  have HRED := Lib.hid (hred.imp (q := fun c => w.heap.size ≤ c) fun _ hc => Nat.le_trans (Gr.size hG) hc)
  replace hR := hR.gr hg
  replace hG := hG.step hg
  have hfl := hR.fill b5 p1 p2 n1' n2' c1 c2
  obtain ⟨sc0, sc1, sc2, -, -, -, -, -⟩ := hfl.1
  obtain ⟨rc0, rc1, rc2, rf0, rf1, rf2, rlt, -⟩ := id hR
  clear hg hred
  go_wp2_with fail
  refine bodyPost_ret (v := .tuple #[.agg #[.bool b5, .slice p1 n1' c1, .slice p2 n2' c2], .int .i64 0]) (by simp [results, Tryz.results17, go_sem, sc0, sc1, sc2]) rfl ?_
  exact ⟨_, 0, rfl, .inl ⟨HBQ.out, rfl, (hR.redp b5 p1 p2 n1' n2' c1 c2 HRED.out).red⟩, C3.three hG (Nat.le_refl _) _ _ _⟩
theorem rffrom_zero (n : Int) (w : World) :
    Calls Tryz.prog 17 #[.int .i64 n, .int .i64 0] w fun e w' => e = .returned (.tuple #[.agg #[.bool false, .slice none 0 0, .slice none 0 0], .int .i64 14]) ∧ Gr w w' := by
  have hR := C3.new w (.bool false) (.slice none 0 0) (.slice none 0 0) 26 w.heap.size rfl
  have HGG := Lib.hid (show Gr w (w.alloc (.cells #[.bool false, .slice none 0 0, .slice none 0 0] 26)) from Gr.alloc (Gr.refl _) _)
  obtain ⟨sc0, sc1, sc2, -, -, -, -, -⟩ := id hR
  go_enter Tryz.func17, Tryz.ntmps17
  go_wp2_with fail
  refine bodyPost_ret (v := .tuple #[.agg #[.bool false, .slice none 0 0, .slice none 0 0], .int .i64 14]) (by simp [results, Tryz.results17, go_sem, sc0, sc1, sc2]) rfl ?_
  exact ⟨rfl, HGG.out⟩
theorem ffrom_zero (n : Int) (w : World) :
    Calls Tryz.prog 16 #[.int .i64 n, .int .i64 0] w fun e w' => e = .returned (.tuple #[.agg #[.bool false, .slice none 0 0, .slice none 0 0], .int .i64 14]) ∧ Gr w w' := by
  have hR := C3.new w (.bool false) (.slice none 0 0) (.slice none 0 0) 26 w.heap.size rfl
  have HGG := Lib.hid (show Gr w (w.alloc (.cells #[.bool false, .slice none 0 0, .slice none 0 0] 26)) from Gr.alloc (Gr.refl _) _)
  obtain ⟨sc0, sc1, sc2, -, -, -, -, -⟩ := id hR
  go_enter Tryz.func16, Tryz.ntmps16
  go_wp2_with fail
  refine bodyPost_ret (v := .tuple #[.agg #[.bool false, .slice none 0 0, .slice none 0 0], .int .i64 14]) (by simp [results, Tryz.results16, go_sem, sc0, sc1, sc2]) rfl ?_
  exact ⟨rfl, HGG.out⟩
end Go.Proofs.YtjpjnbgfodlkcaaGreatDoor
