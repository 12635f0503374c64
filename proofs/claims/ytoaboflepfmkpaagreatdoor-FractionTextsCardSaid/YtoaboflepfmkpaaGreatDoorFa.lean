/- Add and Sub. -/
import Derived.Test.YtoaboflepfmkpaaGreatDoorFo
import Derived.WalkKit
import Derived.WalkSpells
import Derived.WalkLawsBesides
import Derived.WalkSmall
import Derived.Handy
import Derived.BigQuiet
import Derived.Deep.QuietTactic
import Derived.Deep.RegionHeld3
import Derived.Deep.DeepFit
import Derived.Below
import Derived.Lib.Hide
import Derived.Lib.QuietBelow
namespace Go.Proofs.YtoaboflepfmkpaaGreatDoor
open Go Go.RowKit Go.Sort
set_option maxRecDepth 100000
set_option linter.unusedVariables false
set_option maxHeartbeats 2000000 in
theorem fadd_same {A B C D : Nat} (x : Bool) (va vb vc vd : Value) (w : World) (hA : Num w va A) (hB : Num w vb B) (hC : Num w vc C) (hD : Num w vd D) (hB0 : 0 < B) (hD0 : 0 < D) (hx : x = true → 0 < A) (hy : x = true → 0 < C) (lA : (nd A).length ≤ 64) (lB : (nd B).length ≤ 64) (lC : (nd C).length ≤ 64) (lD : (nd D).length ≤ 64) :
    Calls Tryz.prog 12 #[.agg #[.bool x, va, vb], .agg #[.bool x, vc, vd]] w (FRes w (rat x (A * D + C * B) (B * D))) := by
  obtain ⟨y, hxy⟩ : ∃ y, y = x := ⟨_, rfl⟩
  rw [show Value.agg #[.bool x, vc, vd] = Value.agg #[.bool y, vc, vd] by rw [hxy]]
  rw [← hxy] at hy
  have d1 : (x == y) = true := by rw [hxy]; cases x <;> rfl
  clear hxy
  have HA := Lib.hid hA
  have HB := Lib.hid hB
  have HC := Lib.hid hC
  have HD := Lib.hid hD
  obtain ⟨aa, ca, rfl⟩ := num_slice hA
  obtain ⟨ab, cb, rfl⟩ := num_slice hB
  obtain ⟨ac, cc, rfl⟩ := num_slice hC
  obtain ⟨ad, cd, rfl⟩ := num_slice hD
  clear hA hB hC hD
  have hX0 := C3.new w (.bool x) (.slice aa (nd A).length ca) (.slice ab (nd B).length cb) 29 w.heap.size rfl
  have hX1 := hX0.gr (Gr.alloc (Gr.refl _) (.cells #[.bool y, .slice ac (nd C).length cc, .slice ad (nd D).length cd] 29))
  have hY1 := C3.new (w.alloc (.cells #[.bool x, .slice aa (nd A).length ca, .slice ab (nd B).length cb] 29)) (.bool y) (.slice ac (nd C).length cc) (.slice ad (nd D).length cd) 29 (w.heap.size + 1) (by simp)
  have hG1 : Gr w ((w.alloc (.cells #[.bool x, .slice aa (nd A).length ca, .slice ab (nd B).length cb] 29)).alloc (.cells #[.bool y, .slice ac (nd C).length cc, .slice ad (nd D).length cd] 29)) := (Gr.alloc (Gr.refl _) _).alloc _
  have HB0 := Lib.hid hB0
  have HD0 := Lib.hid hD0
  have HX := Lib.hid hx
  have HY := Lib.hid hy
  have HBD := Lib.hid (Nat.mul_pos hB0 hD0)
  have lp : (nd (A * D)).length ≤ 128 := by have := nd_mul' lA lD; omega
  have lq : (nd (C * B)).length ≤ 128 := by have := nd_mul' lC lB; omega
  have lr : (nd (B * D)).length ≤ 256 := by have := nd_mul' lB lD; omega
  clear hB0 hD0 hx hy
  have ls : (nd (A * D + C * B)).length ≤ 256 := by have := nd_add' lp lq; omega
  go_enter Tryz.func12, Tryz.ntmps12
  go_wp2_with fail
  clear hX0
  have hsz : ((w.alloc (.cells #[.bool x, .slice aa (nd A).length ca, .slice ab (nd B).length cb] 29)).alloc (.cells #[.bool y, .slice ac (nd C).length cc, .slice ad (nd D).length cd] 29)).heap.size = w.heap.size + 1 + 1 := by simp
  generalize (w.alloc (.cells #[.bool x, .slice aa (nd A).length ca, .slice ab (nd B).length cb] 29)).alloc (.cells #[.bool y, .slice ac (nd C).length cc, .slice ad (nd D).length cd] 29) = W1 at *
  have hR := C3.new W1 (.bool false) (.slice none 0 0) (.slice none 0 0) 29 (w.heap.size + 1 + 1) hsz.symm
  have hX := hX1.gr (Gr.alloc (Gr.refl _) (.cells #[.bool false, .slice none 0 0, .slice none 0 0] 29))
  have hY := hY1.gr (Gr.alloc (Gr.refl _) (.cells #[.bool false, .slice none 0 0, .slice none 0 0] 29))
  have hG := hG1.alloc (.cells #[.bool false, .slice none 0 0, .slice none 0 0] 29)
  clear hX1 hY1 hG1 hsz
  generalize W1.alloc (.cells #[.bool false, .slice none 0 0, .slice none 0 0] 29) = W0 at *
  obtain ⟨xc0, xc1, xc2, -, -, -, -, -⟩ := id hX
  obtain ⟨yc0, yc1, yc2, -, -, -, -, -⟩ := id hY
  refine (fvalid_yes x _ _ _ (HA.out.gr hG) (HB.out.gr hG) HB0.out HX.out lA lB).mono ?_
  rintro e w1 ⟨rfl, hg⟩
  replace hR := hR.gr hg
  replace hX := hX.gr hg
  replace hY := hY.gr hg
  replace hG := hG.step hg
  clear xc0 xc1 xc2 yc0 yc1 yc2 hg
  obtain ⟨xc0, xc1, xc2, -, -, -, -, -⟩ := id hX
  obtain ⟨yc0, yc1, yc2, -, -, -, -, -⟩ := id hY
  go_wp2_with fail
  refine (fvalid_yes y _ _ _ (HC.out.gr hG) (HD.out.gr hG) HD0.out HY.out lC lD).mono ?_
  rintro e w2 ⟨rfl, hg⟩
  replace hR := hR.gr hg
  replace hX := hX.gr hg
  replace hY := hY.gr hg
  replace hG := hG.step hg
  clear xc0 xc1 xc2 yc0 yc1 yc2 hg
  obtain ⟨xc0, xc1, xc2, -, -, -, -, -⟩ := id hX
  obtain ⟨yc0, yc1, yc2, -, -, -, -, -⟩ := id hY
  go_wp2_with fail
  refine (crossed_any x y _ _ _ _ _ (HA.out.gr hG) (HB.out.gr hG) (HC.out.gr hG) (HD.out.gr hG) lA lB lC lD).mono ?_
  rintro e w3 ⟨vl, vr, rfl, hl, hr, hg⟩
  replace hR := hR.gr hg
  replace hX := hX.gr hg
  replace hY := hY.gr hg
  replace hG := hG.step hg
  clear xc0 xc1 xc2 yc0 yc1 yc2 hg
  obtain ⟨xc0, xc1, xc2, -, -, -, -, -⟩ := id hX
  obtain ⟨yc0, yc1, yc2, -, -, -, -, -⟩ := id hY
  go_wp2_with fail
  refine (mul_128 _ _ _ (HB.out.gr hG) (HD.out.gr hG) lB lD).mono ?_
  rintro e w4 ⟨vm, rfl, hm, hg⟩
  replace hl := hl.gr hg
  replace hr := hr.gr hg
  replace hR := hR.gr hg
  replace hX := hX.gr hg
  replace hY := hY.gr hg
  replace hG := hG.step hg
  clear xc0 xc1 xc2 yc0 yc1 yc2 hg
  obtain ⟨xc0, xc1, xc2, -, -, -, -, -⟩ := id hX
  obtain ⟨yc0, yc1, yc2, -, -, -, -, -⟩ := id hY
  go_wp2_with fail
  refine (add_129 _ _ _ hl hr lp lq).mono ?_
  rintro e w5 ⟨vs, rfl, hs, hg⟩
  replace hm := hm.gr hg
  replace hR := hR.gr hg
  replace hX := hX.gr hg
  replace hY := hY.gr hg
  replace hG := hG.step hg
  clear xc0 xc1 xc2 yc0 yc1 yc2 hg
  obtain ⟨xc0, xc1, xc2, -, -, -, -, -⟩ := id hX
  obtain ⟨yc0, yc1, yc2, -, -, -, -, -⟩ := id hY
  go_wp2_with fail
  refine (lowest_any x _ _ _ hs hm HBD.out ls lr).mono ?_
  intro e w6 hres
  obtain ⟨b, a1, a2, n1, n2, c1, c2, er, rfl, hres, hg⟩ := hres.form
  have HRES := Lib.hid hres
  replace hR := hR.gr hg
  replace hG := hG.step hg
  have hfl := hR.fill b a1 a2 n1 n2 c1 c2
  obtain ⟨sc0, sc1, sc2, -, -, -, -, -⟩ := hfl.1
  obtain ⟨rc0, rc1, rc2, rf0, rf1, rf2, rlt, -⟩ := id hR
  clear hres hg
  go_wp2_with fail
  refine bodyPost_ret (v := .tuple #[.agg #[.bool b, .slice a1 n1 c1, .slice a2 n2 c2], .int .i64 er]) (by simp [results, Tryz.results12, go_sem, sc0, sc1, sc2]) rfl ?_
  exact ⟨_, er, rfl, HRES.out.imp (fun h => ⟨h.1, h.2.1, hR.red b a1 a2 n1 n2 c1 c2 h.2.2⟩) id, C3.three hG (by omega) _ _ _⟩
set_option maxHeartbeats 2000000 in
theorem fadd_diff {A B C D : Nat} (x : Bool) (va vb vc vd : Value) (w : World) (hA : Num w va A) (hB : Num w vb B) (hC : Num w vc C) (hD : Num w vd D) (hB0 : 0 < B) (hD0 : 0 < D) (hx : x = true → 0 < A) (hy : (!x) = true → 0 < C) (lA : (nd A).length ≤ 64) (lB : (nd B).length ≤ 64) (lC : (nd C).length ≤ 64) (lD : (nd D).length ≤ 64) :
    Calls Tryz.prog 12 #[.agg #[.bool x, va, vb], .agg #[.bool (!x), vc, vd]] w (FRes w (mkRat (sgn x A * D + sgn (!x) C * B) (B * D))) := by
  by_cases hc : C * B ≤ A * D
  · rw [rat_diff_ge hc]
    obtain ⟨y, hxy⟩ : ∃ y, y = !x := ⟨_, rfl⟩
    rw [show Value.agg #[.bool (!x), vc, vd] = Value.agg #[.bool y, vc, vd] by rw [hxy]]
    rw [← hxy] at hy
    have d1 : (x == y) = false := by rw [hxy]; cases x <;> rfl
    have HC1 : Hid (0 ≤ ncmp (A * D) (C * B)) := Lib.hid (by rcases Nat.eq_or_lt_of_le hc with h | h; rw [h, ncmp_eq]; omega; rw [ncmp_gt h]; omega)
    have HLE := Lib.hid hc
    clear hxy hc
    have HA := Lib.hid hA
    have HB := Lib.hid hB
    have HC := Lib.hid hC
    have HD := Lib.hid hD
    obtain ⟨aa, ca, rfl⟩ := num_slice hA
    obtain ⟨ab, cb, rfl⟩ := num_slice hB
    obtain ⟨ac, cc, rfl⟩ := num_slice hC
    obtain ⟨ad, cd, rfl⟩ := num_slice hD
    clear hA hB hC hD
    have hX0 := C3.new w (.bool x) (.slice aa (nd A).length ca) (.slice ab (nd B).length cb) 29 w.heap.size rfl
    have hX1 := hX0.gr (Gr.alloc (Gr.refl _) (.cells #[.bool y, .slice ac (nd C).length cc, .slice ad (nd D).length cd] 29))
    have hY1 := C3.new (w.alloc (.cells #[.bool x, .slice aa (nd A).length ca, .slice ab (nd B).length cb] 29)) (.bool y) (.slice ac (nd C).length cc) (.slice ad (nd D).length cd) 29 (w.heap.size + 1) (by simp)
    have hG1 : Gr w ((w.alloc (.cells #[.bool x, .slice aa (nd A).length ca, .slice ab (nd B).length cb] 29)).alloc (.cells #[.bool y, .slice ac (nd C).length cc, .slice ad (nd D).length cd] 29)) := (Gr.alloc (Gr.refl _) _).alloc _
    have HB0 := Lib.hid hB0
    have HD0 := Lib.hid hD0
    have HX := Lib.hid hx
    have HY := Lib.hid hy
    have HBD := Lib.hid (Nat.mul_pos hB0 hD0)
    have lp : (nd (A * D)).length ≤ 128 := by have := nd_mul' lA lD; omega
    have lq : (nd (C * B)).length ≤ 128 := by have := nd_mul' lC lB; omega
    have lr : (nd (B * D)).length ≤ 256 := by have := nd_mul' lB lD; omega
    clear hB0 hD0 hx hy
    have ls : (nd (A * D - C * B)).length ≤ 256 := by have := nd_le_len' lp (Nat.sub_le (A * D) (C * B)); omega
    go_enter Tryz.func12, Tryz.ntmps12
    go_wp2_with fail
    clear hX0
    have hsz : ((w.alloc (.cells #[.bool x, .slice aa (nd A).length ca, .slice ab (nd B).length cb] 29)).alloc (.cells #[.bool y, .slice ac (nd C).length cc, .slice ad (nd D).length cd] 29)).heap.size = w.heap.size + 1 + 1 := by simp
    generalize (w.alloc (.cells #[.bool x, .slice aa (nd A).length ca, .slice ab (nd B).length cb] 29)).alloc (.cells #[.bool y, .slice ac (nd C).length cc, .slice ad (nd D).length cd] 29) = W1 at *
    have hR := C3.new W1 (.bool false) (.slice none 0 0) (.slice none 0 0) 29 (w.heap.size + 1 + 1) hsz.symm
    have hX := hX1.gr (Gr.alloc (Gr.refl _) (.cells #[.bool false, .slice none 0 0, .slice none 0 0] 29))
    have hY := hY1.gr (Gr.alloc (Gr.refl _) (.cells #[.bool false, .slice none 0 0, .slice none 0 0] 29))
    have hG := hG1.alloc (.cells #[.bool false, .slice none 0 0, .slice none 0 0] 29)
    clear hX1 hY1 hG1 hsz
    generalize W1.alloc (.cells #[.bool false, .slice none 0 0, .slice none 0 0] 29) = W0 at *
    obtain ⟨xc0, xc1, xc2, -, -, -, -, -⟩ := id hX
    obtain ⟨yc0, yc1, yc2, -, -, -, -, -⟩ := id hY
    refine (fvalid_yes x _ _ _ (HA.out.gr hG) (HB.out.gr hG) HB0.out HX.out lA lB).mono ?_
    rintro e w1 ⟨rfl, hg⟩
    replace hR := hR.gr hg
    replace hX := hX.gr hg
    replace hY := hY.gr hg
    replace hG := hG.step hg
    clear xc0 xc1 xc2 yc0 yc1 yc2 hg
    obtain ⟨xc0, xc1, xc2, -, -, -, -, -⟩ := id hX
    obtain ⟨yc0, yc1, yc2, -, -, -, -, -⟩ := id hY
    go_wp2_with fail
    refine (fvalid_yes y _ _ _ (HC.out.gr hG) (HD.out.gr hG) HD0.out HY.out lC lD).mono ?_
    rintro e w2 ⟨rfl, hg⟩
    replace hR := hR.gr hg
    replace hX := hX.gr hg
    replace hY := hY.gr hg
    replace hG := hG.step hg
    clear xc0 xc1 xc2 yc0 yc1 yc2 hg
    obtain ⟨xc0, xc1, xc2, -, -, -, -, -⟩ := id hX
    obtain ⟨yc0, yc1, yc2, -, -, -, -, -⟩ := id hY
    go_wp2_with fail
    refine (crossed_any x y _ _ _ _ _ (HA.out.gr hG) (HB.out.gr hG) (HC.out.gr hG) (HD.out.gr hG) lA lB lC lD).mono ?_
    rintro e w3 ⟨vl, vr, rfl, hl, hr, hg⟩
    replace hR := hR.gr hg
    replace hX := hX.gr hg
    replace hY := hY.gr hg
    replace hG := hG.step hg
    clear xc0 xc1 xc2 yc0 yc1 yc2 hg
    obtain ⟨xc0, xc1, xc2, -, -, -, -, -⟩ := id hX
    obtain ⟨yc0, yc1, yc2, -, -, -, -, -⟩ := id hY
    go_wp2_with fail
    refine (mul_128 _ _ _ (HB.out.gr hG) (HD.out.gr hG) lB lD).mono ?_
    rintro e w4 ⟨vm, rfl, hm, hg⟩
    replace hl := hl.gr hg
    replace hr := hr.gr hg
    replace hR := hR.gr hg
    replace hX := hX.gr hg
    replace hY := hY.gr hg
    replace hG := hG.step hg
    clear xc0 xc1 xc2 yc0 yc1 yc2 hg
    obtain ⟨xc0, xc1, xc2, -, -, -, -, -⟩ := id hX
    obtain ⟨yc0, yc1, yc2, -, -, -, -, -⟩ := id hY
    go_wp2_with fail
    refine (cmp_any _ _ _ hl hr (by omega)).mono ?_
    rintro e w5 ⟨rfl, hg⟩
    have d2 : decide (ncmp (A * D) (C * B) < 0) = false := by have := HC1.out; simpa using this
    replace hl := hl.gr hg
    replace hr := hr.gr hg
    replace hm := hm.gr hg
    replace hR := hR.gr hg
    replace hX := hX.gr hg
    replace hY := hY.gr hg
    replace hG := hG.step hg
    clear xc0 xc1 xc2 yc0 yc1 yc2 hg
    obtain ⟨xc0, xc1, xc2, -, -, -, -, -⟩ := id hX
    obtain ⟨yc0, yc1, yc2, -, -, -, -, -⟩ := id hY
    go_wp2_with fail
    refine (sub_128 _ _ _ hl hr HLE.out lp lq).mono ?_
    rintro e w5 ⟨vs, rfl, hs, hg⟩
    replace hm := hm.gr hg
    replace hR := hR.gr hg
    replace hX := hX.gr hg
    replace hY := hY.gr hg
    replace hG := hG.step hg
    clear xc0 xc1 xc2 yc0 yc1 yc2 hg
    obtain ⟨xc0, xc1, xc2, -, -, -, -, -⟩ := id hX
    obtain ⟨yc0, yc1, yc2, -, -, -, -, -⟩ := id hY
    go_wp2_with fail
    refine (lowest_any x _ _ _ hs hm HBD.out ls lr).mono ?_
    intro e w6 hres
    obtain ⟨b, a1, a2, n1, n2, c1, c2, er, rfl, hres, hg⟩ := hres.form
    have HRES := Lib.hid hres
    replace hR := hR.gr hg
    replace hG := hG.step hg
    have hfl := hR.fill b a1 a2 n1 n2 c1 c2
    obtain ⟨sc0, sc1, sc2, -, -, -, -, -⟩ := hfl.1
    obtain ⟨rc0, rc1, rc2, rf0, rf1, rf2, rlt, -⟩ := id hR
    clear hres hg
    go_wp2_with fail
    refine bodyPost_ret (v := .tuple #[.agg #[.bool b, .slice a1 n1 c1, .slice a2 n2 c2], .int .i64 er]) (by simp [results, Tryz.results12, go_sem, sc0, sc1, sc2]) rfl ?_
    exact ⟨_, er, rfl, HRES.out.imp (fun h => ⟨h.1, h.2.1, hR.red b a1 a2 n1 n2 c1 c2 h.2.2⟩) id, C3.three hG (by omega) _ _ _⟩
  · have hlt : A * D < C * B := by omega
    rw [rat_diff_lt (Nat.le_of_lt hlt)]
    obtain ⟨y, hxy⟩ : ∃ y, y = !x := ⟨_, rfl⟩
    rw [show Value.agg #[.bool (!x), vc, vd] = Value.agg #[.bool y, vc, vd] by rw [hxy]]
    rw [← hxy] at hy ⊢
    have d1 : (x == y) = false := by rw [hxy]; cases x <;> rfl
    have HC1 : Hid (ncmp (A * D) (C * B) = -1) := Lib.hid (ncmp_lt hlt)
    have HLE := Lib.hid (Nat.le_of_lt hlt)
    clear hxy hc hlt
    have HA := Lib.hid hA
    have HB := Lib.hid hB
    have HC := Lib.hid hC
    have HD := Lib.hid hD
    obtain ⟨aa, ca, rfl⟩ := num_slice hA
    obtain ⟨ab, cb, rfl⟩ := num_slice hB
    obtain ⟨ac, cc, rfl⟩ := num_slice hC
    obtain ⟨ad, cd, rfl⟩ := num_slice hD
    clear hA hB hC hD
    have hX0 := C3.new w (.bool x) (.slice aa (nd A).length ca) (.slice ab (nd B).length cb) 29 w.heap.size rfl
    have hX1 := hX0.gr (Gr.alloc (Gr.refl _) (.cells #[.bool y, .slice ac (nd C).length cc, .slice ad (nd D).length cd] 29))
    have hY1 := C3.new (w.alloc (.cells #[.bool x, .slice aa (nd A).length ca, .slice ab (nd B).length cb] 29)) (.bool y) (.slice ac (nd C).length cc) (.slice ad (nd D).length cd) 29 (w.heap.size + 1) (by simp)
    have hG1 : Gr w ((w.alloc (.cells #[.bool x, .slice aa (nd A).length ca, .slice ab (nd B).length cb] 29)).alloc (.cells #[.bool y, .slice ac (nd C).length cc, .slice ad (nd D).length cd] 29)) := (Gr.alloc (Gr.refl _) _).alloc _
    have HB0 := Lib.hid hB0
    have HD0 := Lib.hid hD0
    have HX := Lib.hid hx
    have HY := Lib.hid hy
    have HBD := Lib.hid (Nat.mul_pos hB0 hD0)
    have lp : (nd (A * D)).length ≤ 128 := by have := nd_mul' lA lD; omega
    have lq : (nd (C * B)).length ≤ 128 := by have := nd_mul' lC lB; omega
    have lr : (nd (B * D)).length ≤ 256 := by have := nd_mul' lB lD; omega
    clear hB0 hD0 hx hy
    have ls : (nd (C * B - A * D)).length ≤ 256 := by have := nd_le_len' lq (Nat.sub_le (C * B) (A * D)); omega
    go_enter Tryz.func12, Tryz.ntmps12
    go_wp2_with fail
    clear hX0
    have hsz : ((w.alloc (.cells #[.bool x, .slice aa (nd A).length ca, .slice ab (nd B).length cb] 29)).alloc (.cells #[.bool y, .slice ac (nd C).length cc, .slice ad (nd D).length cd] 29)).heap.size = w.heap.size + 1 + 1 := by simp
    generalize (w.alloc (.cells #[.bool x, .slice aa (nd A).length ca, .slice ab (nd B).length cb] 29)).alloc (.cells #[.bool y, .slice ac (nd C).length cc, .slice ad (nd D).length cd] 29) = W1 at *
    have hR := C3.new W1 (.bool false) (.slice none 0 0) (.slice none 0 0) 29 (w.heap.size + 1 + 1) hsz.symm
    have hX := hX1.gr (Gr.alloc (Gr.refl _) (.cells #[.bool false, .slice none 0 0, .slice none 0 0] 29))
    have hY := hY1.gr (Gr.alloc (Gr.refl _) (.cells #[.bool false, .slice none 0 0, .slice none 0 0] 29))
    have hG := hG1.alloc (.cells #[.bool false, .slice none 0 0, .slice none 0 0] 29)
    clear hX1 hY1 hG1 hsz
    generalize W1.alloc (.cells #[.bool false, .slice none 0 0, .slice none 0 0] 29) = W0 at *
    obtain ⟨xc0, xc1, xc2, -, -, -, -, -⟩ := id hX
    obtain ⟨yc0, yc1, yc2, -, -, -, -, -⟩ := id hY
    refine (fvalid_yes x _ _ _ (HA.out.gr hG) (HB.out.gr hG) HB0.out HX.out lA lB).mono ?_
    rintro e w1 ⟨rfl, hg⟩
    replace hR := hR.gr hg
    replace hX := hX.gr hg
    replace hY := hY.gr hg
    replace hG := hG.step hg
    clear xc0 xc1 xc2 yc0 yc1 yc2 hg
    obtain ⟨xc0, xc1, xc2, -, -, -, -, -⟩ := id hX
    obtain ⟨yc0, yc1, yc2, -, -, -, -, -⟩ := id hY
    go_wp2_with fail
    refine (fvalid_yes y _ _ _ (HC.out.gr hG) (HD.out.gr hG) HD0.out HY.out lC lD).mono ?_
    rintro e w2 ⟨rfl, hg⟩
    replace hR := hR.gr hg
    replace hX := hX.gr hg
    replace hY := hY.gr hg
    replace hG := hG.step hg
    clear xc0 xc1 xc2 yc0 yc1 yc2 hg
    obtain ⟨xc0, xc1, xc2, -, -, -, -, -⟩ := id hX
    obtain ⟨yc0, yc1, yc2, -, -, -, -, -⟩ := id hY
    go_wp2_with fail
    refine (crossed_any x y _ _ _ _ _ (HA.out.gr hG) (HB.out.gr hG) (HC.out.gr hG) (HD.out.gr hG) lA lB lC lD).mono ?_
    rintro e w3 ⟨vl, vr, rfl, hl, hr, hg⟩
    replace hR := hR.gr hg
    replace hX := hX.gr hg
    replace hY := hY.gr hg
    replace hG := hG.step hg
    clear xc0 xc1 xc2 yc0 yc1 yc2 hg
    obtain ⟨xc0, xc1, xc2, -, -, -, -, -⟩ := id hX
    obtain ⟨yc0, yc1, yc2, -, -, -, -, -⟩ := id hY
    go_wp2_with fail
    refine (mul_128 _ _ _ (HB.out.gr hG) (HD.out.gr hG) lB lD).mono ?_
    rintro e w4 ⟨vm, rfl, hm, hg⟩
    replace hl := hl.gr hg
    replace hr := hr.gr hg
    replace hR := hR.gr hg
    replace hX := hX.gr hg
    replace hY := hY.gr hg
    replace hG := hG.step hg
    clear xc0 xc1 xc2 yc0 yc1 yc2 hg
    obtain ⟨xc0, xc1, xc2, -, -, -, -, -⟩ := id hX
    obtain ⟨yc0, yc1, yc2, -, -, -, -, -⟩ := id hY
    go_wp2_with fail
    refine (cmp_any _ _ _ hl hr (by omega)).mono ?_
    rintro e w5 ⟨rfl, hg⟩
    rw [HC1.out]
    replace hl := hl.gr hg
    replace hr := hr.gr hg
    replace hm := hm.gr hg
    replace hR := hR.gr hg
    replace hX := hX.gr hg
    replace hY := hY.gr hg
    replace hG := hG.step hg
    clear xc0 xc1 xc2 yc0 yc1 yc2 hg
    obtain ⟨xc0, xc1, xc2, -, -, -, -, -⟩ := id hX
    obtain ⟨yc0, yc1, yc2, -, -, -, -, -⟩ := id hY
    go_wp2_with fail
    go_quiet (fail)
    have hg : Gr w5 (w5.drewN nq) := Gr.drewN (Gr.refl _) nq
    generalize w5.drewN nq = w7 at *
    replace hl := hl.gr hg
    replace hr := hr.gr hg
    replace hm := hm.gr hg
    replace hR := hR.gr hg
    replace hX := hX.gr hg
    replace hY := hY.gr hg
    replace hG := hG.step hg
    clear xc0 xc1 xc2 yc0 yc1 yc2 hg
    obtain ⟨xc0, xc1, xc2, -, -, -, -, -⟩ := id hX
    obtain ⟨yc0, yc1, yc2, -, -, -, -, -⟩ := id hY
    go_wp2_with fail
    refine (sub_128 _ _ _ hr hl HLE.out lq lp).mono ?_
    rintro e w8 ⟨vs, rfl, hs, hg⟩
    replace hm := hm.gr hg
    replace hR := hR.gr hg
    replace hX := hX.gr hg
    replace hY := hY.gr hg
    replace hG := hG.step hg
    clear xc0 xc1 xc2 yc0 yc1 yc2 hg
    obtain ⟨xc0, xc1, xc2, -, -, -, -, -⟩ := id hX
    obtain ⟨yc0, yc1, yc2, -, -, -, -, -⟩ := id hY
    go_wp2_with fail
    refine (lowest_any y _ _ _ hs hm HBD.out ls lr).mono ?_
    intro e w6 hres
    obtain ⟨b, a1, a2, n1, n2, c1, c2, er, rfl, hres, hg⟩ := hres.form
    have HRES := Lib.hid hres
    replace hR := hR.gr hg
    replace hG := hG.step hg
    have hfl := hR.fill b a1 a2 n1 n2 c1 c2
    obtain ⟨sc0, sc1, sc2, -, -, -, -, -⟩ := hfl.1
    obtain ⟨rc0, rc1, rc2, rf0, rf1, rf2, rlt, -⟩ := id hR
    clear hres hg
    go_wp2_with fail
    refine bodyPost_ret (v := .tuple #[.agg #[.bool b, .slice a1 n1 c1, .slice a2 n2 c2], .int .i64 er]) (by simp [results, Tryz.results12, go_sem, sc0, sc1, sc2]) rfl ?_
    exact ⟨_, er, rfl, HRES.out.imp (fun h => ⟨h.1, h.2.1, hR.red b a1 a2 n1 n2 c1 c2 h.2.2⟩) id, C3.three hG (by omega) _ _ _⟩
theorem fadd_any {a b : Rat} (v u : Value) (w : World) (ha : Fra w v a) (hb : Fra w u b) :
    Calls Tryz.prog 12 #[v, u] w (FRes w (a + b)) := by
  obtain ⟨x, va, vb, A, B, rfl, hA, hB, hB0, hx, lA, lB, rfl⟩ := ha
  obtain ⟨y, vc, vd, C, D, rfl, hC, hD, hD0, hy, lC, lD, rfl⟩ := hb
  rw [rat_add hB0 hD0]
  by_cases h : y = x
  · subst h
    rw [rat_same]
    exact fadd_same _ _ _ _ _ w hA hB hC hD hB0 hD0 hx hy lA lB lC lD
  · obtain rfl : y = !x := by cases x <;> cases y <;> simp_all
    exact fadd_diff _ _ _ _ _ w hA hB hC hD hB0 hD0 hx hy lA lB lC lD
end Go.Proofs.YtoaboflepfmkpaaGreatDoor
