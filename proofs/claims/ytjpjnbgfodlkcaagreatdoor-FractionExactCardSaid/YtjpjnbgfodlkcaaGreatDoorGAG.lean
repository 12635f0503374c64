/- Several texts in one. -/
import Derived.Test.YtjpjnbgfodlkcaaGreatDoorGAF
import Derived.Test.YtjpjnbgfodlkcaaGreatDoorGAD
import Derived.WalkKit
import Derived.WalkSpells
import Derived.WalkLawsBesides
import Derived.WalkSmall
import Derived.Handy
import Derived.BigQuiet
import Derived.Deep.QuietTactic
import Derived.Deep.RegionHeld3
import Derived.Deep.DeepFit
import Derived.Below
import Derived.Lib.Hide
import Derived.Lib.QuietBelow
import Derived.Test.YtjpjnbgfodlkcaaGreatDoorGAC
import Derived.Deep.DeepCutAuto
/- crossed, Add, Sub, Mul, Div. -/
namespace Go.Proofs.YtjpjnbgfodlkcaaGreatDoor
open Go Go.RowKit Go.Sort
set_option maxRecDepth 100000
set_option linter.unusedVariables false
theorem mul_128 {A B : Nat} (va vb : Value) (w : World) (hA : Num w va A) (hB : Num w vb B) (lA : (nd A).length ≤ 64) (lB : (nd B).length ≤ 64) :
    Calls Tryz.prog 37 #[va, vb] w fun e w' => ∃ v, e = .returned (.tuple #[v, .int .i64 0]) ∧ Num w' v (A * B) ∧ Gr w w' :=
  (mul_any va vb w hA hB (by omega) (by omega)).mono fun e w' h => by
    obtain ⟨v, er, rfl, ⟨-, rfl, hn⟩ | ⟨hf, -⟩, hg⟩ := h
    · exact ⟨v, rfl, hn, hg⟩
    · have := nd_mul' lA lB; omega
theorem add_129 {A B : Nat} (va vb : Value) (w : World) (hA : Num w va A) (hB : Num w vb B) (lA : (nd A).length ≤ 128) (lB : (nd B).length ≤ 128) :
    Calls Tryz.prog 38 #[va, vb] w fun e w' => ∃ v, e = .returned (.tuple #[v, .int .i64 0]) ∧ Num w' v (A + B) ∧ Gr w w' :=
  (add_any va vb w hA hB (by omega) (by omega)).mono fun e w' h => by
    obtain ⟨v, er, rfl, ⟨-, rfl, hn⟩ | ⟨hf, -⟩, hg⟩ := h
    · exact ⟨v, rfl, hn, hg⟩
    · have := nd_add' lA lB; omega
theorem sub_128 {A B : Nat} (va vb : Value) (w : World) (hA : Num w va A) (hB : Num w vb B) (hBA : B ≤ A) (lA : (nd A).length ≤ 128) (lB : (nd B).length ≤ 128) :
    Calls Tryz.prog 41 #[va, vb] w fun e w' => ∃ v, e = .returned (.tuple #[v, .int .i64 0]) ∧ Num w' v (A - B) ∧ Gr w w' :=
  (sub_any va vb w hA hB (by omega) (by omega)).mono fun e w' h => by
    obtain ⟨v, er, rfl, ⟨-, rfl, hn⟩ | ⟨hf, -⟩, hg⟩ := h
    · exact ⟨v, rfl, hn, hg⟩
    · omega
theorem FRes.form {w w' : World} {r : Rat} {e : Ending} (h : FRes w r e w') : ∃ (b : Bool) (a1 a2 : Option Addr) (n1 n2 c1 c2 : Nat) (er : Int), e = .returned (.tuple #[.agg #[.bool b, .slice a1 n1 c1, .slice a2 n2 c2], .int .i64 er]) ∧
    ((Bd 64 r ∧ er = 0 ∧ Red w' (.agg #[.bool b, .slice a1 n1 c1, .slice a2 n2 c2]) r) ∨ (¬ Bd 64 r ∧ er = 5 ∧ Value.agg #[.bool b, .slice a1 n1 c1, .slice a2 n2 c2] = fzero)) ∧ Gr w w' := by
  obtain ⟨v, er, rfl, ⟨h1, h2, vn, vd, rfl, h3, h4⟩ | ⟨h1, h2, rfl⟩, hg⟩ := h
  · obtain ⟨a1, c1, rfl⟩ := num_slice h3
    obtain ⟨a2, c2, rfl⟩ := num_slice h4
    exact ⟨_, a1, a2, _, _, c1, c2, er, rfl, .inl ⟨h1, h2, _, _, rfl, h3, h4⟩, hg⟩
  · exact ⟨false, none, none, 0, 0, 0, 0, er, rfl, .inr ⟨h1, h2, rfl⟩, hg⟩
theorem C3.red {w : World} {q : Nat} {b : Bool} {a1 a2 : Option Addr} {n1 n2 k1 k2 : Nat} (c : C3 w q (.bool b) (.slice a1 n1 k1) (.slice a2 n2 k2)) (b' : Bool) (p1 p2 : Option Addr) (m1 m2 j1 j2 : Nat) {v : Value} {r : Rat} (h : Red w v r) :
    Red (((w.setCell ⟨q, 0, none⟩ (.bool b')).setCell ⟨q, 1, none⟩ (.slice p1 m1 j1)).setCell ⟨q, 2, none⟩ (.slice p2 m2 j2)) v r := by
  obtain ⟨vn, vd, e, h1, h2⟩ := h
  exact ⟨vn, vd, e, (c.fill b' p1 p2 m1 m2 j1 j2).2 h1, (c.fill b' p1 p2 m1 m2 j1 j2).2 h2⟩
theorem C3.three {w W : World} {q : Nat} (g : Gr w W) (hq : w.heap.size ≤ q) (x y z : Value) : Gr w (((W.setCell ⟨q, 0, none⟩ x).setCell ⟨q, 1, none⟩ y).setCell ⟨q, 2, none⟩ z) :=
  ((g.setCell (p := ⟨q, 0, none⟩) hq _).setCell (p := ⟨q, 1, none⟩) hq _).setCell (p := ⟨q, 2, none⟩) hq _
theorem bne_bool (x y : Bool) : (x != y) = (!x == y) := by cases x <;> cases y <;> rfl
set_option maxHeartbeats 1000000 in
theorem crossed_any {A B C D : Nat} (x y : Bool) (va vb vc vd : Value) (w : World) (hA : Num w va A) (hB : Num w vb B) (hC : Num w vc C) (hD : Num w vd D) (lA : (nd A).length ≤ 64) (lB : (nd B).length ≤ 64) (lC : (nd C).length ≤ 64) (lD : (nd D).length ≤ 64) :
    Calls Tryz.prog 36 #[.agg #[.bool x, va, vb], .agg #[.bool y, vc, vd]] w fun e w' => ∃ vl vr, e = .returned (.tuple #[vl, vr]) ∧ Num w' vl (A * D) ∧ Num w' vr (C * B) ∧ Gr w w' := by
  have HA := Lib.hid hA
  have HB := Lib.hid hB
  have HC := Lib.hid hC
  have HD := Lib.hid hD
  obtain ⟨aa, ca, rfl⟩ := num_slice hA
  obtain ⟨ab, cb, rfl⟩ := num_slice hB
  obtain ⟨ac, cc, rfl⟩ := num_slice hC
  obtain ⟨ad, cd, rfl⟩ := num_slice hD
  clear hA hB hC hD
  have hX0 := C3.new w (.bool x) (.slice aa (nd A).length ca) (.slice ab (nd B).length cb) 26 w.heap.size rfl
  have hX1 := hX0.gr (Gr.alloc (Gr.refl _) (.cells #[.bool y, .slice ac (nd C).length cc, .slice ad (nd D).length cd] 26))
  have hY1 := C3.new (w.alloc (.cells #[.bool x, .slice aa (nd A).length ca, .slice ab (nd B).length cb] 26)) (.bool y) (.slice ac (nd C).length cc) (.slice ad (nd D).length cd) 26 (w.heap.size + 1) (by simp)
  have hG1 : Gr w ((w.alloc (.cells #[.bool x, .slice aa (nd A).length ca, .slice ab (nd B).length cb] 26)).alloc (.cells #[.bool y, .slice ac (nd C).length cc, .slice ad (nd D).length cd] 26)) := (Gr.alloc (Gr.refl _) _).alloc _
  go_enter Tryz.func36, Tryz.ntmps36
  go_wp2_with fail
  clear hX0
  generalize (w.alloc (.cells #[.bool x, .slice aa (nd A).length ca, .slice ab (nd B).length cb] 26)).alloc (.cells #[.bool y, .slice ac (nd C).length cc, .slice ad (nd D).length cd] 26) = W0 at *
  have hX := hX1
  have hY := hY1
  have hG := hG1
  clear hX1 hY1 hG1
  obtain ⟨xc0, xc1, xc2, -, -, -, -, -⟩ := id hX
  obtain ⟨yc0, yc1, yc2, -, -, -, -, -⟩ := id hY
  refine (mul_128 _ _ _ (HA.out.gr hG) (HD.out.gr hG) lA lD).mono ?_
  rintro e w1 ⟨vl, rfl, hl, hg⟩
  replace hX := hX.gr hg
  replace hY := hY.gr hg
  replace hG := hG.step hg
  clear xc0 xc1 xc2 yc0 yc1 yc2 hg
  obtain ⟨xc0, xc1, xc2, -, -, -, -, -⟩ := id hX
  obtain ⟨yc0, yc1, yc2, -, -, -, -, -⟩ := id hY
  go_wp2_with fail
  refine (mul_128 _ _ _ (HC.out.gr hG) (HB.out.gr hG) lC lB).mono ?_
  rintro e w2 ⟨vr, rfl, hr, hg⟩
  replace hl := hl.gr hg
  replace hX := hX.gr hg
  replace hY := hY.gr hg
  replace hG := hG.step hg
  clear xc0 xc1 xc2 yc0 yc1 yc2 hg
  obtain ⟨xc0, xc1, xc2, -, -, -, -, -⟩ := id hX
  obtain ⟨yc0, yc1, yc2, -, -, -, -, -⟩ := id hY
  go_wp2_with fail
  go_ret2
  exact ⟨_, _, rfl, hl, hr, hG⟩
set_option maxHeartbeats 2000000 in
theorem fmul_any {a b : Rat} (v u : Value) (w : World) (ha : Fra w v a) (hb : Fra w u b) :
    Calls Tryz.prog 12 #[v, u] w (FRes w (a * b)) := by
  obtain ⟨x, va, vb, A, B, rfl, hA, hB, hB0, hx, lA, lB, rfl⟩ := ha
  obtain ⟨y, vc, vd, C, D, rfl, hC, hD, hD0, hy, lC, lD, rfl⟩ := hb
  rw [rat_mul]
  have HA := Lib.hid hA
  have HB := Lib.hid hB
  have HC := Lib.hid hC
  have HD := Lib.hid hD
  obtain ⟨aa, ca, rfl⟩ := num_slice hA
  obtain ⟨ab, cb, rfl⟩ := num_slice hB
  obtain ⟨ac, cc, rfl⟩ := num_slice hC
  obtain ⟨ad, cd, rfl⟩ := num_slice hD
  clear hA hB hC hD
  have hX0 := C3.new w (.bool x) (.slice aa (nd A).length ca) (.slice ab (nd B).length cb) 26 w.heap.size rfl
  have hX1 := hX0.gr (Gr.alloc (Gr.refl _) (.cells #[.bool y, .slice ac (nd C).length cc, .slice ad (nd D).length cd] 26))
  have hY1 := C3.new (w.alloc (.cells #[.bool x, .slice aa (nd A).length ca, .slice ab (nd B).length cb] 26)) (.bool y) (.slice ac (nd C).length cc) (.slice ad (nd D).length cd) 26 (w.heap.size + 1) (by simp)
  have hG1 : Gr w ((w.alloc (.cells #[.bool x, .slice aa (nd A).length ca, .slice ab (nd B).length cb] 26)).alloc (.cells #[.bool y, .slice ac (nd C).length cc, .slice ad (nd D).length cd] 26)) := (Gr.alloc (Gr.refl _) _).alloc _
  have HB0 := Lib.hid hB0
  have HD0 := Lib.hid hD0
  have HX := Lib.hid hx
  have HY := Lib.hid hy
  have HBD := Lib.hid (Nat.mul_pos hB0 hD0)
  have l1 : (nd (A * C)).length ≤ 256 := by have := nd_mul' lA lC; omega
  have l2 : (nd (B * D)).length ≤ 256 := by have := nd_mul' lB lD; omega
  clear hB0 hD0 hx hy
  rw [bne_bool]
  go_enter Tryz.func12, Tryz.ntmps12
  go_wp2_with fail
  clear hX0
  have hsz : ((w.alloc (.cells #[.bool x, .slice aa (nd A).length ca, .slice ab (nd B).length cb] 26)).alloc (.cells #[.bool y, .slice ac (nd C).length cc, .slice ad (nd D).length cd] 26)).heap.size = w.heap.size + 1 + 1 := by simp
  generalize (w.alloc (.cells #[.bool x, .slice aa (nd A).length ca, .slice ab (nd B).length cb] 26)).alloc (.cells #[.bool y, .slice ac (nd C).length cc, .slice ad (nd D).length cd] 26) = W1 at *
  have hR := C3.new W1 (.bool false) (.slice none 0 0) (.slice none 0 0) 26 (w.heap.size + 1 + 1) hsz.symm
  have hX := hX1.gr (Gr.alloc (Gr.refl _) (.cells #[.bool false, .slice none 0 0, .slice none 0 0] 26))
  have hY := hY1.gr (Gr.alloc (Gr.refl _) (.cells #[.bool false, .slice none 0 0, .slice none 0 0] 26))
  have hG := hG1.alloc (.cells #[.bool false, .slice none 0 0, .slice none 0 0] 26)
  clear hX1 hY1 hG1 hsz
  generalize W1.alloc (.cells #[.bool false, .slice none 0 0, .slice none 0 0] 26) = W0 at *
  obtain ⟨xc0, xc1, xc2, -, -, -, -, -⟩ := id hX
  obtain ⟨yc0, yc1, yc2, -, -, -, -, -⟩ := id hY
  refine (fvalid_yes x _ _ _ (HA.out.gr hG) (HB.out.gr hG) HB0.out HX.out lA lB).mono ?_
  rintro e w1 ⟨rfl, hg⟩
  replace hR := hR.gr hg
  replace hX := hX.gr hg
  replace hY := hY.gr hg
  replace hG := hG.step hg
  clear xc0 xc1 xc2 yc0 yc1 yc2 hg
  obtain ⟨xc0, xc1, xc2, -, -, -, -, -⟩ := id hX
  obtain ⟨yc0, yc1, yc2, -, -, -, -, -⟩ := id hY
  go_wp2_with fail
  refine (fvalid_yes y _ _ _ (HC.out.gr hG) (HD.out.gr hG) HD0.out HY.out lC lD).mono ?_
  rintro e w2 ⟨rfl, hg⟩
  replace hR := hR.gr hg
  replace hX := hX.gr hg
  replace hY := hY.gr hg
  replace hG := hG.step hg
  clear xc0 xc1 xc2 yc0 yc1 yc2 hg
  obtain ⟨xc0, xc1, xc2, -, -, -, -, -⟩ := id hX
  obtain ⟨yc0, yc1, yc2, -, -, -, -, -⟩ := id hY
  go_wp2_with fail
  refine (mul_128 _ _ _ (HA.out.gr hG) (HC.out.gr hG) lA lC).mono ?_
  rintro e w3 ⟨vl, rfl, hl, hg⟩
  replace hR := hR.gr hg
  replace hX := hX.gr hg
  replace hY := hY.gr hg
  replace hG := hG.step hg
  clear xc0 xc1 xc2 yc0 yc1 yc2 hg
  obtain ⟨xc0, xc1, xc2, -, -, -, -, -⟩ := id hX
  obtain ⟨yc0, yc1, yc2, -, -, -, -, -⟩ := id hY
  go_wp2_with fail
  refine (mul_128 _ _ _ (HB.out.gr hG) (HD.out.gr hG) lB lD).mono ?_
  rintro e w4 ⟨vr, rfl, hr, hg⟩
  replace hl := hl.gr hg
  replace hR := hR.gr hg
  replace hX := hX.gr hg
  replace hY := hY.gr hg
  replace hG := hG.step hg
  clear xc0 xc1 xc2 yc0 yc1 yc2 hg
  obtain ⟨xc0, xc1, xc2, -, -, -, -, -⟩ := id hX
  obtain ⟨yc0, yc1, yc2, -, -, -, -, -⟩ := id hY
  go_wp2_with fail
  refine (lowest_any (!x == y) _ _ _ hl hr HBD.out l1 l2).mono ?_
  intro e w5 hres
  obtain ⟨b, a1, a2, n1, n2, c1, c2, er, rfl, hres, hg⟩ := hres.form
  have HRES := Lib.hid hres
  replace hR := hR.gr hg
  replace hG := hG.step hg
  have hfl := hR.fill b a1 a2 n1 n2 c1 c2
  obtain ⟨sc0, sc1, sc2, -, -, -, -, -⟩ := hfl.1
  obtain ⟨rc0, rc1, rc2, rf0, rf1, rf2, rlt, -⟩ := id hR
  clear hres hg
  go_wp2_with fail
  refine bodyPost_ret (v := .tuple #[.agg #[.bool b, .slice a1 n1 c1, .slice a2 n2 c2], .int .i64 er]) (by simp [results, Tryz.results12, go_sem, sc0, sc1, sc2]) rfl ?_
  exact ⟨_, er, rfl, HRES.out.imp (fun h => ⟨h.1, h.2.1, hR.red b a1 a2 n1 n2 c1 c2 h.2.2⟩) id, C3.three hG (by omega) _ _ _⟩
set_option maxHeartbeats 2000000 in
theorem fdiv_any {a b : Rat} (v u : Value) (w : World) (ha : Fra w v a) (hb : Fra w u b) (hb0 : b ≠ 0) :
    Calls Tryz.prog 14 #[v, u] w (FRes w (a / b)) := by
  obtain ⟨x, va, vb, A, B, rfl, hA, hB, hB0, hx, lA, lB, rfl⟩ := ha
  obtain ⟨y, vc, vd, C, D, rfl, hC, hD, hD0, hy, lC, lD, rfl⟩ := hb
  have hC0 : 0 < C := Nat.pos_of_ne_zero fun h => hb0 ((rat_eq_zero hD0).2 h)
  rw [rat_div hD0 hC0, bne_bool]
  have hcl : 0 < (nd C).length := by rw [nd_pos hC0]; simp
  have d1 : (((nd C).length : Int) == 0) = false := by rw [beq_eq_false_iff_ne]; omega
  have HCB := Lib.hid (Nat.mul_pos hC0 hB0)
  clear hb0 hC0
  have HA := Lib.hid hA
  have HB := Lib.hid hB
  have HC := Lib.hid hC
  have HD := Lib.hid hD
  obtain ⟨aa, ca, rfl⟩ := num_slice hA
  obtain ⟨ab, cb, rfl⟩ := num_slice hB
  obtain ⟨ac, cc, rfl⟩ := num_slice hC
  obtain ⟨ad, cd, rfl⟩ := num_slice hD
  clear hA hB hC hD
  have hX0 := C3.new w (.bool x) (.slice aa (nd A).length ca) (.slice ab (nd B).length cb) 26 w.heap.size rfl
  have hX1 := hX0.gr (Gr.alloc (Gr.refl _) (.cells #[.bool y, .slice ac (nd C).length cc, .slice ad (nd D).length cd] 26))
  have hY1 := C3.new (w.alloc (.cells #[.bool x, .slice aa (nd A).length ca, .slice ab (nd B).length cb] 26)) (.bool y) (.slice ac (nd C).length cc) (.slice ad (nd D).length cd) 26 (w.heap.size + 1) (by simp)
  have hG1 : Gr w ((w.alloc (.cells #[.bool x, .slice aa (nd A).length ca, .slice ab (nd B).length cb] 26)).alloc (.cells #[.bool y, .slice ac (nd C).length cc, .slice ad (nd D).length cd] 26)) := (Gr.alloc (Gr.refl _) _).alloc _
  have HB0 := Lib.hid hB0
  have HD0 := Lib.hid hD0
  have HX := Lib.hid hx
  have HY := Lib.hid hy
  have HBD := Lib.hid (Nat.mul_pos hB0 hD0)
  have lp : (nd (A * D)).length ≤ 128 := by have := nd_mul' lA lD; omega
  have lq : (nd (C * B)).length ≤ 128 := by have := nd_mul' lC lB; omega
  have lr : (nd (B * D)).length ≤ 256 := by have := nd_mul' lB lD; omega
  clear hB0 hD0 hx hy
  go_enter Tryz.func14, Tryz.ntmps14
  go_wp2_with fail
  clear hX0
  have hsz : ((w.alloc (.cells #[.bool x, .slice aa (nd A).length ca, .slice ab (nd B).length cb] 26)).alloc (.cells #[.bool y, .slice ac (nd C).length cc, .slice ad (nd D).length cd] 26)).heap.size = w.heap.size + 1 + 1 := by simp
  generalize (w.alloc (.cells #[.bool x, .slice aa (nd A).length ca, .slice ab (nd B).length cb] 26)).alloc (.cells #[.bool y, .slice ac (nd C).length cc, .slice ad (nd D).length cd] 26) = W1 at *
  have hR := C3.new W1 (.bool false) (.slice none 0 0) (.slice none 0 0) 26 (w.heap.size + 1 + 1) hsz.symm
  have hX := hX1.gr (Gr.alloc (Gr.refl _) (.cells #[.bool false, .slice none 0 0, .slice none 0 0] 26))
  have hY := hY1.gr (Gr.alloc (Gr.refl _) (.cells #[.bool false, .slice none 0 0, .slice none 0 0] 26))
  have hG := hG1.alloc (.cells #[.bool false, .slice none 0 0, .slice none 0 0] 26)
  clear hX1 hY1 hG1 hsz
  generalize W1.alloc (.cells #[.bool false, .slice none 0 0, .slice none 0 0] 26) = W0 at *
  obtain ⟨xc0, xc1, xc2, -, -, -, -, -⟩ := id hX
  obtain ⟨yc0, yc1, yc2, -, -, -, -, -⟩ := id hY
  refine (fvalid_yes x _ _ _ (HA.out.gr hG) (HB.out.gr hG) HB0.out HX.out lA lB).mono ?_
  rintro e w1 ⟨rfl, hg⟩
  replace hR := hR.gr hg
  replace hX := hX.gr hg
  replace hY := hY.gr hg
  replace hG := hG.step hg
  clear xc0 xc1 xc2 yc0 yc1 yc2 hg
  obtain ⟨xc0, xc1, xc2, -, -, -, -, -⟩ := id hX
  obtain ⟨yc0, yc1, yc2, -, -, -, -, -⟩ := id hY
  go_wp2_with fail
  refine (fvalid_yes y _ _ _ (HC.out.gr hG) (HD.out.gr hG) HD0.out HY.out lC lD).mono ?_
  rintro e w2 ⟨rfl, hg⟩
  replace hR := hR.gr hg
  replace hX := hX.gr hg
  replace hY := hY.gr hg
  replace hG := hG.step hg
  clear xc0 xc1 xc2 yc0 yc1 yc2 hg
  obtain ⟨xc0, xc1, xc2, -, -, -, -, -⟩ := id hX
  obtain ⟨yc0, yc1, yc2, -, -, -, -, -⟩ := id hY
  go_wp2_with fail
  refine (crossed_any x y _ _ _ _ _ (HA.out.gr hG) (HB.out.gr hG) (HC.out.gr hG) (HD.out.gr hG) lA lB lC lD).mono ?_
  rintro e w3 ⟨vl, vr, rfl, hl, hr, hg⟩
  replace hR := hR.gr hg
  replace hX := hX.gr hg
  replace hY := hY.gr hg
  replace hG := hG.step hg
  clear xc0 xc1 xc2 yc0 yc1 yc2 hg
  obtain ⟨xc0, xc1, xc2, -, -, -, -, -⟩ := id hX
  obtain ⟨yc0, yc1, yc2, -, -, -, -, -⟩ := id hY
  go_wp2_with fail
  refine (lowest_any (!x == y) _ _ _ hl hr HCB.out (by omega) (by omega)).mono ?_
  intro e w5 hres
  obtain ⟨b, a1, a2, n1, n2, c1, c2, er, rfl, hres, hg⟩ := hres.form
  have HRES := Lib.hid hres
  replace hR := hR.gr hg
  replace hG := hG.step hg
  have hfl := hR.fill b a1 a2 n1 n2 c1 c2
  obtain ⟨sc0, sc1, sc2, -, -, -, -, -⟩ := hfl.1
  obtain ⟨rc0, rc1, rc2, rf0, rf1, rf2, rlt, -⟩ := id hR
  clear hres hg
  go_wp2_with fail
  refine bodyPost_ret (v := .tuple #[.agg #[.bool b, .slice a1 n1 c1, .slice a2 n2 c2], .int .i64 er]) (by simp [results, Tryz.results14, go_sem, sc0, sc1, sc2]) rfl ?_
  exact ⟨_, er, rfl, HRES.out.imp (fun h => ⟨h.1, h.2.1, hR.red b a1 a2 n1 n2 c1 c2 h.2.2⟩) id, C3.three hG (by omega) _ _ _⟩
set_option maxHeartbeats 2000000 in
theorem fdiv_zero {a : Rat} (v u : Value) (w : World) (ha : Fra w v a) (hb : Fra w u 0) :
    Calls Tryz.prog 14 #[v, u] w fun e w' => e = .returned (.tuple #[fzero, .int .i64 14]) ∧ Gr w w' := by
  obtain ⟨x, va, vb, A, B, rfl, hA, hB, hB0, hx, lA, lB, rfl⟩ := ha
  obtain ⟨y, vc, vd, C, D, rfl, hC, hD, hD0, hy, lC, lD, hr0⟩ := hb
  have hC0 : C = 0 := (rat_eq_zero hD0).1 hr0.symm
  have d1 : (((nd C).length : Int) == 0) = true := by rw [hC0, nd_zero]; rfl
  clear hr0 hC0
  have HA := Lib.hid hA
  have HB := Lib.hid hB
  have HC := Lib.hid hC
  have HD := Lib.hid hD
  obtain ⟨aa, ca, rfl⟩ := num_slice hA
  obtain ⟨ab, cb, rfl⟩ := num_slice hB
  obtain ⟨ac, cc, rfl⟩ := num_slice hC
  obtain ⟨ad, cd, rfl⟩ := num_slice hD
  clear hA hB hC hD
  have hX0 := C3.new w (.bool x) (.slice aa (nd A).length ca) (.slice ab (nd B).length cb) 26 w.heap.size rfl
  have hX1 := hX0.gr (Gr.alloc (Gr.refl _) (.cells #[.bool y, .slice ac (nd C).length cc, .slice ad (nd D).length cd] 26))
  have hY1 := C3.new (w.alloc (.cells #[.bool x, .slice aa (nd A).length ca, .slice ab (nd B).length cb] 26)) (.bool y) (.slice ac (nd C).length cc) (.slice ad (nd D).length cd) 26 (w.heap.size + 1) (by simp)
  have hG1 : Gr w ((w.alloc (.cells #[.bool x, .slice aa (nd A).length ca, .slice ab (nd B).length cb] 26)).alloc (.cells #[.bool y, .slice ac (nd C).length cc, .slice ad (nd D).length cd] 26)) := (Gr.alloc (Gr.refl _) _).alloc _
  have HB0 := Lib.hid hB0
  have HD0 := Lib.hid hD0
  have HX := Lib.hid hx
  have HY := Lib.hid hy
  have HBD := Lib.hid (Nat.mul_pos hB0 hD0)
  have lp : (nd (A * D)).length ≤ 128 := by have := nd_mul' lA lD; omega
  have lq : (nd (C * B)).length ≤ 128 := by have := nd_mul' lC lB; omega
  have lr : (nd (B * D)).length ≤ 256 := by have := nd_mul' lB lD; omega
  clear hB0 hD0 hx hy
  go_enter Tryz.func14, Tryz.ntmps14
  go_wp2_with fail
  clear hX0
  have hsz : ((w.alloc (.cells #[.bool x, .slice aa (nd A).length ca, .slice ab (nd B).length cb] 26)).alloc (.cells #[.bool y, .slice ac (nd C).length cc, .slice ad (nd D).length cd] 26)).heap.size = w.heap.size + 1 + 1 := by simp
  generalize (w.alloc (.cells #[.bool x, .slice aa (nd A).length ca, .slice ab (nd B).length cb] 26)).alloc (.cells #[.bool y, .slice ac (nd C).length cc, .slice ad (nd D).length cd] 26) = W1 at *
  have hR := C3.new W1 (.bool false) (.slice none 0 0) (.slice none 0 0) 26 (w.heap.size + 1 + 1) hsz.symm
  have hX := hX1.gr (Gr.alloc (Gr.refl _) (.cells #[.bool false, .slice none 0 0, .slice none 0 0] 26))
  have hY := hY1.gr (Gr.alloc (Gr.refl _) (.cells #[.bool false, .slice none 0 0, .slice none 0 0] 26))
  have hG := hG1.alloc (.cells #[.bool false, .slice none 0 0, .slice none 0 0] 26)
  clear hX1 hY1 hG1 hsz
  generalize W1.alloc (.cells #[.bool false, .slice none 0 0, .slice none 0 0] 26) = W0 at *
  obtain ⟨xc0, xc1, xc2, -, -, -, -, -⟩ := id hX
  obtain ⟨yc0, yc1, yc2, -, -, -, -, -⟩ := id hY
  refine (fvalid_yes x _ _ _ (HA.out.gr hG) (HB.out.gr hG) HB0.out HX.out lA lB).mono ?_
  rintro e w1 ⟨rfl, hg⟩
  replace hR := hR.gr hg
  replace hX := hX.gr hg
  replace hY := hY.gr hg
  replace hG := hG.step hg
  clear xc0 xc1 xc2 yc0 yc1 yc2 hg
  obtain ⟨xc0, xc1, xc2, -, -, -, -, -⟩ := id hX
  obtain ⟨yc0, yc1, yc2, -, -, -, -, -⟩ := id hY
  go_wp2_with fail
  refine (fvalid_yes y _ _ _ (HC.out.gr hG) (HD.out.gr hG) HD0.out HY.out lC lD).mono ?_
  rintro e w2 ⟨rfl, hg⟩
  replace hR := hR.gr hg
  replace hX := hX.gr hg
  replace hY := hY.gr hg
  replace hG := hG.step hg
  clear xc0 xc1 xc2 yc0 yc1 yc2 hg
  obtain ⟨xc0, xc1, xc2, -, -, -, -, -⟩ := id hX
  obtain ⟨yc0, yc1, yc2, -, -, -, -, -⟩ := id hY
  have hfl := hR.fill false none none 0 0 0 0
  obtain ⟨sc0, sc1, sc2, -, -, -, -, -⟩ := hfl.1
  obtain ⟨rc0, rc1, rc2, rf0, rf1, rf2, rlt, -⟩ := id hR
  go_wp2_with fail
  refine bodyPost_ret (v := .tuple #[fzero, .int .i64 14]) (by simp [results, Tryz.results14, go_sem, sc0, sc1, sc2, fzero]) rfl ?_
  exact ⟨rfl, C3.three hG (by omega) _ _ _⟩
end Go.Proofs.YtjpjnbgfodlkcaaGreatDoor
/- Worlds that have grown by an append; numbers of one limb. -/
namespace Go.Proofs.YtjpjnbgfodlkcaaGreatDoor
open Go Go.RowKit Go.Sort
set_option maxRecDepth 100000
set_option linter.unusedVariables false
theorem Ex.ofGrown {v w : World} {k : Nat} (g : v.grownBy w (some k)) : Ex k v w := ⟨g.os, g.tape, g.output, g.size, fun j hj hs => g.block j hs (fun hc => hj (Option.some.inj hc))⟩
theorem Gr.ofGrown {v w : World} (g : v.grownBy w none) : Gr v w := Gr.grown (Gr.refl _) g (fun _ h => by cases h)
theorem Ex.grown {b : Nat} {u v w : World} {row : Option Nat} (h : Ex b u v) (g : v.grownBy w row) (hr : ∀ k, row = some k → u.heap.size ≤ k) : Ex b u w :=
  ⟨g.os.trans h.os, g.tape.trans h.tape, g.output.trans h.output, Nat.le_trans h.size g.size, fun j hj hs => (g.block j (Nat.lt_of_lt_of_le hs h.size) (fun hc => by have := hr j hc.symm; omega)).trans (h.block j hj hs)⟩
theorem Own.ex {w w' : World} {base b : Nat} {v : Value} {l : List Nat} (h : Own w base v l) (g : Ex b w w') (hb : b < base) : Own w' base v l := by
  refine World.ownsRow.kept (row := some b) h ⟨g.os, g.tape, g.output, g.size, fun k hk hne => g.block k (fun e => hne (by rw [e])) hk⟩ ?_
  cases hv : v.ownBlock with
  | none => exact .inl rfl
  | some k => exact .inr (fun e => by have := (World.ownsRow.lt h k hv).1; cases e; omega)
theorem nd_one {x : Nat} (h0 : 0 < x) (h1 : x < 1073741824) : nd x = [x] := by rw [nd_pos h0, Nat.mod_eq_of_lt h1, Nat.div_eq_of_lt h1, nd_zero]
/-- a list of one limb, made by the call -/
theorem num_lit (w : World) (x : Nat) (z : Int) (hz : z = x) (h0 : 0 < x) (h1 : x < 1073741824) : Num (w.alloc (.cells #[.int .i64 z] 3)) (.slice (some ⟨w.heap.size, 0, none⟩) 1 1) x := by
  subst hz
  unfold Num
  rw [nd_one h0 h1]
  refine ⟨_, 1, rfl, Nat.le_refl _, by omega, fun i hi => ⟨w.heap.size, 0, rfl, trivial, ?_⟩⟩
  obtain rfl : i = 0 := by simp at hi; omega
  simp
theorem nd_two : nd 1073741824 = [0, 1] := by rw [nd_pos (by omega), show 1073741824 / 1073741824 = 1 from rfl, nd_one (by omega) (by omega)]
end Go.Proofs.YtjpjnbgfodlkcaaGreatDoor
/- Results with and without an error; whole numbers as fractions. -/
namespace Go.Proofs.YtjpjnbgfodlkcaaGreatDoor
open Go Go.RowKit Go.Sort
set_option maxRecDepth 100000
set_option linter.unusedVariables false
theorem whole_num (N : Nat) : (rat false N 1).num.natAbs = N ∧ (rat false N 1).den = 1 := by
  rw [rat_num_abs (by omega), rat_den (by omega), Nat.gcd_one_right]
  exact ⟨Nat.div_one _, rfl⟩
theorem whole_neg (N : Nat) : decide ((rat false N 1).num < 0) = false := by rw [rat_neg (by omega)]; rfl
theorem whole_add (M N : Nat) : rat false M 1 + rat false N 1 = rat false (M + N) 1 := by rw [rat_add (by omega) (by omega), rat_same]; simp
theorem whole_mul (M N : Nat) : rat false M 1 * rat false N 1 = rat false (M * N) 1 := by rw [rat_mul]; rfl
theorem whole_sub {M N : Nat} (h : N ≤ M) : rat false M 1 - rat false N 1 = rat false (M - N) 1 := by
  have := whole_add (M - N) N
  rw [Nat.sub_add_cancel h] at this
  rw [← this, Rat.add_sub_cancel]
theorem whole_div {M : Nat} (h : 0 < M) : rat false M 1 / rat false M 1 = rat false 1 1 := by
  rw [Rat.div_def, Rat.mul_inv_cancel _ (fun e => by have := (rat_eq_zero (x := false) (A := M) (B := 1) (by omega)).1 e; omega)]
  rfl
theorem len_one : (nd 1).length ≤ 64 := by rw [nd_one (x := 1) (by omega) (by omega)]; simp
theorem whole_bd {N : Nat} : Bd 64 (rat false N 1) ↔ (nd N).length ≤ 64 := by
  unfold Bd
  rw [(whole_num N).1, (whole_num N).2]
  exact ⟨fun h => h.1, fun h => ⟨h, len_one⟩⟩
theorem whole_fra {w : World} {vn vd : Value} {N : Nat} (hn : Num w vn N) (hd : Num w vd 1) (hl : (nd N).length ≤ 64) : Fra w (.agg #[.bool false, vn, vd]) (rat false N 1) :=
  ⟨false, vn, vd, N, 1, rfl, hn, hd, by omega, (fun h => by cases h), hl, len_one, rfl⟩
theorem whole_red {w : World} {vn vd : Value} {N : Nat} (hn : Num w vn N) (hd : Num w vd 1) : Red w (.agg #[.bool false, vn, vd]) (rat false N 1) :=
  ⟨vn, vd, by rw [whole_neg], by rw [(whole_num N).1]; exact hn, by rw [(whole_num N).2]; exact hd⟩
theorem FRes.no {w w' : World} {r : Rat} {e : Ending} (h : FRes w r e w') (hb : ¬ Bd 64 r) : e = .returned (.tuple #[.agg #[.bool false, .slice none 0 0, .slice none 0 0], .int .i64 5]) ∧ Gr w w' := by
  obtain ⟨v, er, rfl, ⟨h1, -⟩ | ⟨-, rfl, rfl⟩, hg⟩ := h
  · exact absurd h1 hb
  · exact ⟨rfl, hg⟩
theorem FRes.yes {w w' : World} {r : Rat} {e : Ending} (h : FRes w r e w') (hb : Bd 64 r) : ∃ (b : Bool) (a1 a2 : Option Addr) (n1 n2 c1 c2 : Nat), e = .returned (.tuple #[.agg #[.bool b, .slice a1 n1 c1, .slice a2 n2 c2], .int .i64 0]) ∧ Red w' (.agg #[.bool b, .slice a1 n1 c1, .slice a2 n2 c2]) r ∧ Gr w w' := by
  obtain ⟨b, a1, a2, n1, n2, c1, c2, er, rfl, h, hg⟩ := h.form
  rcases h with ⟨-, rfl, h3⟩ | ⟨h1, -⟩
  · exact ⟨b, a1, a2, n1, n2, c1, c2, rfl, h3, hg⟩
  · exact absurd hb h1
end Go.Proofs.YtjpjnbgfodlkcaaGreatDoor
/- Add and Sub. -/
namespace Go.Proofs.YtjpjnbgfodlkcaaGreatDoor
open Go Go.RowKit Go.Sort
set_option maxRecDepth 100000
set_option linter.unusedVariables false
set_option maxHeartbeats 2000000 in
theorem fadd_same {A B C D : Nat} (x : Bool) (va vb vc vd : Value) (w : World) (hA : Num w va A) (hB : Num w vb B) (hC : Num w vc C) (hD : Num w vd D) (hB0 : 0 < B) (hD0 : 0 < D) (hx : x = true → 0 < A) (hy : x = true → 0 < C) (lA : (nd A).length ≤ 64) (lB : (nd B).length ≤ 64) (lC : (nd C).length ≤ 64) (lD : (nd D).length ≤ 64) :
    Calls Tryz.prog 7 #[.agg #[.bool x, va, vb], .agg #[.bool x, vc, vd]] w (FRes w (rat x (A * D + C * B) (B * D))) := by
  obtain ⟨y, hxy⟩ : ∃ y, y = x := ⟨_, rfl⟩
  rw [show Value.agg #[.bool x, vc, vd] = Value.agg #[.bool y, vc, vd] by rw [hxy]]
  rw [← hxy] at hy
  have d1 : (x == y) = true := by rw [hxy]; cases x <;> rfl
  clear hxy
  have HA := Lib.hid hA
  have HB := Lib.hid hB
  have HC := Lib.hid hC
  have HD := Lib.hid hD
  obtain ⟨aa, ca, rfl⟩ := num_slice hA
  obtain ⟨ab, cb, rfl⟩ := num_slice hB
  obtain ⟨ac, cc, rfl⟩ := num_slice hC
  obtain ⟨ad, cd, rfl⟩ := num_slice hD
  clear hA hB hC hD
  have hX0 := C3.new w (.bool x) (.slice aa (nd A).length ca) (.slice ab (nd B).length cb) 26 w.heap.size rfl
  have hX1 := hX0.gr (Gr.alloc (Gr.refl _) (.cells #[.bool y, .slice ac (nd C).length cc, .slice ad (nd D).length cd] 26))
  have hY1 := C3.new (w.alloc (.cells #[.bool x, .slice aa (nd A).length ca, .slice ab (nd B).length cb] 26)) (.bool y) (.slice ac (nd C).length cc) (.slice ad (nd D).length cd) 26 (w.heap.size + 1) (by simp)
  have hG1 : Gr w ((w.alloc (.cells #[.bool x, .slice aa (nd A).length ca, .slice ab (nd B).length cb] 26)).alloc (.cells #[.bool y, .slice ac (nd C).length cc, .slice ad (nd D).length cd] 26)) := (Gr.alloc (Gr.refl _) _).alloc _
  have HB0 := Lib.hid hB0
  have HD0 := Lib.hid hD0
  have HX := Lib.hid hx
  have HY := Lib.hid hy
  have HBD := Lib.hid (Nat.mul_pos hB0 hD0)
  have lp : (nd (A * D)).length ≤ 128 := by have := nd_mul' lA lD; omega
  have lq : (nd (C * B)).length ≤ 128 := by have := nd_mul' lC lB; omega
  have lr : (nd (B * D)).length ≤ 256 := by have := nd_mul' lB lD; omega
  clear hB0 hD0 hx hy
  have ls : (nd (A * D + C * B)).length ≤ 256 := by have := nd_add' lp lq; omega
  go_enter Tryz.func7, Tryz.ntmps7
  go_wp2_with fail
  clear hX0
  have hsz : ((w.alloc (.cells #[.bool x, .slice aa (nd A).length ca, .slice ab (nd B).length cb] 26)).alloc (.cells #[.bool y, .slice ac (nd C).length cc, .slice ad (nd D).length cd] 26)).heap.size = w.heap.size + 1 + 1 := by simp
  generalize (w.alloc (.cells #[.bool x, .slice aa (nd A).length ca, .slice ab (nd B).length cb] 26)).alloc (.cells #[.bool y, .slice ac (nd C).length cc, .slice ad (nd D).length cd] 26) = W1 at *
  have hR := C3.new W1 (.bool false) (.slice none 0 0) (.slice none 0 0) 26 (w.heap.size + 1 + 1) hsz.symm
  have hX := hX1.gr (Gr.alloc (Gr.refl _) (.cells #[.bool false, .slice none 0 0, .slice none 0 0] 26))
  have hY := hY1.gr (Gr.alloc (Gr.refl _) (.cells #[.bool false, .slice none 0 0, .slice none 0 0] 26))
  have hG := hG1.alloc (.cells #[.bool false, .slice none 0 0, .slice none 0 0] 26)
  clear hX1 hY1 hG1 hsz
  generalize W1.alloc (.cells #[.bool false, .slice none 0 0, .slice none 0 0] 26) = W0 at *
  obtain ⟨xc0, xc1, xc2, -, -, -, -, -⟩ := id hX
  obtain ⟨yc0, yc1, yc2, -, -, -, -, -⟩ := id hY
  refine (fvalid_yes x _ _ _ (HA.out.gr hG) (HB.out.gr hG) HB0.out HX.out lA lB).mono ?_
  rintro e w1 ⟨rfl, hg⟩
  replace hR := hR.gr hg
  replace hX := hX.gr hg
  replace hY := hY.gr hg
  replace hG := hG.step hg
  clear xc0 xc1 xc2 yc0 yc1 yc2 hg
  obtain ⟨xc0, xc1, xc2, -, -, -, -, -⟩ := id hX
  obtain ⟨yc0, yc1, yc2, -, -, -, -, -⟩ := id hY
  go_wp2_with fail
  refine (fvalid_yes y _ _ _ (HC.out.gr hG) (HD.out.gr hG) HD0.out HY.out lC lD).mono ?_
  rintro e w2 ⟨rfl, hg⟩
  replace hR := hR.gr hg
  replace hX := hX.gr hg
  replace hY := hY.gr hg
  replace hG := hG.step hg
  clear xc0 xc1 xc2 yc0 yc1 yc2 hg
  obtain ⟨xc0, xc1, xc2, -, -, -, -, -⟩ := id hX
  obtain ⟨yc0, yc1, yc2, -, -, -, -, -⟩ := id hY
  go_wp2_with fail
  refine (crossed_any x y _ _ _ _ _ (HA.out.gr hG) (HB.out.gr hG) (HC.out.gr hG) (HD.out.gr hG) lA lB lC lD).mono ?_
  rintro e w3 ⟨vl, vr, rfl, hl, hr, hg⟩
  replace hR := hR.gr hg
  replace hX := hX.gr hg
  replace hY := hY.gr hg
  replace hG := hG.step hg
  clear xc0 xc1 xc2 yc0 yc1 yc2 hg
  obtain ⟨xc0, xc1, xc2, -, -, -, -, -⟩ := id hX
  obtain ⟨yc0, yc1, yc2, -, -, -, -, -⟩ := id hY
  go_wp2_with fail
  refine (mul_128 _ _ _ (HB.out.gr hG) (HD.out.gr hG) lB lD).mono ?_
  rintro e w4 ⟨vm, rfl, hm, hg⟩
  replace hl := hl.gr hg
  replace hr := hr.gr hg
  replace hR := hR.gr hg
  replace hX := hX.gr hg
  replace hY := hY.gr hg
  replace hG := hG.step hg
  clear xc0 xc1 xc2 yc0 yc1 yc2 hg
  obtain ⟨xc0, xc1, xc2, -, -, -, -, -⟩ := id hX
  obtain ⟨yc0, yc1, yc2, -, -, -, -, -⟩ := id hY
  go_wp2_with fail
  refine (add_129 _ _ _ hl hr lp lq).mono ?_
  rintro e w5 ⟨vs, rfl, hs, hg⟩
  replace hm := hm.gr hg
  replace hR := hR.gr hg
  replace hX := hX.gr hg
  replace hY := hY.gr hg
  replace hG := hG.step hg
  clear xc0 xc1 xc2 yc0 yc1 yc2 hg
  obtain ⟨xc0, xc1, xc2, -, -, -, -, -⟩ := id hX
  obtain ⟨yc0, yc1, yc2, -, -, -, -, -⟩ := id hY
  go_wp2_with fail
  refine (lowest_any x _ _ _ hs hm HBD.out ls lr).mono ?_
  intro e w6 hres
  obtain ⟨b, a1, a2, n1, n2, c1, c2, er, rfl, hres, hg⟩ := hres.form
  have HRES := Lib.hid hres
  replace hR := hR.gr hg
  replace hG := hG.step hg
  have hfl := hR.fill b a1 a2 n1 n2 c1 c2
  obtain ⟨sc0, sc1, sc2, -, -, -, -, -⟩ := hfl.1
  obtain ⟨rc0, rc1, rc2, rf0, rf1, rf2, rlt, -⟩ := id hR
  clear hres hg
  go_wp2_with fail
  refine bodyPost_ret (v := .tuple #[.agg #[.bool b, .slice a1 n1 c1, .slice a2 n2 c2], .int .i64 er]) (by simp [results, Tryz.results7, go_sem, sc0, sc1, sc2]) rfl ?_
  exact ⟨_, er, rfl, HRES.out.imp (fun h => ⟨h.1, h.2.1, hR.red b a1 a2 n1 n2 c1 c2 h.2.2⟩) id, C3.three hG (by omega) _ _ _⟩
set_option maxHeartbeats 2000000 in
theorem fadd_diff {A B C D : Nat} (x : Bool) (va vb vc vd : Value) (w : World) (hA : Num w va A) (hB : Num w vb B) (hC : Num w vc C) (hD : Num w vd D) (hB0 : 0 < B) (hD0 : 0 < D) (hx : x = true → 0 < A) (hy : (!x) = true → 0 < C) (lA : (nd A).length ≤ 64) (lB : (nd B).length ≤ 64) (lC : (nd C).length ≤ 64) (lD : (nd D).length ≤ 64) :
    Calls Tryz.prog 7 #[.agg #[.bool x, va, vb], .agg #[.bool (!x), vc, vd]] w (FRes w (mkRat (sgn x A * D + sgn (!x) C * B) (B * D))) := by
  by_cases hc : C * B ≤ A * D
  · rw [rat_diff_ge hc]
    obtain ⟨y, hxy⟩ : ∃ y, y = !x := ⟨_, rfl⟩
    rw [show Value.agg #[.bool (!x), vc, vd] = Value.agg #[.bool y, vc, vd] by rw [hxy]]
    rw [← hxy] at hy
    have d1 : (x == y) = false := by rw [hxy]; cases x <;> rfl
    have HC1 : Hid (0 ≤ ncmp (A * D) (C * B)) := Lib.hid (by rcases Nat.eq_or_lt_of_le hc with h | h; rw [h, ncmp_eq]; omega; rw [ncmp_gt h]; omega)
    have HLE := Lib.hid hc
    clear hxy hc
    have HA := Lib.hid hA
    have HB := Lib.hid hB
    have HC := Lib.hid hC
    have HD := Lib.hid hD
    obtain ⟨aa, ca, rfl⟩ := num_slice hA
    obtain ⟨ab, cb, rfl⟩ := num_slice hB
    obtain ⟨ac, cc, rfl⟩ := num_slice hC
    obtain ⟨ad, cd, rfl⟩ := num_slice hD
    clear hA hB hC hD
    have hX0 := C3.new w (.bool x) (.slice aa (nd A).length ca) (.slice ab (nd B).length cb) 26 w.heap.size rfl
    have hX1 := hX0.gr (Gr.alloc (Gr.refl _) (.cells #[.bool y, .slice ac (nd C).length cc, .slice ad (nd D).length cd] 26))
    have hY1 := C3.new (w.alloc (.cells #[.bool x, .slice aa (nd A).length ca, .slice ab (nd B).length cb] 26)) (.bool y) (.slice ac (nd C).length cc) (.slice ad (nd D).length cd) 26 (w.heap.size + 1) (by simp)
    have hG1 : Gr w ((w.alloc (.cells #[.bool x, .slice aa (nd A).length ca, .slice ab (nd B).length cb] 26)).alloc (.cells #[.bool y, .slice ac (nd C).length cc, .slice ad (nd D).length cd] 26)) := (Gr.alloc (Gr.refl _) _).alloc _
    have HB0 := Lib.hid hB0
    have HD0 := Lib.hid hD0
    have HX := Lib.hid hx
    have HY := Lib.hid hy
    have HBD := Lib.hid (Nat.mul_pos hB0 hD0)
    have lp : (nd (A * D)).length ≤ 128 := by have := nd_mul' lA lD; omega
    have lq : (nd (C * B)).length ≤ 128 := by have := nd_mul' lC lB; omega
    have lr : (nd (B * D)).length ≤ 256 := by have := nd_mul' lB lD; omega
    clear hB0 hD0 hx hy
    have ls : (nd (A * D - C * B)).length ≤ 256 := by have := nd_le_len' lp (Nat.sub_le (A * D) (C * B)); omega
    go_enter Tryz.func7, Tryz.ntmps7
    go_wp2_with fail
    clear hX0
    have hsz : ((w.alloc (.cells #[.bool x, .slice aa (nd A).length ca, .slice ab (nd B).length cb] 26)).alloc (.cells #[.bool y, .slice ac (nd C).length cc, .slice ad (nd D).length cd] 26)).heap.size = w.heap.size + 1 + 1 := by simp
    generalize (w.alloc (.cells #[.bool x, .slice aa (nd A).length ca, .slice ab (nd B).length cb] 26)).alloc (.cells #[.bool y, .slice ac (nd C).length cc, .slice ad (nd D).length cd] 26) = W1 at *
    have hR := C3.new W1 (.bool false) (.slice none 0 0) (.slice none 0 0) 26 (w.heap.size + 1 + 1) hsz.symm
    have hX := hX1.gr (Gr.alloc (Gr.refl _) (.cells #[.bool false, .slice none 0 0, .slice none 0 0] 26))
    have hY := hY1.gr (Gr.alloc (Gr.refl _) (.cells #[.bool false, .slice none 0 0, .slice none 0 0] 26))
    have hG := hG1.alloc (.cells #[.bool false, .slice none 0 0, .slice none 0 0] 26)
    clear hX1 hY1 hG1 hsz
    generalize W1.alloc (.cells #[.bool false, .slice none 0 0, .slice none 0 0] 26) = W0 at *
    obtain ⟨xc0, xc1, xc2, -, -, -, -, -⟩ := id hX
    obtain ⟨yc0, yc1, yc2, -, -, -, -, -⟩ := id hY
    refine (fvalid_yes x _ _ _ (HA.out.gr hG) (HB.out.gr hG) HB0.out HX.out lA lB).mono ?_
    rintro e w1 ⟨rfl, hg⟩
    replace hR := hR.gr hg
    replace hX := hX.gr hg
    replace hY := hY.gr hg
    replace hG := hG.step hg
    clear xc0 xc1 xc2 yc0 yc1 yc2 hg
    obtain ⟨xc0, xc1, xc2, -, -, -, -, -⟩ := id hX
    obtain ⟨yc0, yc1, yc2, -, -, -, -, -⟩ := id hY
    go_wp2_with fail
    refine (fvalid_yes y _ _ _ (HC.out.gr hG) (HD.out.gr hG) HD0.out HY.out lC lD).mono ?_
    rintro e w2 ⟨rfl, hg⟩
    replace hR := hR.gr hg
    replace hX := hX.gr hg
    replace hY := hY.gr hg
    replace hG := hG.step hg
    clear xc0 xc1 xc2 yc0 yc1 yc2 hg
    obtain ⟨xc0, xc1, xc2, -, -, -, -, -⟩ := id hX
    obtain ⟨yc0, yc1, yc2, -, -, -, -, -⟩ := id hY
    go_wp2_with fail
    refine (crossed_any x y _ _ _ _ _ (HA.out.gr hG) (HB.out.gr hG) (HC.out.gr hG) (HD.out.gr hG) lA lB lC lD).mono ?_
    rintro e w3 ⟨vl, vr, rfl, hl, hr, hg⟩
    replace hR := hR.gr hg
    replace hX := hX.gr hg
    replace hY := hY.gr hg
    replace hG := hG.step hg
    clear xc0 xc1 xc2 yc0 yc1 yc2 hg
    obtain ⟨xc0, xc1, xc2, -, -, -, -, -⟩ := id hX
    obtain ⟨yc0, yc1, yc2, -, -, -, -, -⟩ := id hY
    go_wp2_with fail
    refine (mul_128 _ _ _ (HB.out.gr hG) (HD.out.gr hG) lB lD).mono ?_
    rintro e w4 ⟨vm, rfl, hm, hg⟩
    replace hl := hl.gr hg
    replace hr := hr.gr hg
    replace hR := hR.gr hg
    replace hX := hX.gr hg
    replace hY := hY.gr hg
    replace hG := hG.step hg
    clear xc0 xc1 xc2 yc0 yc1 yc2 hg
    obtain ⟨xc0, xc1, xc2, -, -, -, -, -⟩ := id hX
    obtain ⟨yc0, yc1, yc2, -, -, -, -, -⟩ := id hY
    go_wp2_with fail
    refine (cmp_any _ _ _ hl hr (by omega)).mono ?_
    rintro e w5 ⟨rfl, hg⟩
    have d2 : decide (ncmp (A * D) (C * B) < 0) = false := by have := HC1.out; simpa using this
    replace hl := hl.gr hg
    replace hr := hr.gr hg
    replace hm := hm.gr hg
    replace hR := hR.gr hg
    replace hX := hX.gr hg
    replace hY := hY.gr hg
    replace hG := hG.step hg
    clear xc0 xc1 xc2 yc0 yc1 yc2 hg
    obtain ⟨xc0, xc1, xc2, -, -, -, -, -⟩ := id hX
    obtain ⟨yc0, yc1, yc2, -, -, -, -, -⟩ := id hY
    go_wp2_with fail
    refine (sub_128 _ _ _ hl hr HLE.out lp lq).mono ?_
    rintro e w5 ⟨vs, rfl, hs, hg⟩
    replace hm := hm.gr hg
    replace hR := hR.gr hg
    replace hX := hX.gr hg
    replace hY := hY.gr hg
    replace hG := hG.step hg
    clear xc0 xc1 xc2 yc0 yc1 yc2 hg
    obtain ⟨xc0, xc1, xc2, -, -, -, -, -⟩ := id hX
    obtain ⟨yc0, yc1, yc2, -, -, -, -, -⟩ := id hY
    go_wp2_with fail
    refine (lowest_any x _ _ _ hs hm HBD.out ls lr).mono ?_
    intro e w6 hres
    obtain ⟨b, a1, a2, n1, n2, c1, c2, er, rfl, hres, hg⟩ := hres.form
    have HRES := Lib.hid hres
    replace hR := hR.gr hg
    replace hG := hG.step hg
    have hfl := hR.fill b a1 a2 n1 n2 c1 c2
    obtain ⟨sc0, sc1, sc2, -, -, -, -, -⟩ := hfl.1
    obtain ⟨rc0, rc1, rc2, rf0, rf1, rf2, rlt, -⟩ := id hR
    clear hres hg
    go_wp2_with fail
    refine bodyPost_ret (v := .tuple #[.agg #[.bool b, .slice a1 n1 c1, .slice a2 n2 c2], .int .i64 er]) (by simp [results, Tryz.results7, go_sem, sc0, sc1, sc2]) rfl ?_
    exact ⟨_, er, rfl, HRES.out.imp (fun h => ⟨h.1, h.2.1, hR.red b a1 a2 n1 n2 c1 c2 h.2.2⟩) id, C3.three hG (by omega) _ _ _⟩
  · have hlt : A * D < C * B := by omega
    rw [rat_diff_lt (Nat.le_of_lt hlt)]
    obtain ⟨y, hxy⟩ : ∃ y, y = !x := ⟨_, rfl⟩
    rw [show Value.agg #[.bool (!x), vc, vd] = Value.agg #[.bool y, vc, vd] by rw [hxy]]
    rw [← hxy] at hy ⊢
    have d1 : (x == y) = false := by rw [hxy]; cases x <;> rfl
    have HC1 : Hid (ncmp (A * D) (C * B) = -1) := Lib.hid (ncmp_lt hlt)
    have HLE := Lib.hid (Nat.le_of_lt hlt)
    clear hxy hc hlt
    have HA := Lib.hid hA
    have HB := Lib.hid hB
    have HC := Lib.hid hC
    have HD := Lib.hid hD
    obtain ⟨aa, ca, rfl⟩ := num_slice hA
    obtain ⟨ab, cb, rfl⟩ := num_slice hB
    obtain ⟨ac, cc, rfl⟩ := num_slice hC
    obtain ⟨ad, cd, rfl⟩ := num_slice hD
    clear hA hB hC hD
    have hX0 := C3.new w (.bool x) (.slice aa (nd A).length ca) (.slice ab (nd B).length cb) 26 w.heap.size rfl
    have hX1 := hX0.gr (Gr.alloc (Gr.refl _) (.cells #[.bool y, .slice ac (nd C).length cc, .slice ad (nd D).length cd] 26))
    have hY1 := C3.new (w.alloc (.cells #[.bool x, .slice aa (nd A).length ca, .slice ab (nd B).length cb] 26)) (.bool y) (.slice ac (nd C).length cc) (.slice ad (nd D).length cd) 26 (w.heap.size + 1) (by simp)
    have hG1 : Gr w ((w.alloc (.cells #[.bool x, .slice aa (nd A).length ca, .slice ab (nd B).length cb] 26)).alloc (.cells #[.bool y, .slice ac (nd C).length cc, .slice ad (nd D).length cd] 26)) := (Gr.alloc (Gr.refl _) _).alloc _
    have HB0 := Lib.hid hB0
    have HD0 := Lib.hid hD0
    have HX := Lib.hid hx
    have HY := Lib.hid hy
    have HBD := Lib.hid (Nat.mul_pos hB0 hD0)
    have lp : (nd (A * D)).length ≤ 128 := by have := nd_mul' lA lD; omega
    have lq : (nd (C * B)).length ≤ 128 := by have := nd_mul' lC lB; omega
    have lr : (nd (B * D)).length ≤ 256 := by have := nd_mul' lB lD; omega
    clear hB0 hD0 hx hy
    have ls : (nd (C * B - A * D)).length ≤ 256 := by have := nd_le_len' lq (Nat.sub_le (C * B) (A * D)); omega
    go_enter Tryz.func7, Tryz.ntmps7
    go_wp2_with fail
    clear hX0
    have hsz : ((w.alloc (.cells #[.bool x, .slice aa (nd A).length ca, .slice ab (nd B).length cb] 26)).alloc (.cells #[.bool y, .slice ac (nd C).length cc, .slice ad (nd D).length cd] 26)).heap.size = w.heap.size + 1 + 1 := by simp
    generalize (w.alloc (.cells #[.bool x, .slice aa (nd A).length ca, .slice ab (nd B).length cb] 26)).alloc (.cells #[.bool y, .slice ac (nd C).length cc, .slice ad (nd D).length cd] 26) = W1 at *
    have hR := C3.new W1 (.bool false) (.slice none 0 0) (.slice none 0 0) 26 (w.heap.size + 1 + 1) hsz.symm
    have hX := hX1.gr (Gr.alloc (Gr.refl _) (.cells #[.bool false, .slice none 0 0, .slice none 0 0] 26))
    have hY := hY1.gr (Gr.alloc (Gr.refl _) (.cells #[.bool false, .slice none 0 0, .slice none 0 0] 26))
    have hG := hG1.alloc (.cells #[.bool false, .slice none 0 0, .slice none 0 0] 26)
    clear hX1 hY1 hG1 hsz
    generalize W1.alloc (.cells #[.bool false, .slice none 0 0, .slice none 0 0] 26) = W0 at *
    obtain ⟨xc0, xc1, xc2, -, -, -, -, -⟩ := id hX
    obtain ⟨yc0, yc1, yc2, -, -, -, -, -⟩ := id hY
    refine (fvalid_yes x _ _ _ (HA.out.gr hG) (HB.out.gr hG) HB0.out HX.out lA lB).mono ?_
    rintro e w1 ⟨rfl, hg⟩
    replace hR := hR.gr hg
    replace hX := hX.gr hg
    replace hY := hY.gr hg
    replace hG := hG.step hg
    clear xc0 xc1 xc2 yc0 yc1 yc2 hg
    obtain ⟨xc0, xc1, xc2, -, -, -, -, -⟩ := id hX
    obtain ⟨yc0, yc1, yc2, -, -, -, -, -⟩ := id hY
    go_wp2_with fail
    refine (fvalid_yes y _ _ _ (HC.out.gr hG) (HD.out.gr hG) HD0.out HY.out lC lD).mono ?_
    rintro e w2 ⟨rfl, hg⟩
    replace hR := hR.gr hg
    replace hX := hX.gr hg
    replace hY := hY.gr hg
    replace hG := hG.step hg
    clear xc0 xc1 xc2 yc0 yc1 yc2 hg
    obtain ⟨xc0, xc1, xc2, -, -, -, -, -⟩ := id hX
    obtain ⟨yc0, yc1, yc2, -, -, -, -, -⟩ := id hY
    go_wp2_with fail
    refine (crossed_any x y _ _ _ _ _ (HA.out.gr hG) (HB.out.gr hG) (HC.out.gr hG) (HD.out.gr hG) lA lB lC lD).mono ?_
    rintro e w3 ⟨vl, vr, rfl, hl, hr, hg⟩
    replace hR := hR.gr hg
    replace hX := hX.gr hg
    replace hY := hY.gr hg
    replace hG := hG.step hg
    clear xc0 xc1 xc2 yc0 yc1 yc2 hg
    obtain ⟨xc0, xc1, xc2, -, -, -, -, -⟩ := id hX
    obtain ⟨yc0, yc1, yc2, -, -, -, -, -⟩ := id hY
    go_wp2_with fail
    refine (mul_128 _ _ _ (HB.out.gr hG) (HD.out.gr hG) lB lD).mono ?_
    rintro e w4 ⟨vm, rfl, hm, hg⟩
    replace hl := hl.gr hg
    replace hr := hr.gr hg
    replace hR := hR.gr hg
    replace hX := hX.gr hg
    replace hY := hY.gr hg
    replace hG := hG.step hg
    clear xc0 xc1 xc2 yc0 yc1 yc2 hg
    obtain ⟨xc0, xc1, xc2, -, -, -, -, -⟩ := id hX
    obtain ⟨yc0, yc1, yc2, -, -, -, -, -⟩ := id hY
    go_wp2_with fail
    refine (cmp_any _ _ _ hl hr (by omega)).mono ?_
    rintro e w5 ⟨rfl, hg⟩
    rw [HC1.out]
    replace hl := hl.gr hg
    replace hr := hr.gr hg
    replace hm := hm.gr hg
    replace hR := hR.gr hg
    replace hX := hX.gr hg
    replace hY := hY.gr hg
    replace hG := hG.step hg
    clear xc0 xc1 xc2 yc0 yc1 yc2 hg
    obtain ⟨xc0, xc1, xc2, -, -, -, -, -⟩ := id hX
    obtain ⟨yc0, yc1, yc2, -, -, -, -, -⟩ := id hY
    go_wp2_with fail
    go_quiet (fail)
    have hg : Gr w5 (w5.drewN nq) := Gr.drewN (Gr.refl _) nq
    generalize w5.drewN nq = w7 at *
    replace hl := hl.gr hg
    replace hr := hr.gr hg
    replace hm := hm.gr hg
    replace hR := hR.gr hg
    replace hX := hX.gr hg
    replace hY := hY.gr hg
    replace hG := hG.step hg
    clear xc0 xc1 xc2 yc0 yc1 yc2 hg
    obtain ⟨xc0, xc1, xc2, -, -, -, -, -⟩ := id hX
    obtain ⟨yc0, yc1, yc2, -, -, -, -, -⟩ := id hY
    go_wp2_with fail
    refine (sub_128 _ _ _ hr hl HLE.out lq lp).mono ?_
    rintro e w8 ⟨vs, rfl, hs, hg⟩
    replace hm := hm.gr hg
    replace hR := hR.gr hg
    replace hX := hX.gr hg
    replace hY := hY.gr hg
    replace hG := hG.step hg
    clear xc0 xc1 xc2 yc0 yc1 yc2 hg
    obtain ⟨xc0, xc1, xc2, -, -, -, -, -⟩ := id hX
    obtain ⟨yc0, yc1, yc2, -, -, -, -, -⟩ := id hY
    go_wp2_with fail
    refine (lowest_any y _ _ _ hs hm HBD.out ls lr).mono ?_
    intro e w6 hres
    obtain ⟨b, a1, a2, n1, n2, c1, c2, er, rfl, hres, hg⟩ := hres.form
    have HRES := Lib.hid hres
    replace hR := hR.gr hg
    replace hG := hG.step hg
    have hfl := hR.fill b a1 a2 n1 n2 c1 c2
    obtain ⟨sc0, sc1, sc2, -, -, -, -, -⟩ := hfl.1
    obtain ⟨rc0, rc1, rc2, rf0, rf1, rf2, rlt, -⟩ := id hR
    clear hres hg
    go_wp2_with fail
    refine bodyPost_ret (v := .tuple #[.agg #[.bool b, .slice a1 n1 c1, .slice a2 n2 c2], .int .i64 er]) (by simp [results, Tryz.results7, go_sem, sc0, sc1, sc2]) rfl ?_
    exact ⟨_, er, rfl, HRES.out.imp (fun h => ⟨h.1, h.2.1, hR.red b a1 a2 n1 n2 c1 c2 h.2.2⟩) id, C3.three hG (by omega) _ _ _⟩
theorem fadd_any {a b : Rat} (v u : Value) (w : World) (ha : Fra w v a) (hb : Fra w u b) :
    Calls Tryz.prog 7 #[v, u] w (FRes w (a + b)) := by
  obtain ⟨x, va, vb, A, B, rfl, hA, hB, hB0, hx, lA, lB, rfl⟩ := ha
  obtain ⟨y, vc, vd, C, D, rfl, hC, hD, hD0, hy, lC, lD, rfl⟩ := hb
  rw [rat_add hB0 hD0]
  by_cases h : y = x
  · subst h
    rw [rat_same]
    exact fadd_same _ _ _ _ _ w hA hB hC hD hB0 hD0 hx hy lA lB lC lD
  · obtain rfl : y = !x := by cases x <;> cases y <;> simp_all
    exact fadd_diff _ _ _ _ _ w hA hB hC hD hB0 hD0 hx hy lA lB lC lD
end Go.Proofs.YtjpjnbgfodlkcaaGreatDoor
