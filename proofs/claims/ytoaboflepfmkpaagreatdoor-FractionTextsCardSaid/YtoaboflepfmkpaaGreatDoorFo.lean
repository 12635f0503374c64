/- crossed, Add, Sub, Mul, Div. -/
import Derived.Test.YtoaboflepfmkpaaGreatDoorFl
import Derived.Test.YtoaboflepfmkpaaGreatDoorNsub
import Derived.Test.YtoaboflepfmkpaaGreatDoorNmul
import Derived.WalkKit
import Derived.WalkSpells
import Derived.WalkLawsBesides
import Derived.WalkSmall
import Derived.Handy
import Derived.BigQuiet
import Derived.Deep.QuietTactic
import Derived.Deep.RegionHeld3
import Derived.Deep.DeepFit
import Derived.Below
import Derived.Lib.Hide
import Derived.Lib.QuietBelow
namespace Go.Proofs.YtoaboflepfmkpaaGreatDoor
open Go Go.RowKit Go.Sort
set_option maxRecDepth 100000
set_option linter.unusedVariables false
theorem mul_128 {A B : Nat} (va vb : Value) (w : World) (hA : Num w va A) (hB : Num w vb B) (lA : (nd A).length ≤ 64) (lB : (nd B).length ≤ 64) :
    Calls Tryz.prog 49 #[va, vb] w fun e w' => ∃ v, e = .returned (.tuple #[v, .int .i64 0]) ∧ Num w' v (A * B) ∧ Gr w w' :=
  (mul_any va vb w hA hB (by omega) (by omega)).mono fun e w' h => by
    obtain ⟨v, er, rfl, ⟨-, rfl, hn⟩ | ⟨hf, -⟩, hg⟩ := h
    · exact ⟨v, rfl, hn, hg⟩
    · have := nd_mul' lA lB; omega
theorem add_129 {A B : Nat} (va vb : Value) (w : World) (hA : Num w va A) (hB : Num w vb B) (lA : (nd A).length ≤ 128) (lB : (nd B).length ≤ 128) :
    Calls Tryz.prog 44 #[va, vb] w fun e w' => ∃ v, e = .returned (.tuple #[v, .int .i64 0]) ∧ Num w' v (A + B) ∧ Gr w w' :=
  (add_any va vb w hA hB (by omega) (by omega)).mono fun e w' h => by
    obtain ⟨v, er, rfl, ⟨-, rfl, hn⟩ | ⟨hf, -⟩, hg⟩ := h
    · exact ⟨v, rfl, hn, hg⟩
    · have := nd_add' lA lB; omega
theorem sub_128 {A B : Nat} (va vb : Value) (w : World) (hA : Num w va A) (hB : Num w vb B) (hBA : B ≤ A) (lA : (nd A).length ≤ 128) (lB : (nd B).length ≤ 128) :
    Calls Tryz.prog 47 #[va, vb] w fun e w' => ∃ v, e = .returned (.tuple #[v, .int .i64 0]) ∧ Num w' v (A - B) ∧ Gr w w' :=
  (sub_any va vb w hA hB (by omega) (by omega)).mono fun e w' h => by
    obtain ⟨v, er, rfl, ⟨-, rfl, hn⟩ | ⟨hf, -⟩, hg⟩ := h
    · exact ⟨v, rfl, hn, hg⟩
    · omega
theorem FRes.form {w w' : World} {r : Rat} {e : Ending} (h : FRes w r e w') : ∃ (b : Bool) (a1 a2 : Option Addr) (n1 n2 c1 c2 : Nat) (er : Int), e = .returned (.tuple #[.agg #[.bool b, .slice a1 n1 c1, .slice a2 n2 c2], .int .i64 er]) ∧
    ((Bd 64 r ∧ er = 0 ∧ Red w' (.agg #[.bool b, .slice a1 n1 c1, .slice a2 n2 c2]) r) ∨ (¬ Bd 64 r ∧ er = 5 ∧ Value.agg #[.bool b, .slice a1 n1 c1, .slice a2 n2 c2] = fzero)) ∧ Gr w w' := by
  obtain ⟨v, er, rfl, ⟨h1, h2, vn, vd, rfl, h3, h4⟩ | ⟨h1, h2, rfl⟩, hg⟩ := h
  · obtain ⟨a1, c1, rfl⟩ := num_slice h3
    obtain ⟨a2, c2, rfl⟩ := num_slice h4
    exact ⟨_, a1, a2, _, _, c1, c2, er, rfl, .inl ⟨h1, h2, _, _, rfl, h3, h4⟩, hg⟩
  · exact ⟨false, none, none, 0, 0, 0, 0, er, rfl, .inr ⟨h1, h2, rfl⟩, hg⟩
theorem C3.red {w : World} {q : Nat} {b : Bool} {a1 a2 : Option Addr} {n1 n2 k1 k2 : Nat} (c : C3 w q (.bool b) (.slice a1 n1 k1) (.slice a2 n2 k2)) (b' : Bool) (p1 p2 : Option Addr) (m1 m2 j1 j2 : Nat) {v : Value} {r : Rat} (h : Red w v r) :
    Red (((w.setCell ⟨q, 0, none⟩ (.bool b')).setCell ⟨q, 1, none⟩ (.slice p1 m1 j1)).setCell ⟨q, 2, none⟩ (.slice p2 m2 j2)) v r := by
  obtain ⟨vn, vd, e, h1, h2⟩ := h
  exact ⟨vn, vd, e, (c.fill b' p1 p2 m1 m2 j1 j2).2 h1, (c.fill b' p1 p2 m1 m2 j1 j2).2 h2⟩
theorem C3.three {w W : World} {q : Nat} (g : Gr w W) (hq : w.heap.size ≤ q) (x y z : Value) : Gr w (((W.setCell ⟨q, 0, none⟩ x).setCell ⟨q, 1, none⟩ y).setCell ⟨q, 2, none⟩ z) :=
  ((g.setCell (p := ⟨q, 0, none⟩) hq _).setCell (p := ⟨q, 1, none⟩) hq _).setCell (p := ⟨q, 2, none⟩) hq _
theorem bne_bool (x y : Bool) : (x != y) = (!x == y) := by cases x <;> cases y <;> rfl
set_option maxHeartbeats 1000000 in
theorem crossed_any {A B C D : Nat} (x y : Bool) (va vb vc vd : Value) (w : World) (hA : Num w va A) (hB : Num w vb B) (hC : Num w vc C) (hD : Num w vd D) (lA : (nd A).length ≤ 64) (lB : (nd B).length ≤ 64) (lC : (nd C).length ≤ 64) (lD : (nd D).length ≤ 64) :
    Calls Tryz.prog 72 #[.agg #[.bool x, va, vb], .agg #[.bool y, vc, vd]] w fun e w' => ∃ vl vr, e = .returned (.tuple #[vl, vr]) ∧ Num w' vl (A * D) ∧ Num w' vr (C * B) ∧ Gr w w' := by
  have HA := Lib.hid hA
  have HB := Lib.hid hB
  have HC := Lib.hid hC
  have HD := Lib.hid hD
  obtain ⟨aa, ca, rfl⟩ := num_slice hA
  obtain ⟨ab, cb, rfl⟩ := num_slice hB
  obtain ⟨ac, cc, rfl⟩ := num_slice hC
  obtain ⟨ad, cd, rfl⟩ := num_slice hD
  clear hA hB hC hD
  have hX0 := C3.new w (.bool x) (.slice aa (nd A).length ca) (.slice ab (nd B).length cb) 29 w.heap.size rfl
  have hX1 := hX0.gr (Gr.alloc (Gr.refl _) (.cells #[.bool y, .slice ac (nd C).length cc, .slice ad (nd D).length cd] 29))
  have hY1 := C3.new (w.alloc (.cells #[.bool x, .slice aa (nd A).length ca, .slice ab (nd B).length cb] 29)) (.bool y) (.slice ac (nd C).length cc) (.slice ad (nd D).length cd) 29 (w.heap.size + 1) (by simp)
  have hG1 : Gr w ((w.alloc (.cells #[.bool x, .slice aa (nd A).length ca, .slice ab (nd B).length cb] 29)).alloc (.cells #[.bool y, .slice ac (nd C).length cc, .slice ad (nd D).length cd] 29)) := (Gr.alloc (Gr.refl _) _).alloc _
  go_enter Tryz.func72, Tryz.ntmps72
  go_wp2_with fail
  clear hX0
  generalize (w.alloc (.cells #[.bool x, .slice aa (nd A).length ca, .slice ab (nd B).length cb] 29)).alloc (.cells #[.bool y, .slice ac (nd C).length cc, .slice ad (nd D).length cd] 29) = W0 at *
  have hX := hX1
  have hY := hY1
  have hG := hG1
  clear hX1 hY1 hG1
  obtain ⟨xc0, xc1, xc2, -, -, -, -, -⟩ := id hX
  obtain ⟨yc0, yc1, yc2, -, -, -, -, -⟩ := id hY
  refine (mul_128 _ _ _ (HA.out.gr hG) (HD.out.gr hG) lA lD).mono ?_
  rintro e w1 ⟨vl, rfl, hl, hg⟩
  replace hX := hX.gr hg
  replace hY := hY.gr hg
  replace hG := hG.step hg
  clear xc0 xc1 xc2 yc0 yc1 yc2 hg
  obtain ⟨xc0, xc1, xc2, -, -, -, -, -⟩ := id hX
  obtain ⟨yc0, yc1, yc2, -, -, -, -, -⟩ := id hY
  go_wp2_with fail
  refine (mul_128 _ _ _ (HC.out.gr hG) (HB.out.gr hG) lC lB).mono ?_
  rintro e w2 ⟨vr, rfl, hr, hg⟩
  replace hl := hl.gr hg
  replace hX := hX.gr hg
  replace hY := hY.gr hg
  replace hG := hG.step hg
  clear xc0 xc1 xc2 yc0 yc1 yc2 hg
  obtain ⟨xc0, xc1, xc2, -, -, -, -, -⟩ := id hX
  obtain ⟨yc0, yc1, yc2, -, -, -, -, -⟩ := id hY
  go_wp2_with fail
  go_ret2
  exact ⟨_, _, rfl, hl, hr, hG⟩
set_option maxHeartbeats 2000000 in
theorem fmul_any {a b : Rat} (v u : Value) (w : World) (ha : Fra w v a) (hb : Fra w u b) :
    Calls Tryz.prog 13 #[v, u] w (FRes w (a * b)) := by
  obtain ⟨x, va, vb, A, B, rfl, hA, hB, hB0, hx, lA, lB, rfl⟩ := ha
  obtain ⟨y, vc, vd, C, D, rfl, hC, hD, hD0, hy, lC, lD, rfl⟩ := hb
  rw [rat_mul]
  have HA := Lib.hid hA
  have HB := Lib.hid hB
  have HC := Lib.hid hC
  have HD := Lib.hid hD
  obtain ⟨aa, ca, rfl⟩ := num_slice hA
  obtain ⟨ab, cb, rfl⟩ := num_slice hB
  obtain ⟨ac, cc, rfl⟩ := num_slice hC
  obtain ⟨ad, cd, rfl⟩ := num_slice hD
  clear hA hB hC hD
  have hX0 := C3.new w (.bool x) (.slice aa (nd A).length ca) (.slice ab (nd B).length cb) 29 w.heap.size rfl
  have hX1 := hX0.gr (Gr.alloc (Gr.refl _) (.cells #[.bool y, .slice ac (nd C).length cc, .slice ad (nd D).length cd] 29))
  have hY1 := C3.new (w.alloc (.cells #[.bool x, .slice aa (nd A).length ca, .slice ab (nd B).length cb] 29)) (.bool y) (.slice ac (nd C).length cc) (.slice ad (nd D).length cd) 29 (w.heap.size + 1) (by simp)
  have hG1 : Gr w ((w.alloc (.cells #[.bool x, .slice aa (nd A).length ca, .slice ab (nd B).length cb] 29)).alloc (.cells #[.bool y, .slice ac (nd C).length cc, .slice ad (nd D).length cd] 29)) := (Gr.alloc (Gr.refl _) _).alloc _
  have HB0 := Lib.hid hB0
  have HD0 := Lib.hid hD0
  have HX := Lib.hid hx
  have HY := Lib.hid hy
  have HBD := Lib.hid (Nat.mul_pos hB0 hD0)
  have l1 : (nd (A * C)).length ≤ 256 := by have := nd_mul' lA lC; omega
  have l2 : (nd (B * D)).length ≤ 256 := by have := nd_mul' lB lD; omega
  clear hB0 hD0 hx hy
  rw [bne_bool]
  go_enter Tryz.func13, Tryz.ntmps13
  go_wp2_with fail
  clear hX0
  have hsz : ((w.alloc (.cells #[.bool x, .slice aa (nd A).length ca, .slice ab (nd B).length cb] 29)).alloc (.cells #[.bool y, .slice ac (nd C).length cc, .slice ad (nd D).length cd] 29)).heap.size = w.heap.size + 1 + 1 := by simp
  generalize (w.alloc (.cells #[.bool x, .slice aa (nd A).length ca, .slice ab (nd B).length cb] 29)).alloc (.cells #[.bool y, .slice ac (nd C).length cc, .slice ad (nd D).length cd] 29) = W1 at *
  have hR := C3.new W1 (.bool false) (.slice none 0 0) (.slice none 0 0) 29 (w.heap.size + 1 + 1) hsz.symm
  have hX := hX1.gr (Gr.alloc (Gr.refl _) (.cells #[.bool false, .slice none 0 0, .slice none 0 0] 29))
  have hY := hY1.gr (Gr.alloc (Gr.refl _) (.cells #[.bool false, .slice none 0 0, .slice none 0 0] 29))
  have hG := hG1.alloc (.cells #[.bool false, .slice none 0 0, .slice none 0 0] 29)
  clear hX1 hY1 hG1 hsz
  generalize W1.alloc (.cells #[.bool false, .slice none 0 0, .slice none 0 0] 29) = W0 at *
  obtain ⟨xc0, xc1, xc2, -, -, -, -, -⟩ := id hX
  obtain ⟨yc0, yc1, yc2, -, -, -, -, -⟩ := id hY
  refine (fvalid_yes x _ _ _ (HA.out.gr hG) (HB.out.gr hG) HB0.out HX.out lA lB).mono ?_
  rintro e w1 ⟨rfl, hg⟩
  replace hR := hR.gr hg
  replace hX := hX.gr hg
  replace hY := hY.gr hg
  replace hG := hG.step hg
  clear xc0 xc1 xc2 yc0 yc1 yc2 hg
  obtain ⟨xc0, xc1, xc2, -, -, -, -, -⟩ := id hX
  obtain ⟨yc0, yc1, yc2, -, -, -, -, -⟩ := id hY
  go_wp2_with fail
  refine (fvalid_yes y _ _ _ (HC.out.gr hG) (HD.out.gr hG) HD0.out HY.out lC lD).mono ?_
  rintro e w2 ⟨rfl, hg⟩
  replace hR := hR.gr hg
  replace hX := hX.gr hg
  replace hY := hY.gr hg
  replace hG := hG.step hg
  clear xc0 xc1 xc2 yc0 yc1 yc2 hg
  obtain ⟨xc0, xc1, xc2, -, -, -, -, -⟩ := id hX
  obtain ⟨yc0, yc1, yc2, -, -, -, -, -⟩ := id hY
  go_wp2_with fail
  refine (mul_128 _ _ _ (HA.out.gr hG) (HC.out.gr hG) lA lC).mono ?_
  rintro e w3 ⟨vl, rfl, hl, hg⟩
  replace hR := hR.gr hg
  replace hX := hX.gr hg
  replace hY := hY.gr hg
  replace hG := hG.step hg
  clear xc0 xc1 xc2 yc0 yc1 yc2 hg
  obtain ⟨xc0, xc1, xc2, -, -, -, -, -⟩ := id hX
  obtain ⟨yc0, yc1, yc2, -, -, -, -, -⟩ := id hY
  go_wp2_with fail
  refine (mul_128 _ _ _ (HB.out.gr hG) (HD.out.gr hG) lB lD).mono ?_
  rintro e w4 ⟨vr, rfl, hr, hg⟩
  replace hl := hl.gr hg
  replace hR := hR.gr hg
  replace hX := hX.gr hg
  replace hY := hY.gr hg
  replace hG := hG.step hg
  clear xc0 xc1 xc2 yc0 yc1 yc2 hg
  obtain ⟨xc0, xc1, xc2, -, -, -, -, -⟩ := id hX
  obtain ⟨yc0, yc1, yc2, -, -, -, -, -⟩ := id hY
  go_wp2_with fail
  refine (lowest_any (!x == y) _ _ _ hl hr HBD.out l1 l2).mono ?_
  intro e w5 hres
  obtain ⟨b, a1, a2, n1, n2, c1, c2, er, rfl, hres, hg⟩ := hres.form
  have HRES := Lib.hid hres
  replace hR := hR.gr hg
  replace hG := hG.step hg
  have hfl := hR.fill b a1 a2 n1 n2 c1 c2
  obtain ⟨sc0, sc1, sc2, -, -, -, -, -⟩ := hfl.1
  obtain ⟨rc0, rc1, rc2, rf0, rf1, rf2, rlt, -⟩ := id hR
  clear hres hg
  go_wp2_with fail
  refine bodyPost_ret (v := .tuple #[.agg #[.bool b, .slice a1 n1 c1, .slice a2 n2 c2], .int .i64 er]) (by simp [results, Tryz.results13, go_sem, sc0, sc1, sc2]) rfl ?_
  exact ⟨_, er, rfl, HRES.out.imp (fun h => ⟨h.1, h.2.1, hR.red b a1 a2 n1 n2 c1 c2 h.2.2⟩) id, C3.three hG (by omega) _ _ _⟩
set_option maxHeartbeats 2000000 in
theorem fdiv_any {a b : Rat} (v u : Value) (w : World) (ha : Fra w v a) (hb : Fra w u b) (hb0 : b ≠ 0) :
    Calls Tryz.prog 17 #[v, u] w (FRes w (a / b)) := by
  obtain ⟨x, va, vb, A, B, rfl, hA, hB, hB0, hx, lA, lB, rfl⟩ := ha
  obtain ⟨y, vc, vd, C, D, rfl, hC, hD, hD0, hy, lC, lD, rfl⟩ := hb
  have hC0 : 0 < C := Nat.pos_of_ne_zero fun h => hb0 ((rat_eq_zero hD0).2 h)
  rw [rat_div hD0 hC0, bne_bool]
  have hcl : 0 < (nd C).length := by rw [nd_pos hC0]; simp
  have d1 : (((nd C).length : Int) == 0) = false := by rw [beq_eq_false_iff_ne]; omega
  have HCB := Lib.hid (Nat.mul_pos hC0 hB0)
  clear hb0 hC0
  have HA := Lib.hid hA
  have HB := Lib.hid hB
  have HC := Lib.hid hC
  have HD := Lib.hid hD
  obtain ⟨aa, ca, rfl⟩ := num_slice hA
  obtain ⟨ab, cb, rfl⟩ := num_slice hB
  obtain ⟨ac, cc, rfl⟩ := num_slice hC
  obtain ⟨ad, cd, rfl⟩ := num_slice hD
  clear hA hB hC hD
  have hX0 := C3.new w (.bool x) (.slice aa (nd A).length ca) (.slice ab (nd B).length cb) 29 w.heap.size rfl
  have hX1 := hX0.gr (Gr.alloc (Gr.refl _) (.cells #[.bool y, .slice ac (nd C).length cc, .slice ad (nd D).length cd] 29))
  have hY1 := C3.new (w.alloc (.cells #[.bool x, .slice aa (nd A).length ca, .slice ab (nd B).length cb] 29)) (.bool y) (.slice ac (nd C).length cc) (.slice ad (nd D).length cd) 29 (w.heap.size + 1) (by simp)
  have hG1 : Gr w ((w.alloc (.cells #[.bool x, .slice aa (nd A).length ca, .slice ab (nd B).length cb] 29)).alloc (.cells #[.bool y, .slice ac (nd C).length cc, .slice ad (nd D).length cd] 29)) := (Gr.alloc (Gr.refl _) _).alloc _
  have HB0 := Lib.hid hB0
  have HD0 := Lib.hid hD0
  have HX := Lib.hid hx
  have HY := Lib.hid hy
  have HBD := Lib.hid (Nat.mul_pos hB0 hD0)
  have lp : (nd (A * D)).length ≤ 128 := by have := nd_mul' lA lD; omega
  have lq : (nd (C * B)).length ≤ 128 := by have := nd_mul' lC lB; omega
  have lr : (nd (B * D)).length ≤ 256 := by have := nd_mul' lB lD; omega
  clear hB0 hD0 hx hy
  go_enter Tryz.func17, Tryz.ntmps17
  go_wp2_with fail
  clear hX0
  have hsz : ((w.alloc (.cells #[.bool x, .slice aa (nd A).length ca, .slice ab (nd B).length cb] 29)).alloc (.cells #[.bool y, .slice ac (nd C).length cc, .slice ad (nd D).length cd] 29)).heap.size = w.heap.size + 1 + 1 := by simp
  generalize (w.alloc (.cells #[.bool x, .slice aa (nd A).length ca, .slice ab (nd B).length cb] 29)).alloc (.cells #[.bool y, .slice ac (nd C).length cc, .slice ad (nd D).length cd] 29) = W1 at *
  have hR := C3.new W1 (.bool false) (.slice none 0 0) (.slice none 0 0) 29 (w.heap.size + 1 + 1) hsz.symm
  have hX := hX1.gr (Gr.alloc (Gr.refl _) (.cells #[.bool false, .slice none 0 0, .slice none 0 0] 29))
  have hY := hY1.gr (Gr.alloc (Gr.refl _) (.cells #[.bool false, .slice none 0 0, .slice none 0 0] 29))
  have hG := hG1.alloc (.cells #[.bool false, .slice none 0 0, .slice none 0 0] 29)
  clear hX1 hY1 hG1 hsz
  generalize W1.alloc (.cells #[.bool false, .slice none 0 0, .slice none 0 0] 29) = W0 at *
  obtain ⟨xc0, xc1, xc2, -, -, -, -, -⟩ := id hX
  obtain ⟨yc0, yc1, yc2, -, -, -, -, -⟩ := id hY
  refine (fvalid_yes x _ _ _ (HA.out.gr hG) (HB.out.gr hG) HB0.out HX.out lA lB).mono ?_
  rintro e w1 ⟨rfl, hg⟩
  replace hR := hR.gr hg
  replace hX := hX.gr hg
  replace hY := hY.gr hg
  replace hG := hG.step hg
  clear xc0 xc1 xc2 yc0 yc1 yc2 hg
  obtain ⟨xc0, xc1, xc2, -, -, -, -, -⟩ := id hX
  obtain ⟨yc0, yc1, yc2, -, -, -, -, -⟩ := id hY
  go_wp2_with fail
  refine (fvalid_yes y _ _ _ (HC.out.gr hG) (HD.out.gr hG) HD0.out HY.out lC lD).mono ?_
  rintro e w2 ⟨rfl, hg⟩
  replace hR := hR.gr hg
  replace hX := hX.gr hg
  replace hY := hY.gr hg
  replace hG := hG.step hg
  clear xc0 xc1 xc2 yc0 yc1 yc2 hg
  obtain ⟨xc0, xc1, xc2, -, -, -, -, -⟩ := id hX
  obtain ⟨yc0, yc1, yc2, -, -, -, -, -⟩ := id hY
  go_wp2_with fail
  refine (crossed_any x y _ _ _ _ _ (HA.out.gr hG) (HB.out.gr hG) (HC.out.gr hG) (HD.out.gr hG) lA lB lC lD).mono ?_
  rintro e w3 ⟨vl, vr, rfl, hl, hr, hg⟩
  replace hR := hR.gr hg
  replace hX := hX.gr hg
  replace hY := hY.gr hg
  replace hG := hG.step hg
  clear xc0 xc1 xc2 yc0 yc1 yc2 hg
  obtain ⟨xc0, xc1, xc2, -, -, -, -, -⟩ := id hX
  obtain ⟨yc0, yc1, yc2, -, -, -, -, -⟩ := id hY
  go_wp2_with fail
  refine (lowest_any (!x == y) _ _ _ hl hr HCB.out (by omega) (by omega)).mono ?_
  intro e w5 hres
  obtain ⟨b, a1, a2, n1, n2, c1, c2, er, rfl, hres, hg⟩ := hres.form
  have HRES := Lib.hid hres
  replace hR := hR.gr hg
  replace hG := hG.step hg
  have hfl := hR.fill b a1 a2 n1 n2 c1 c2
  obtain ⟨sc0, sc1, sc2, -, -, -, -, -⟩ := hfl.1
  obtain ⟨rc0, rc1, rc2, rf0, rf1, rf2, rlt, -⟩ := id hR
  clear hres hg
  go_wp2_with fail
  refine bodyPost_ret (v := .tuple #[.agg #[.bool b, .slice a1 n1 c1, .slice a2 n2 c2], .int .i64 er]) (by simp [results, Tryz.results17, go_sem, sc0, sc1, sc2]) rfl ?_
  exact ⟨_, er, rfl, HRES.out.imp (fun h => ⟨h.1, h.2.1, hR.red b a1 a2 n1 n2 c1 c2 h.2.2⟩) id, C3.three hG (by omega) _ _ _⟩
set_option maxHeartbeats 2000000 in
theorem fdiv_zero {a : Rat} (v u : Value) (w : World) (ha : Fra w v a) (hb : Fra w u 0) :
    Calls Tryz.prog 17 #[v, u] w fun e w' => e = .returned (.tuple #[fzero, .int .i64 14]) ∧ Gr w w' := by
  obtain ⟨x, va, vb, A, B, rfl, hA, hB, hB0, hx, lA, lB, rfl⟩ := ha
  obtain ⟨y, vc, vd, C, D, rfl, hC, hD, hD0, hy, lC, lD, hr0⟩ := hb
  have hC0 : C = 0 := (rat_eq_zero hD0).1 hr0.symm
  have d1 : (((nd C).length : Int) == 0) = true := by rw [hC0, nd_zero]; rfl
  clear hr0 hC0
  have HA := Lib.hid hA
  have HB := Lib.hid hB
  have HC := Lib.hid hC
  have HD := Lib.hid hD
  obtain ⟨aa, ca, rfl⟩ := num_slice hA
  obtain ⟨ab, cb, rfl⟩ := num_slice hB
  obtain ⟨ac, cc, rfl⟩ := num_slice hC
  obtain ⟨ad, cd, rfl⟩ := num_slice hD
  clear hA hB hC hD
  have hX0 := C3.new w (.bool x) (.slice aa (nd A).length ca) (.slice ab (nd B).length cb) 29 w.heap.size rfl
  have hX1 := hX0.gr (Gr.alloc (Gr.refl _) (.cells #[.bool y, .slice ac (nd C).length cc, .slice ad (nd D).length cd] 29))
  have hY1 := C3.new (w.alloc (.cells #[.bool x, .slice aa (nd A).length ca, .slice ab (nd B).length cb] 29)) (.bool y) (.slice ac (nd C).length cc) (.slice ad (nd D).length cd) 29 (w.heap.size + 1) (by simp)
  have hG1 : Gr w ((w.alloc (.cells #[.bool x, .slice aa (nd A).length ca, .slice ab (nd B).length cb] 29)).alloc (.cells #[.bool y, .slice ac (nd C).length cc, .slice ad (nd D).length cd] 29)) := (Gr.alloc (Gr.refl _) _).alloc _
  have HB0 := Lib.hid hB0
  have HD0 := Lib.hid hD0
  have HX := Lib.hid hx
  have HY := Lib.hid hy
  have HBD := Lib.hid (Nat.mul_pos hB0 hD0)
  have lp : (nd (A * D)).length ≤ 128 := by have := nd_mul' lA lD; omega
  have lq : (nd (C * B)).length ≤ 128 := by have := nd_mul' lC lB; omega
  have lr : (nd (B * D)).length ≤ 256 := by have := nd_mul' lB lD; omega
  clear hB0 hD0 hx hy
  go_enter Tryz.func17, Tryz.ntmps17
  go_wp2_with fail
  clear hX0
  have hsz : ((w.alloc (.cells #[.bool x, .slice aa (nd A).length ca, .slice ab (nd B).length cb] 29)).alloc (.cells #[.bool y, .slice ac (nd C).length cc, .slice ad (nd D).length cd] 29)).heap.size = w.heap.size + 1 + 1 := by simp
  generalize (w.alloc (.cells #[.bool x, .slice aa (nd A).length ca, .slice ab (nd B).length cb] 29)).alloc (.cells #[.bool y, .slice ac (nd C).length cc, .slice ad (nd D).length cd] 29) = W1 at *
  have hR := C3.new W1 (.bool false) (.slice none 0 0) (.slice none 0 0) 29 (w.heap.size + 1 + 1) hsz.symm
  have hX := hX1.gr (Gr.alloc (Gr.refl _) (.cells #[.bool false, .slice none 0 0, .slice none 0 0] 29))
  have hY := hY1.gr (Gr.alloc (Gr.refl _) (.cells #[.bool false, .slice none 0 0, .slice none 0 0] 29))
  have hG := hG1.alloc (.cells #[.bool false, .slice none 0 0, .slice none 0 0] 29)
  clear hX1 hY1 hG1 hsz
  generalize W1.alloc (.cells #[.bool false, .slice none 0 0, .slice none 0 0] 29) = W0 at *
  obtain ⟨xc0, xc1, xc2, -, -, -, -, -⟩ := id hX
  obtain ⟨yc0, yc1, yc2, -, -, -, -, -⟩ := id hY
  refine (fvalid_yes x _ _ _ (HA.out.gr hG) (HB.out.gr hG) HB0.out HX.out lA lB).mono ?_
  rintro e w1 ⟨rfl, hg⟩
  replace hR := hR.gr hg
  replace hX := hX.gr hg
  replace hY := hY.gr hg
  replace hG := hG.step hg
  clear xc0 xc1 xc2 yc0 yc1 yc2 hg
  obtain ⟨xc0, xc1, xc2, -, -, -, -, -⟩ := id hX
  obtain ⟨yc0, yc1, yc2, -, -, -, -, -⟩ := id hY
  go_wp2_with fail
  refine (fvalid_yes y _ _ _ (HC.out.gr hG) (HD.out.gr hG) HD0.out HY.out lC lD).mono ?_
  rintro e w2 ⟨rfl, hg⟩
  replace hR := hR.gr hg
  replace hX := hX.gr hg
  replace hY := hY.gr hg
  replace hG := hG.step hg
  clear xc0 xc1 xc2 yc0 yc1 yc2 hg
  obtain ⟨xc0, xc1, xc2, -, -, -, -, -⟩ := id hX
  obtain ⟨yc0, yc1, yc2, -, -, -, -, -⟩ := id hY
  have hfl := hR.fill false none none 0 0 0 0
  obtain ⟨sc0, sc1, sc2, -, -, -, -, -⟩ := hfl.1
  obtain ⟨rc0, rc1, rc2, rf0, rf1, rf2, rlt, -⟩ := id hR
  go_wp2_with fail
  refine bodyPost_ret (v := .tuple #[fzero, .int .i64 14]) (by simp [results, Tryz.results17, go_sem, sc0, sc1, sc2, fzero]) rfl ?_
  exact ⟨rfl, C3.three hG (by omega) _ _ _⟩
end Go.Proofs.YtoaboflepfmkpaaGreatDoor
