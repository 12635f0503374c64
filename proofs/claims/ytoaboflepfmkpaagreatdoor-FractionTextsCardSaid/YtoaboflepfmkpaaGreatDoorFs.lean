/- Sub, Reduce, Same. -/
import Derived.Test.YtoaboflepfmkpaaGreatDoorFa
import Derived.Test.YtoaboflepfmkpaaGreatDoorNsm
import Derived.WalkKit
import Derived.WalkSpells
import Derived.WalkLawsBesides
import Derived.WalkSmall
import Derived.Handy
import Derived.BigQuiet
import Derived.Deep.QuietTactic
import Derived.Deep.RegionHeld3
import Derived.Deep.DeepFit
import Derived.Below
import Derived.Lib.Hide
import Derived.Lib.QuietBelow
namespace Go.Proofs.YtoaboflepfmkpaaGreatDoor
open Go Go.RowKit Go.Sort
set_option maxRecDepth 100000
set_option linter.unusedVariables false
set_option maxHeartbeats 2000000 in
theorem fsub_any {a b : Rat} (v u : Value) (w : World) (ha : Fra w v a) (hb : Fra w u b) :
    Calls Tryz.prog 14 #[v, u] w (FRes w (a - b)) := by
  obtain ⟨x, va, vb, A, B, rfl, hA, hB, hB0, hx, lA, lB, rfl⟩ := ha
  obtain ⟨y, vc, vd, C, D, rfl, hC, hD, hD0, hy, lC, lD, rfl⟩ := hb
  rw [Rat.sub_eq_add_neg, rat_opp hy]
  have hz : ∃ z : Bool, (!y && decide (0 < C)) = z := ⟨_, rfl⟩
  obtain ⟨z, hz⟩ := hz
  rw [hz]
  have HZ := Lib.hid hz
  clear hz
  cases y
  · by_cases h0 : 0 < C
    · obtain rfl : z = true := by rw [← HZ.out, decide_eq_true h0]; rfl
      have hnl : 0 < (nd C).length := by rw [nd_pos h0]; simp
      have d2 : decide (0 < (nd C).length) = true := by simpa using hnl
      have HNP := Lib.hid h0
      clear h0 hnl
      have HA := Lib.hid hA
      have HB := Lib.hid hB
      have HC := Lib.hid hC
      have HD := Lib.hid hD
      obtain ⟨aa, ca, rfl⟩ := num_slice hA
      obtain ⟨ab, cb, rfl⟩ := num_slice hB
      obtain ⟨ac, cc, rfl⟩ := num_slice hC
      obtain ⟨ad, cd, rfl⟩ := num_slice hD
      clear hA hB hC hD
      have hX0 := C3.new w (.bool x) (.slice aa (nd A).length ca) (.slice ab (nd B).length cb) 29 w.heap.size rfl
      have hX1 := hX0.gr (Gr.alloc (Gr.refl _) (.cells #[.bool false, .slice ac (nd C).length cc, .slice ad (nd D).length cd] 29))
      have hY1 := C3.new (w.alloc (.cells #[.bool x, .slice aa (nd A).length ca, .slice ab (nd B).length cb] 29)) (.bool false) (.slice ac (nd C).length cc) (.slice ad (nd D).length cd) 29 (w.heap.size + 1) (by simp)
      have hG1 : Gr w ((w.alloc (.cells #[.bool x, .slice aa (nd A).length ca, .slice ab (nd B).length cb] 29)).alloc (.cells #[.bool false, .slice ac (nd C).length cc, .slice ad (nd D).length cd] 29)) := (Gr.alloc (Gr.refl _) _).alloc _
      have HB0 := Lib.hid hB0
      have HD0 := Lib.hid hD0
      have HX := Lib.hid hx
      have HY := Lib.hid hy
      have HBD := Lib.hid (Nat.mul_pos hB0 hD0)
      have lp : (nd (A * D)).length ≤ 128 := by have := nd_mul' lA lD; omega
      have lq : (nd (C * B)).length ≤ 128 := by have := nd_mul' lC lB; omega
      have lr : (nd (B * D)).length ≤ 256 := by have := nd_mul' lB lD; omega
      clear hB0 hD0 hx hy
      go_enter Tryz.func14, Tryz.ntmps14
      go_wp2_with fail
      clear hX0
      have hsz : ((w.alloc (.cells #[.bool x, .slice aa (nd A).length ca, .slice ab (nd B).length cb] 29)).alloc (.cells #[.bool false, .slice ac (nd C).length cc, .slice ad (nd D).length cd] 29)).heap.size = w.heap.size + 1 + 1 := by simp
      generalize (w.alloc (.cells #[.bool x, .slice aa (nd A).length ca, .slice ab (nd B).length cb] 29)).alloc (.cells #[.bool false, .slice ac (nd C).length cc, .slice ad (nd D).length cd] 29) = W1 at *
      have hR := C3.new W1 (.bool false) (.slice none 0 0) (.slice none 0 0) 29 (w.heap.size + 1 + 1) hsz.symm
      have hX := hX1.gr (Gr.alloc (Gr.refl _) (.cells #[.bool false, .slice none 0 0, .slice none 0 0] 29))
      have hY := hY1.gr (Gr.alloc (Gr.refl _) (.cells #[.bool false, .slice none 0 0, .slice none 0 0] 29))
      have hG := hG1.alloc (.cells #[.bool false, .slice none 0 0, .slice none 0 0] 29)
      clear hX1 hY1 hG1 hsz
      generalize W1.alloc (.cells #[.bool false, .slice none 0 0, .slice none 0 0] 29) = W0 at *
      obtain ⟨xc0, xc1, xc2, -, -, -, -, -⟩ := id hX
      obtain ⟨yc0, yc1, yc2, -, -, -, -, -⟩ := id hY
      refine (fvalid_yes false _ _ _ (HC.out.gr hG) (HD.out.gr hG) HD0.out (fun h => by cases h) lC lD).mono ?_
      rintro e w1 ⟨rfl, hg⟩
      replace hR := hR.gr hg
      replace hX := hX.gr hg
      replace hY := hY.gr hg
      replace hG := hG.step hg
      clear xc0 xc1 xc2 yc0 yc1 yc2 hg
      obtain ⟨xc0, xc1, xc2, -, -, -, -, -⟩ := id hX
      obtain ⟨yc0, yc1, yc2, -, -, -, -, -⟩ := id hY
      have hY2 := hY.set0 (.bool true)
      have hX2 := hX.other (o := 0) (.bool true) (s := w.heap.size + 1) (by omega)
      have hR2 := hR.other (o := 0) (.bool true) (s := w.heap.size + 1) (by omega)
      obtain ⟨-, -, -, yf0, yf1, yf2, ylt, -⟩ := id hY
      obtain ⟨zc0, zc1, zc2, -, -, -, -, -⟩ := id hY2
      obtain ⟨qc0, qc1, qc2, -, -, -, -, -⟩ := id hX2
      have hG2 := hG.setCell (p := ⟨w.heap.size + 1, 0, none⟩) (by simp) (.bool true)
      go_wp2_with fail
      clear xc0 xc1 xc2 yc0 yc1 yc2 yf0 yf1 yf2 ylt
      generalize w1.setCell ⟨w.heap.size + 1, 0, none⟩ (.bool true) = w2 at *
      have fa : Fra w2 (.agg #[.bool x, .slice aa (nd A).length ca, .slice ab (nd B).length cb]) (rat x A B) := ⟨x, _, _, A, B, rfl, HA.out.gr hG2, HB.out.gr hG2, HB0.out, HX.out, lA, lB, rfl⟩
      have fb : Fra w2 (.agg #[.bool true, .slice ac (nd C).length cc, .slice ad (nd D).length cd]) (rat true C D) := ⟨true, _, _, C, D, rfl, HC.out.gr hG2, HD.out.gr hG2, HD0.out, (fun _ => HNP.out), lC, lD, rfl⟩
      refine (fadd_any _ _ _ fa fb).mono ?_
      intro e w5 hres
      have hR := hR2
      have hG := hG2
      obtain ⟨b, a1, a2, n1, n2, c1, c2, er, rfl, hres, hg⟩ := hres.form
      have HRES := Lib.hid hres
      replace hR := hR.gr hg
      replace hG := hG.step hg
      have hfl := hR.fill b a1 a2 n1 n2 c1 c2
      obtain ⟨sc0, sc1, sc2, -, -, -, -, -⟩ := hfl.1
      obtain ⟨rc0, rc1, rc2, rf0, rf1, rf2, rlt, -⟩ := id hR
      clear hres hg
      go_wp2_with fail
      refine bodyPost_ret (v := .tuple #[.agg #[.bool b, .slice a1 n1 c1, .slice a2 n2 c2], .int .i64 er]) (by simp [results, Tryz.results14, go_sem, sc0, sc1, sc2]) rfl ?_
      exact ⟨_, er, rfl, HRES.out.imp (fun h => ⟨h.1, h.2.1, hR.red b a1 a2 n1 n2 c1 c2 h.2.2⟩) id, C3.three hG (by omega) _ _ _⟩
    · obtain rfl : z = false := by rw [← HZ.out, decide_eq_false h0]; rfl
      have hnl : (nd C).length = 0 := by rw [show C = 0 by omega, nd_zero]; rfl
      have d2 : decide (0 < (nd C).length) = false := by rw [hnl]; rfl
      clear h0 hnl
      have HA := Lib.hid hA
      have HB := Lib.hid hB
      have HC := Lib.hid hC
      have HD := Lib.hid hD
      obtain ⟨aa, ca, rfl⟩ := num_slice hA
      obtain ⟨ab, cb, rfl⟩ := num_slice hB
      obtain ⟨ac, cc, rfl⟩ := num_slice hC
      obtain ⟨ad, cd, rfl⟩ := num_slice hD
      clear hA hB hC hD
      have hX0 := C3.new w (.bool x) (.slice aa (nd A).length ca) (.slice ab (nd B).length cb) 29 w.heap.size rfl
      have hX1 := hX0.gr (Gr.alloc (Gr.refl _) (.cells #[.bool false, .slice ac (nd C).length cc, .slice ad (nd D).length cd] 29))
      have hY1 := C3.new (w.alloc (.cells #[.bool x, .slice aa (nd A).length ca, .slice ab (nd B).length cb] 29)) (.bool false) (.slice ac (nd C).length cc) (.slice ad (nd D).length cd) 29 (w.heap.size + 1) (by simp)
      have hG1 : Gr w ((w.alloc (.cells #[.bool x, .slice aa (nd A).length ca, .slice ab (nd B).length cb] 29)).alloc (.cells #[.bool false, .slice ac (nd C).length cc, .slice ad (nd D).length cd] 29)) := (Gr.alloc (Gr.refl _) _).alloc _
      have HB0 := Lib.hid hB0
      have HD0 := Lib.hid hD0
      have HX := Lib.hid hx
      have HY := Lib.hid hy
      have HBD := Lib.hid (Nat.mul_pos hB0 hD0)
      have lp : (nd (A * D)).length ≤ 128 := by have := nd_mul' lA lD; omega
      have lq : (nd (C * B)).length ≤ 128 := by have := nd_mul' lC lB; omega
      have lr : (nd (B * D)).length ≤ 256 := by have := nd_mul' lB lD; omega
      clear hB0 hD0 hx hy
      go_enter Tryz.func14, Tryz.ntmps14
      go_wp2_with fail
      clear hX0
      have hsz : ((w.alloc (.cells #[.bool x, .slice aa (nd A).length ca, .slice ab (nd B).length cb] 29)).alloc (.cells #[.bool false, .slice ac (nd C).length cc, .slice ad (nd D).length cd] 29)).heap.size = w.heap.size + 1 + 1 := by simp
      generalize (w.alloc (.cells #[.bool x, .slice aa (nd A).length ca, .slice ab (nd B).length cb] 29)).alloc (.cells #[.bool false, .slice ac (nd C).length cc, .slice ad (nd D).length cd] 29) = W1 at *
      have hR := C3.new W1 (.bool false) (.slice none 0 0) (.slice none 0 0) 29 (w.heap.size + 1 + 1) hsz.symm
      have hX := hX1.gr (Gr.alloc (Gr.refl _) (.cells #[.bool false, .slice none 0 0, .slice none 0 0] 29))
      have hY := hY1.gr (Gr.alloc (Gr.refl _) (.cells #[.bool false, .slice none 0 0, .slice none 0 0] 29))
      have hG := hG1.alloc (.cells #[.bool false, .slice none 0 0, .slice none 0 0] 29)
      clear hX1 hY1 hG1 hsz
      generalize W1.alloc (.cells #[.bool false, .slice none 0 0, .slice none 0 0] 29) = W0 at *
      obtain ⟨xc0, xc1, xc2, -, -, -, -, -⟩ := id hX
      obtain ⟨yc0, yc1, yc2, -, -, -, -, -⟩ := id hY
      refine (fvalid_yes false _ _ _ (HC.out.gr hG) (HD.out.gr hG) HD0.out (fun h => by cases h) lC lD).mono ?_
      rintro e w1 ⟨rfl, hg⟩
      replace hR := hR.gr hg
      replace hX := hX.gr hg
      replace hY := hY.gr hg
      replace hG := hG.step hg
      clear xc0 xc1 xc2 yc0 yc1 yc2 hg
      obtain ⟨xc0, xc1, xc2, -, -, -, -, -⟩ := id hX
      obtain ⟨yc0, yc1, yc2, -, -, -, -, -⟩ := id hY
      have hY2 := hY.set0 (.bool false)
      have hX2 := hX.other (o := 0) (.bool false) (s := w.heap.size + 1) (by omega)
      have hR2 := hR.other (o := 0) (.bool false) (s := w.heap.size + 1) (by omega)
      obtain ⟨-, -, -, yf0, yf1, yf2, ylt, -⟩ := id hY
      obtain ⟨zc0, zc1, zc2, -, -, -, -, -⟩ := id hY2
      obtain ⟨qc0, qc1, qc2, -, -, -, -, -⟩ := id hX2
      have hG2 := hG.setCell (p := ⟨w.heap.size + 1, 0, none⟩) (by simp) (.bool false)
      go_wp2_with fail
      clear xc0 xc1 xc2 yc0 yc1 yc2 yf0 yf1 yf2 ylt
      generalize w1.setCell ⟨w.heap.size + 1, 0, none⟩ (.bool false) = w2 at *
      have fa : Fra w2 (.agg #[.bool x, .slice aa (nd A).length ca, .slice ab (nd B).length cb]) (rat x A B) := ⟨x, _, _, A, B, rfl, HA.out.gr hG2, HB.out.gr hG2, HB0.out, HX.out, lA, lB, rfl⟩
      have fb : Fra w2 (.agg #[.bool false, .slice ac (nd C).length cc, .slice ad (nd D).length cd]) (rat false C D) := ⟨false, _, _, C, D, rfl, HC.out.gr hG2, HD.out.gr hG2, HD0.out, (fun h => by cases h), lC, lD, rfl⟩
      refine (fadd_any _ _ _ fa fb).mono ?_
      intro e w5 hres
      have hR := hR2
      have hG := hG2
      obtain ⟨b, a1, a2, n1, n2, c1, c2, er, rfl, hres, hg⟩ := hres.form
      have HRES := Lib.hid hres
      replace hR := hR.gr hg
      replace hG := hG.step hg
      have hfl := hR.fill b a1 a2 n1 n2 c1 c2
      obtain ⟨sc0, sc1, sc2, -, -, -, -, -⟩ := hfl.1
      obtain ⟨rc0, rc1, rc2, rf0, rf1, rf2, rlt, -⟩ := id hR
      clear hres hg
      go_wp2_with fail
      refine bodyPost_ret (v := .tuple #[.agg #[.bool b, .slice a1 n1 c1, .slice a2 n2 c2], .int .i64 er]) (by simp [results, Tryz.results14, go_sem, sc0, sc1, sc2]) rfl ?_
      exact ⟨_, er, rfl, HRES.out.imp (fun h => ⟨h.1, h.2.1, hR.red b a1 a2 n1 n2 c1 c2 h.2.2⟩) id, C3.three hG (by omega) _ _ _⟩
  · obtain rfl : z = false := by rw [← HZ.out]; rfl
    have HA := Lib.hid hA
    have HB := Lib.hid hB
    have HC := Lib.hid hC
    have HD := Lib.hid hD
    obtain ⟨aa, ca, rfl⟩ := num_slice hA
    obtain ⟨ab, cb, rfl⟩ := num_slice hB
    obtain ⟨ac, cc, rfl⟩ := num_slice hC
    obtain ⟨ad, cd, rfl⟩ := num_slice hD
    clear hA hB hC hD
    have hX0 := C3.new w (.bool x) (.slice aa (nd A).length ca) (.slice ab (nd B).length cb) 29 w.heap.size rfl
    have hX1 := hX0.gr (Gr.alloc (Gr.refl _) (.cells #[.bool true, .slice ac (nd C).length cc, .slice ad (nd D).length cd] 29))
    have hY1 := C3.new (w.alloc (.cells #[.bool x, .slice aa (nd A).length ca, .slice ab (nd B).length cb] 29)) (.bool true) (.slice ac (nd C).length cc) (.slice ad (nd D).length cd) 29 (w.heap.size + 1) (by simp)
    have hG1 : Gr w ((w.alloc (.cells #[.bool x, .slice aa (nd A).length ca, .slice ab (nd B).length cb] 29)).alloc (.cells #[.bool true, .slice ac (nd C).length cc, .slice ad (nd D).length cd] 29)) := (Gr.alloc (Gr.refl _) _).alloc _
    have HB0 := Lib.hid hB0
    have HD0 := Lib.hid hD0
    have HX := Lib.hid hx
    have HY := Lib.hid hy
    have HBD := Lib.hid (Nat.mul_pos hB0 hD0)
    have lp : (nd (A * D)).length ≤ 128 := by have := nd_mul' lA lD; omega
    have lq : (nd (C * B)).length ≤ 128 := by have := nd_mul' lC lB; omega
    have lr : (nd (B * D)).length ≤ 256 := by have := nd_mul' lB lD; omega
    clear hB0 hD0 hx hy
    go_enter Tryz.func14, Tryz.ntmps14
    go_wp2_with fail
    clear hX0
    have hsz : ((w.alloc (.cells #[.bool x, .slice aa (nd A).length ca, .slice ab (nd B).length cb] 29)).alloc (.cells #[.bool true, .slice ac (nd C).length cc, .slice ad (nd D).length cd] 29)).heap.size = w.heap.size + 1 + 1 := by simp
    generalize (w.alloc (.cells #[.bool x, .slice aa (nd A).length ca, .slice ab (nd B).length cb] 29)).alloc (.cells #[.bool true, .slice ac (nd C).length cc, .slice ad (nd D).length cd] 29) = W1 at *
    have hR := C3.new W1 (.bool false) (.slice none 0 0) (.slice none 0 0) 29 (w.heap.size + 1 + 1) hsz.symm
    have hX := hX1.gr (Gr.alloc (Gr.refl _) (.cells #[.bool false, .slice none 0 0, .slice none 0 0] 29))
    have hY := hY1.gr (Gr.alloc (Gr.refl _) (.cells #[.bool false, .slice none 0 0, .slice none 0 0] 29))
    have hG := hG1.alloc (.cells #[.bool false, .slice none 0 0, .slice none 0 0] 29)
    clear hX1 hY1 hG1 hsz
    generalize W1.alloc (.cells #[.bool false, .slice none 0 0, .slice none 0 0] 29) = W0 at *
    obtain ⟨xc0, xc1, xc2, -, -, -, -, -⟩ := id hX
    obtain ⟨yc0, yc1, yc2, -, -, -, -, -⟩ := id hY
    refine (fvalid_yes true _ _ _ (HC.out.gr hG) (HD.out.gr hG) HD0.out (fun _ => HY.out trivial) lC lD).mono ?_
    rintro e w1 ⟨rfl, hg⟩
    replace hR := hR.gr hg
    replace hX := hX.gr hg
    replace hY := hY.gr hg
    replace hG := hG.step hg
    clear xc0 xc1 xc2 yc0 yc1 yc2 hg
    obtain ⟨xc0, xc1, xc2, -, -, -, -, -⟩ := id hX
    obtain ⟨yc0, yc1, yc2, -, -, -, -, -⟩ := id hY
    have hY2 := hY.set0 (.bool false)
    have hX2 := hX.other (o := 0) (.bool false) (s := w.heap.size + 1) (by omega)
    have hR2 := hR.other (o := 0) (.bool false) (s := w.heap.size + 1) (by omega)
    obtain ⟨-, -, -, yf0, yf1, yf2, ylt, -⟩ := id hY
    obtain ⟨zc0, zc1, zc2, -, -, -, -, -⟩ := id hY2
    obtain ⟨qc0, qc1, qc2, -, -, -, -, -⟩ := id hX2
    have hG2 := hG.setCell (p := ⟨w.heap.size + 1, 0, none⟩) (by simp) (.bool false)
    go_wp2_with fail
    clear xc0 xc1 xc2 yc0 yc1 yc2 yf0 yf1 yf2 ylt
    generalize w1.setCell ⟨w.heap.size + 1, 0, none⟩ (.bool false) = w2 at *
    have fa : Fra w2 (.agg #[.bool x, .slice aa (nd A).length ca, .slice ab (nd B).length cb]) (rat x A B) := ⟨x, _, _, A, B, rfl, HA.out.gr hG2, HB.out.gr hG2, HB0.out, HX.out, lA, lB, rfl⟩
    have fb : Fra w2 (.agg #[.bool false, .slice ac (nd C).length cc, .slice ad (nd D).length cd]) (rat false C D) := ⟨false, _, _, C, D, rfl, HC.out.gr hG2, HD.out.gr hG2, HD0.out, (fun h => by cases h), lC, lD, rfl⟩
    refine (fadd_any _ _ _ fa fb).mono ?_
    intro e w5 hres
    have hR := hR2
    have hG := hG2
    obtain ⟨b, a1, a2, n1, n2, c1, c2, er, rfl, hres, hg⟩ := hres.form
    have HRES := Lib.hid hres
    replace hR := hR.gr hg
    replace hG := hG.step hg
    have hfl := hR.fill b a1 a2 n1 n2 c1 c2
    obtain ⟨sc0, sc1, sc2, -, -, -, -, -⟩ := hfl.1
    obtain ⟨rc0, rc1, rc2, rf0, rf1, rf2, rlt, -⟩ := id hR
    clear hres hg
    go_wp2_with fail
    refine bodyPost_ret (v := .tuple #[.agg #[.bool b, .slice a1 n1 c1, .slice a2 n2 c2], .int .i64 er]) (by simp [results, Tryz.results14, go_sem, sc0, sc1, sc2]) rfl ?_
    exact ⟨_, er, rfl, HRES.out.imp (fun h => ⟨h.1, h.2.1, hR.red b a1 a2 n1 n2 c1 c2 h.2.2⟩) id, C3.three hG (by omega) _ _ _⟩
set_option maxHeartbeats 2000000 in
theorem freduce_any {a : Rat} (v : Value) (w : World) (ha : Fra w v a) :
    Calls Tryz.prog 16 #[v] w fun e w' => ∃ u, e = .returned u ∧ Red w' u a ∧ Bd 64 a ∧ Gr w w' := by
  obtain ⟨x, va, vb, A, B, rfl, hA, hB, hB0, hx, lA, lB, rfl⟩ := ha
  have hbd := bd_rat (x := x) hB0 lA lB
  have HBD := Lib.hid hbd
  have HA := Lib.hid hA
  have HB := Lib.hid hB
  have HB0 := Lib.hid hB0
  have HX := Lib.hid hx
  obtain ⟨aa, ca, rfl⟩ := num_slice hA
  obtain ⟨ab, cb, rfl⟩ := num_slice hB
  clear hA hB hB0 hx hbd
  have hX0 := C3.new w (.bool x) (.slice aa (nd A).length ca) (.slice ab (nd B).length cb) 29 w.heap.size rfl
  have hX1 := hX0.gr (Gr.alloc (Gr.refl _) (.cells #[.bool false, .slice none 0 0, .slice none 0 0] 29))
  have hR1 := C3.new (w.alloc (.cells #[.bool x, .slice aa (nd A).length ca, .slice ab (nd B).length cb] 29)) (.bool false) (.slice none 0 0) (.slice none 0 0) 29 (w.heap.size + 1) (by simp)
  have hG1 : Gr w ((w.alloc (.cells #[.bool x, .slice aa (nd A).length ca, .slice ab (nd B).length cb] 29)).alloc (.cells #[.bool false, .slice none 0 0, .slice none 0 0] 29)) := (Gr.alloc (Gr.refl _) _).alloc _
  clear hX0
  go_enter Tryz.func16, Tryz.ntmps16
  go_wp2_with fail
  generalize (w.alloc (.cells #[.bool x, .slice aa (nd A).length ca, .slice ab (nd B).length cb] 29)).alloc (.cells #[.bool false, .slice none 0 0, .slice none 0 0] 29) = W0 at *
  refine (fvalid_yes x _ _ _ (HA.out.gr hG1) (HB.out.gr hG1) HB0.out HX.out lA lB).mono ?_
  rintro e w1 ⟨rfl, hg⟩
  have hX := hX1.gr hg
  have hR := hR1.gr hg
  have hG := hG1.step hg
  obtain ⟨xc0, xc1, xc2, -, -, -, -, -⟩ := id hX
  clear hX1 hR1 hG1 hg
  go_wp2_with fail
  refine (lowest_any x _ _ _ (HA.out.gr hG) (HB.out.gr hG) HB0.out (by omega) (by omega)).mono ?_
  intro e w2 hres
  obtain ⟨b, a1, a2, n1, n2, c1, c2, er, rfl, hres, hg⟩ := hres.form
  have hR := hR.gr hg
  have hG := hG.step hg
  have HRED := Lib.hid (hres.resolve_right (fun h => h.1 HBD.out)).2.2
  have hF := C3.new w2 (.bool b) (.slice a1 n1 c1) (.slice a2 n2 c2) 29 w2.heap.size rfl
  have hR2 := hR.gr (Gr.alloc (Gr.refl w2) (.cells #[.bool b, .slice a1 n1 c1, .slice a2 n2 c2] 29))
  have hG2 := hG.alloc (.cells #[.bool b, .slice a1 n1 c1, .slice a2 n2 c2] 29)
  have HRED2 := Lib.hid (HRED.out.gr (Gr.alloc (Gr.refl w2) (.cells #[.bool b, .slice a1 n1 c1, .slice a2 n2 c2] 29)))
  obtain ⟨fc0, fc1, fc2, -, -, -, -, -⟩ := id hF
  obtain ⟨rc0, rc1, rc2, rf0, rf1, rf2, rlt, -⟩ := id hR2
  have hfl := hR2.fill b a1 a2 n1 n2 c1 c2
  obtain ⟨sc0, sc1, sc2, -, -, -, -, -⟩ := hfl.1
  clear hres hg
  go_wp2_with fail
  refine bodyPost_ret (v := .agg #[.bool b, .slice a1 n1 c1, .slice a2 n2 c2]) (by simp [results, Tryz.results16, go_sem, sc0, sc1, sc2]) rfl ?_
  exact ⟨_, rfl, hR2.red b a1 a2 n1 n2 c1 c2 HRED2.out, HBD.out, C3.three hG2 (by omega) _ _ _⟩
set_option maxHeartbeats 2000000 in
/-- Same at reduced fractions of one value -/
theorem fsame_yes {r : Rat} (v u : Value) (w : World) (ha : Red w v r) (hb : Red w u r) (hbd : Bd 64 r) :
    Calls Tryz.prog 15 #[v, u] w fun e w' => e = .returned (.bool true) ∧ Gr w w' := by
  obtain ⟨va, vb, rfl, hA, hB⟩ := ha
  obtain ⟨vc, vd, rfl, hC, hD⟩ := hb
  obtain ⟨lA, lB⟩ := hbd
  generalize decide (r.num < 0) = x at *
  generalize r.num.natAbs = A at *
  generalize r.den = B at *
  obtain ⟨C, hAC⟩ : ∃ C, C = A := ⟨_, rfl⟩
  obtain ⟨D, hBD⟩ : ∃ D, D = B := ⟨_, rfl⟩
  rw [← hAC] at hC
  rw [← hBD] at hD
  have HAC := Lib.hid hAC
  have HBD := Lib.hid hBD
  clear hAC hBD
  have HA := Lib.hid hA
  have HB := Lib.hid hB
  have HC := Lib.hid hC
  have HD := Lib.hid hD
  obtain ⟨aa, ca, rfl⟩ := num_slice hA
  obtain ⟨ab, cb, rfl⟩ := num_slice hB
  obtain ⟨ac, cc, rfl⟩ := num_slice hC
  obtain ⟨ad, cd, rfl⟩ := num_slice hD
  clear hA hB hC hD
  have hX0 := C3.new w (.bool x) (.slice aa (nd A).length ca) (.slice ab (nd B).length cb) 29 w.heap.size rfl
  have hX1 := hX0.gr (Gr.alloc (Gr.refl _) (.cells #[.bool x, .slice ac (nd C).length cc, .slice ad (nd D).length cd] 29))
  have hY1 := C3.new (w.alloc (.cells #[.bool x, .slice aa (nd A).length ca, .slice ab (nd B).length cb] 29)) (.bool x) (.slice ac (nd C).length cc) (.slice ad (nd D).length cd) 29 (w.heap.size + 1) (by simp)
  have hG1 : Gr w ((w.alloc (.cells #[.bool x, .slice aa (nd A).length ca, .slice ab (nd B).length cb] 29)).alloc (.cells #[.bool x, .slice ac (nd C).length cc, .slice ad (nd D).length cd] 29)) := (Gr.alloc (Gr.refl _) _).alloc _
  have dx : (x == x) = true := by cases x <;> rfl
  go_enter Tryz.func15, Tryz.ntmps15
  go_wp2_with fail
  clear hX0
  generalize (w.alloc (.cells #[.bool x, .slice aa (nd A).length ca, .slice ab (nd B).length cb] 29)).alloc (.cells #[.bool x, .slice ac (nd C).length cc, .slice ad (nd D).length cd] 29) = W0 at *
  have hX := hX1
  have hY := hY1
  have hG := hG1
  clear hX1 hY1 hG1
  obtain ⟨xc0, xc1, xc2, -, -, -, -, -⟩ := id hX
  obtain ⟨yc0, yc1, yc2, -, -, -, -, -⟩ := id hY
  refine (num_same (A := A) (B := C) _ _ _ (HA.out.gr hG) (HC.out.gr hG) HAC.out.symm (by omega)).mono ?_
  rintro e w1 ⟨rfl, hg⟩
  replace hX := hX.gr hg
  replace hY := hY.gr hg
  replace hG := hG.step hg
  clear xc0 xc1 xc2 yc0 yc1 yc2 hg
  obtain ⟨xc0, xc1, xc2, -, -, -, -, -⟩ := id hX
  obtain ⟨yc0, yc1, yc2, -, -, -, -, -⟩ := id hY
  go_wp2_with fail
  refine (num_same (A := B) (B := D) _ _ _ (HB.out.gr hG) (HD.out.gr hG) HBD.out.symm (by omega)).mono ?_
  rintro e w2 ⟨rfl, hg⟩
  replace hX := hX.gr hg
  replace hY := hY.gr hg
  replace hG := hG.step hg
  clear xc0 xc1 xc2 yc0 yc1 yc2 hg
  obtain ⟨xc0, xc1, xc2, -, -, -, -, -⟩ := id hX
  obtain ⟨yc0, yc1, yc2, -, -, -, -, -⟩ := id hY
  go_wp2_with fail
  go_ret
  exact ⟨rfl, hG⟩
end Go.Proofs.YtoaboflepfmkpaaGreatDoor
