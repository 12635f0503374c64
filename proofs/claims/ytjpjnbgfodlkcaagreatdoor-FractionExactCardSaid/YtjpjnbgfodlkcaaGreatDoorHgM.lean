/- The document's Text of fractions. -/
import Derived.Test.YtjpjnbgfodlkcaaGreatDoorHfM
import Derived.WalkKit
import Derived.WalkSpells
import Derived.WalkLawsBesides
import Derived.WalkSmall
import Derived.Handy
import Derived.BigQuiet
import Derived.Deep.QuietTactic
import Derived.Deep.RegionHeld3
import Derived.Deep.DeepFit
import Derived.Below
import Derived.Lib.Hide
import Derived.Lib.QuietBelow
namespace Go.Proofs.YtjpjnbgfodlkcaaGreatDoor
open Go Go.RowKit Go.Sort
set_option maxRecDepth 100000
set_option linter.unusedVariables false
theorem num_first {w : World} {a : Option Addr} {n cap : Nat} {N : Nat} (h : Num w (.slice a n cap) N) (h0 : 0 < N) : ∃ (b off : Nat), a = some ⟨b, off, none⟩ ∧ w.cell? ⟨b, off, none⟩ = some (.int .i64 ((nd N).getD 0 0 : Nat)) := by
  obtain ⟨a', cap', e, -, -, H⟩ := h
  cases e
  have hl : 0 < (nd N).length := by rw [nd_pos h0]; simp
  obtain ⟨b, off, rfl, -, hc⟩ := H 0 hl
  exact ⟨b, off, rfl, hc⟩
theorem num_n {w : World} {a : Option Addr} {n cap : Nat} {N : Nat} (h : Num w (.slice a n cap) N) : n = (nd N).length := by
  obtain ⟨a', cap', e, -⟩ := h
  simp only [Value.slice.injEq] at e
  exact e.2.1
theorem first_short {N : Nat} (h : (nd N).length = 1) : (nd N).getD 0 0 = N := by
  have hv := nv_nd N
  match e : nd N, h with
  | [d], _ =>
    rw [e] at hv
    simp only [nv, Nat.mul_zero, Nat.add_zero] at hv
    simpa using hv
set_option maxHeartbeats 2000000 in
theorem rftext_at {r : Rat} (ng : Bool) (hng : decide (r.num < 0) = ng) (v : Value) (w : World) (ha : Fra w v r) :
    Calls Tryz.prog 28 #[v] w fun e w' => e = .returned (.string (str (ftext r))) ∧ Gr w w' := by
  obtain ⟨x, va, vb, A, B, rfl, hA, hB, hB0, hx, lA, lB, hr⟩ := ha
  have hbd := bd_rat (x := x) hB0 lA lB
  rw [← hr] at hbd
  obtain ⟨l1, l2⟩ := hbd
  have HV : Hid (rat x A B = r) := Lib.hid hr.symm
  have HNEG := Lib.hid hng
  have HA := Lib.hid hA
  have HB := Lib.hid hB
  have HB0 := Lib.hid hB0
  have HX := Lib.hid hx
  obtain ⟨aa, ca, rfl⟩ := num_slice hA
  obtain ⟨ab, cb, rfl⟩ := num_slice hB
  have s1 := dd_short l1 (by omega)
  have s2 := dd_short l2 (by omega)
  have a1 := add_str [45] (Lib.decDigits r.num.natAbs) (by simp; omega)
  have a1 : ∀ w : World, (Op.stringOp .add ⟨#[45]⟩ (str (Lib.decDigits r.num.natAbs))).run Tryz.prog w = .ok (.string (str (45 :: Lib.decDigits r.num.natAbs))) w := a1
  have a2 := add_str [47] (Lib.decDigits r.den) (by simp; omega)
  have a2 : ∀ w : World, (Op.stringOp .add ⟨#[47]⟩ (str (Lib.decDigits r.den))).run Tryz.prog w = .ok (.string (str (47 :: Lib.decDigits r.den))) w := a2
  have a3 := add_str (Lib.decDigits r.num.natAbs) (47 :: Lib.decDigits r.den) (by simp; omega)
  have a4 := add_str (45 :: Lib.decDigits r.num.natAbs) (47 :: Lib.decDigits r.den) (by simp; omega)
  clear hA hB hB0 hx hr hng s1 s2
  have hX0 := C3.new w (.bool x) (.slice aa (nd A).length ca) (.slice ab (nd B).length cb) 26 w.heap.size rfl
  have hG0 : Gr w (w.alloc (.cells #[.bool x, .slice aa (nd A).length ca, .slice ab (nd B).length cb] 26)) := Gr.alloc (Gr.refl _) _
  have HDP : Hid (0 < r.den) := Lib.hid (Nat.pos_of_ne_zero r.den_nz)
  by_cases hd1 : r.den = 1
  · have HDEN := Lib.hid hd1
    have hn1 : nd r.den = [1] := by rw [hd1]; exact nd_one (by omega) (by omega)
    have HLEN : Hid ((nd r.den).length = 1) := Lib.hid (by rw [hn1]; rfl)
    have HY : Hid ((nd r.den).getD 0 0 = 1) := Lib.hid (by rw [hn1]; rfl)
    clear hd1 hn1
    cases ng
    · have HTX : Hid (ftext r = Lib.decDigits r.num.natAbs) := Lib.hid (by unfold ftext; rw [if_neg (by simpa using HNEG.out), if_pos HDEN.out]; simp)
      go_enter Tryz.func28, Tryz.ntmps28
      go_wp2_with fail
      generalize w.alloc (.cells #[.bool x, .slice aa (nd A).length ca, .slice ab (nd B).length cb] 26) = W0 at *
      have hfa : Fra W0 (.agg #[.bool x, .slice aa (nd A).length ca, .slice ab (nd B).length cb]) (rat x A B) := ⟨x, _, _, A, B, rfl, HA.out.gr hG0, HB.out.gr hG0, HB0.out, HX.out, lA, lB, rfl⟩
      refine (rreduce_any _ _ hfa).mono ?_
      rintro e w2 ⟨b, an, ad, n1, n2, cn, cd, rfl, hred, hg⟩
      rw [HV.out] at hred
      obtain ⟨vn, vd, e, hn, hd⟩ := hred.red
      simp only [Value.agg.injEq, Array.mk.injEq, List.cons.injEq, and_true, Value.bool.injEq] at e
      obtain ⟨rfl, rfl, rfl⟩ := e
      have hnn := num_n hd
      rw [HLEN.out] at hnn
      subst hnn
      rw [HNEG.out]
      have hX := hX0.gr hg
      have hG := hG0.step hg
      have hfl := hX.fill false an ad n1 1 cn cd
      clear hg hfa hX0 hG0 hred
      obtain ⟨xc0, xc1, xc2, xf0, xf1, xf2, xlt, -⟩ := id hX
      obtain ⟨yc0, yc1, yc2, -, -, -, -, -⟩ := id hfl.1
      have hn2 := hfl.2 hn
      have hd2 := hfl.2 hd
      have hG2 := C3.three hG (q := w.heap.size) (Nat.le_refl _) (.bool false) (.slice an n1 cn) (.slice ad 1 cd)
      have hY := hfl.1
      clear hn hd hfl
      go_wp2_with fail
      clear xc0 xc1 xc2 xf0 xf1 xf2 xlt hX hG
      generalize ((w2.setCell ⟨w.heap.size, 0, none⟩ (.bool false)).setCell ⟨w.heap.size, 1, none⟩ (.slice an n1 cn)).setCell ⟨w.heap.size, 2, none⟩ (.slice ad 1 cd) = w3 at *
      refine (rtext_any (N := r.num.natAbs) _ _ hn2 (by omega)).mono ?_
      rintro e w4 ⟨rfl, hg⟩
      have hY := hY.gr hg
      have hd2 := Num.gr hd2 hg
      have hG2 := hG2.step hg
      clear yc0 yc1 yc2
      obtain ⟨yc0, yc1, yc2, -, -, -, -, -⟩ := id hY
      obtain ⟨bd, od, rfl, hc0⟩ := num_first hd2 HDP.out
      rw [HY.out] at hc0
      go_wp2_with fail
      go_ret
      exact ⟨by rw [HTX.out]; rfl, hG2⟩
    · have HTX : Hid (ftext r = 45 :: Lib.decDigits r.num.natAbs) := Lib.hid (by unfold ftext; rw [if_pos (by simpa using HNEG.out), if_pos HDEN.out]; simp)
      go_enter Tryz.func28, Tryz.ntmps28
      go_wp2_with fail
      generalize w.alloc (.cells #[.bool x, .slice aa (nd A).length ca, .slice ab (nd B).length cb] 26) = W0 at *
      have hfa : Fra W0 (.agg #[.bool x, .slice aa (nd A).length ca, .slice ab (nd B).length cb]) (rat x A B) := ⟨x, _, _, A, B, rfl, HA.out.gr hG0, HB.out.gr hG0, HB0.out, HX.out, lA, lB, rfl⟩
      refine (rreduce_any _ _ hfa).mono ?_
      rintro e w2 ⟨b, an, ad, n1, n2, cn, cd, rfl, hred, hg⟩
      rw [HV.out] at hred
      obtain ⟨vn, vd, e, hn, hd⟩ := hred.red
      simp only [Value.agg.injEq, Array.mk.injEq, List.cons.injEq, and_true, Value.bool.injEq] at e
      obtain ⟨rfl, rfl, rfl⟩ := e
      have hnn := num_n hd
      rw [HLEN.out] at hnn
      subst hnn
      rw [HNEG.out]
      have hX := hX0.gr hg
      have hG := hG0.step hg
      have hfl := hX.fill true an ad n1 1 cn cd
      clear hg hfa hX0 hG0 hred
      obtain ⟨xc0, xc1, xc2, xf0, xf1, xf2, xlt, -⟩ := id hX
      obtain ⟨yc0, yc1, yc2, -, -, -, -, -⟩ := id hfl.1
      have hn2 := hfl.2 hn
      have hd2 := hfl.2 hd
      have hG2 := C3.three hG (q := w.heap.size) (Nat.le_refl _) (.bool true) (.slice an n1 cn) (.slice ad 1 cd)
      have hY := hfl.1
      clear hn hd hfl
      go_wp2_with fail
      clear xc0 xc1 xc2 xf0 xf1 xf2 xlt hX hG
      generalize ((w2.setCell ⟨w.heap.size, 0, none⟩ (.bool true)).setCell ⟨w.heap.size, 1, none⟩ (.slice an n1 cn)).setCell ⟨w.heap.size, 2, none⟩ (.slice ad 1 cd) = w3 at *
      refine (rtext_any (N := r.num.natAbs) _ _ hn2 (by omega)).mono ?_
      rintro e w4 ⟨rfl, hg⟩
      have hY := hY.gr hg
      have hd2 := Num.gr hd2 hg
      have hG2 := hG2.step hg
      clear yc0 yc1 yc2
      obtain ⟨yc0, yc1, yc2, -, -, -, -, -⟩ := id hY
      obtain ⟨bd, od, rfl, hc0⟩ := num_first hd2 HDP.out
      rw [HY.out] at hc0
      go_wp2_with fail
      go_ret
      exact ⟨by rw [HTX.out]; rfl, hG2⟩
  · have HDEN := Lib.hid hd1
    have HTF : ng = false → Hid (ftext r = Lib.decDigits r.num.natAbs ++ 47 :: Lib.decDigits r.den) := fun e => Lib.hid (by unfold ftext; rw [if_neg (by simpa [e] using HNEG.out), if_neg HDEN.out]; simp)
    have HTT : ng = true → Hid (ftext r = 45 :: Lib.decDigits r.num.natAbs ++ 47 :: Lib.decDigits r.den) := fun e => Lib.hid (by unfold ftext; rw [if_pos (by simpa [e] using HNEG.out), if_neg HDEN.out]; simp)
    clear hd1
    by_cases hl : (nd r.den).length = 1
    · have HLEN : Hid ((nd r.den).length = 1) := Lib.hid hl
      have HY : Hid ((nd r.den).getD 0 0 = r.den) := Lib.hid (first_short hl)
      have d1 : ((r.den : Int) == 1) = false := by rw [beq_eq_false_iff_ne]; have := HDEN.out; omega
      clear hl
      cases ng
      · have HTX := HTF rfl
        clear HTF HTT
        go_enter Tryz.func28, Tryz.ntmps28
        go_wp2_with fail
        generalize w.alloc (.cells #[.bool x, .slice aa (nd A).length ca, .slice ab (nd B).length cb] 26) = W0 at *
        have hfa : Fra W0 (.agg #[.bool x, .slice aa (nd A).length ca, .slice ab (nd B).length cb]) (rat x A B) := ⟨x, _, _, A, B, rfl, HA.out.gr hG0, HB.out.gr hG0, HB0.out, HX.out, lA, lB, rfl⟩
        refine (rreduce_any _ _ hfa).mono ?_
        rintro e w2 ⟨b, an, ad, n1, n2, cn, cd, rfl, hred, hg⟩
        rw [HV.out] at hred
        obtain ⟨vn, vd, e, hn, hd⟩ := hred.red
        simp only [Value.agg.injEq, Array.mk.injEq, List.cons.injEq, and_true, Value.bool.injEq] at e
        obtain ⟨rfl, rfl, rfl⟩ := e
        have hnn := num_n hd
        rw [HLEN.out] at hnn
        subst hnn
        rw [HNEG.out]
        have hX := hX0.gr hg
        have hG := hG0.step hg
        have hfl := hX.fill false an ad n1 1 cn cd
        clear hg hfa hX0 hG0 hred
        obtain ⟨xc0, xc1, xc2, xf0, xf1, xf2, xlt, -⟩ := id hX
        obtain ⟨yc0, yc1, yc2, -, -, -, -, -⟩ := id hfl.1
        have hn2 := hfl.2 hn
        have hd2 := hfl.2 hd
        have hG2 := C3.three hG (q := w.heap.size) (Nat.le_refl _) (.bool false) (.slice an n1 cn) (.slice ad 1 cd)
        have hY := hfl.1
        clear hn hd hfl
        go_wp2_with fail
        clear xc0 xc1 xc2 xf0 xf1 xf2 xlt hX hG
        generalize ((w2.setCell ⟨w.heap.size, 0, none⟩ (.bool false)).setCell ⟨w.heap.size, 1, none⟩ (.slice an n1 cn)).setCell ⟨w.heap.size, 2, none⟩ (.slice ad 1 cd) = w3 at *
        refine (rtext_any (N := r.num.natAbs) _ _ hn2 (by omega)).mono ?_
        rintro e w4 ⟨rfl, hg⟩
        have hY := hY.gr hg
        have hd2 := Num.gr hd2 hg
        have hG2 := hG2.step hg
        clear yc0 yc1 yc2
        obtain ⟨yc0, yc1, yc2, -, -, -, -, -⟩ := id hY
        obtain ⟨bd, od, rfl, hc0⟩ := num_first hd2 HDP.out
        rw [HY.out] at hc0
        go_wp2_with fail
        refine (rtext_any (N := r.den) _ _ hd2 (by omega)).mono ?_
        rintro e w6 ⟨rfl, hg⟩
        go_wp2_with fail
        go_ret
        exact ⟨by rw [HTX.out]; rfl, hG2.step hg⟩
      · have HTX := HTT rfl
        clear HTF HTT
        go_enter Tryz.func28, Tryz.ntmps28
        go_wp2_with fail
        generalize w.alloc (.cells #[.bool x, .slice aa (nd A).length ca, .slice ab (nd B).length cb] 26) = W0 at *
        have hfa : Fra W0 (.agg #[.bool x, .slice aa (nd A).length ca, .slice ab (nd B).length cb]) (rat x A B) := ⟨x, _, _, A, B, rfl, HA.out.gr hG0, HB.out.gr hG0, HB0.out, HX.out, lA, lB, rfl⟩
        refine (rreduce_any _ _ hfa).mono ?_
        rintro e w2 ⟨b, an, ad, n1, n2, cn, cd, rfl, hred, hg⟩
        rw [HV.out] at hred
        obtain ⟨vn, vd, e, hn, hd⟩ := hred.red
        simp only [Value.agg.injEq, Array.mk.injEq, List.cons.injEq, and_true, Value.bool.injEq] at e
        obtain ⟨rfl, rfl, rfl⟩ := e
        have hnn := num_n hd
        rw [HLEN.out] at hnn
        subst hnn
        rw [HNEG.out]
        have hX := hX0.gr hg
        have hG := hG0.step hg
        have hfl := hX.fill true an ad n1 1 cn cd
        clear hg hfa hX0 hG0 hred
        obtain ⟨xc0, xc1, xc2, xf0, xf1, xf2, xlt, -⟩ := id hX
        obtain ⟨yc0, yc1, yc2, -, -, -, -, -⟩ := id hfl.1
        have hn2 := hfl.2 hn
        have hd2 := hfl.2 hd
        have hG2 := C3.three hG (q := w.heap.size) (Nat.le_refl _) (.bool true) (.slice an n1 cn) (.slice ad 1 cd)
        have hY := hfl.1
        clear hn hd hfl
        go_wp2_with fail
        clear xc0 xc1 xc2 xf0 xf1 xf2 xlt hX hG
        generalize ((w2.setCell ⟨w.heap.size, 0, none⟩ (.bool true)).setCell ⟨w.heap.size, 1, none⟩ (.slice an n1 cn)).setCell ⟨w.heap.size, 2, none⟩ (.slice ad 1 cd) = w3 at *
        refine (rtext_any (N := r.num.natAbs) _ _ hn2 (by omega)).mono ?_
        rintro e w4 ⟨rfl, hg⟩
        have hY := hY.gr hg
        have hd2 := Num.gr hd2 hg
        have hG2 := hG2.step hg
        clear yc0 yc1 yc2
        obtain ⟨yc0, yc1, yc2, -, -, -, -, -⟩ := id hY
        obtain ⟨bd, od, rfl, hc0⟩ := num_first hd2 HDP.out
        rw [HY.out] at hc0
        go_wp2_with fail
        refine (rtext_any (N := r.den) _ _ hd2 (by omega)).mono ?_
        rintro e w6 ⟨rfl, hg⟩
        go_wp2_with fail
        go_ret
        exact ⟨by rw [HTX.out]; rfl, hG2.step hg⟩
    · obtain ⟨ll, hll⟩ : ∃ ll, ll = (nd r.den).length := ⟨_, rfl⟩
      have h0 : 0 < (nd r.den).length := by rw [nd_pos HDP.out]; simp
      have HLEN : Hid ((nd r.den).length = ll) := Lib.hid hll.symm
      have HLL : Hid (1 < ll) := Lib.hid (by omega)
      obtain ⟨y0, hy0⟩ : ∃ y0, y0 = (nd r.den).getD 0 0 := ⟨_, rfl⟩
      have HY : Hid ((nd r.den).getD 0 0 = y0) := Lib.hid hy0.symm
      have hbig : (1 : Int) < (ll : Int) := by have := HLL.out; omega
      clear hl hll hy0 h0
      cases ng
      · have HTX := HTF rfl
        clear HTF HTT
        go_enter Tryz.func28, Tryz.ntmps28
        go_wp2_with fail
        generalize w.alloc (.cells #[.bool x, .slice aa (nd A).length ca, .slice ab (nd B).length cb] 26) = W0 at *
        have hfa : Fra W0 (.agg #[.bool x, .slice aa (nd A).length ca, .slice ab (nd B).length cb]) (rat x A B) := ⟨x, _, _, A, B, rfl, HA.out.gr hG0, HB.out.gr hG0, HB0.out, HX.out, lA, lB, rfl⟩
        refine (rreduce_any _ _ hfa).mono ?_
        rintro e w2 ⟨b, an, ad, n1, n2, cn, cd, rfl, hred, hg⟩
        rw [HV.out] at hred
        obtain ⟨vn, vd, e, hn, hd⟩ := hred.red
        simp only [Value.agg.injEq, Array.mk.injEq, List.cons.injEq, and_true, Value.bool.injEq] at e
        obtain ⟨rfl, rfl, rfl⟩ := e
        have hnn := num_n hd
        rw [HLEN.out] at hnn
        subst hnn
        rw [HNEG.out]
        have hX := hX0.gr hg
        have hG := hG0.step hg
        have hfl := hX.fill false an ad n1 n2 cn cd
        clear hg hfa hX0 hG0 hred
        obtain ⟨xc0, xc1, xc2, xf0, xf1, xf2, xlt, -⟩ := id hX
        obtain ⟨yc0, yc1, yc2, -, -, -, -, -⟩ := id hfl.1
        have hn2 := hfl.2 hn
        have hd2 := hfl.2 hd
        have hG2 := C3.three hG (q := w.heap.size) (Nat.le_refl _) (.bool false) (.slice an n1 cn) (.slice ad n2 cd)
        have hY := hfl.1
        clear hn hd hfl
        go_wp2_with fail
        clear xc0 xc1 xc2 xf0 xf1 xf2 xlt hX hG
        generalize ((w2.setCell ⟨w.heap.size, 0, none⟩ (.bool false)).setCell ⟨w.heap.size, 1, none⟩ (.slice an n1 cn)).setCell ⟨w.heap.size, 2, none⟩ (.slice ad n2 cd) = w3 at *
        refine (rtext_any (N := r.num.natAbs) _ _ hn2 (by omega)).mono ?_
        rintro e w4 ⟨rfl, hg⟩
        have hY := hY.gr hg
        have hd2 := Num.gr hd2 hg
        have hG2 := hG2.step hg
        clear yc0 yc1 yc2
        obtain ⟨yc0, yc1, yc2, -, -, -, -, -⟩ := id hY
        obtain ⟨bd, od, rfl, hc0⟩ := num_first hd2 HDP.out
        rw [HY.out] at hc0
        go_wp2_with fail
        refine (rtext_any (N := r.den) _ _ hd2 (by omega)).mono ?_
        rintro e w6 ⟨rfl, hg⟩
        go_wp2_with fail
        go_ret
        exact ⟨by rw [HTX.out]; rfl, hG2.step hg⟩
      · have HTX := HTT rfl
        clear HTF HTT
        go_enter Tryz.func28, Tryz.ntmps28
        go_wp2_with fail
        generalize w.alloc (.cells #[.bool x, .slice aa (nd A).length ca, .slice ab (nd B).length cb] 26) = W0 at *
        have hfa : Fra W0 (.agg #[.bool x, .slice aa (nd A).length ca, .slice ab (nd B).length cb]) (rat x A B) := ⟨x, _, _, A, B, rfl, HA.out.gr hG0, HB.out.gr hG0, HB0.out, HX.out, lA, lB, rfl⟩
        refine (rreduce_any _ _ hfa).mono ?_
        rintro e w2 ⟨b, an, ad, n1, n2, cn, cd, rfl, hred, hg⟩
        rw [HV.out] at hred
        obtain ⟨vn, vd, e, hn, hd⟩ := hred.red
        simp only [Value.agg.injEq, Array.mk.injEq, List.cons.injEq, and_true, Value.bool.injEq] at e
        obtain ⟨rfl, rfl, rfl⟩ := e
        have hnn := num_n hd
        rw [HLEN.out] at hnn
        subst hnn
        rw [HNEG.out]
        have hX := hX0.gr hg
        have hG := hG0.step hg
        have hfl := hX.fill true an ad n1 n2 cn cd
        clear hg hfa hX0 hG0 hred
        obtain ⟨xc0, xc1, xc2, xf0, xf1, xf2, xlt, -⟩ := id hX
        obtain ⟨yc0, yc1, yc2, -, -, -, -, -⟩ := id hfl.1
        have hn2 := hfl.2 hn
        have hd2 := hfl.2 hd
        have hG2 := C3.three hG (q := w.heap.size) (Nat.le_refl _) (.bool true) (.slice an n1 cn) (.slice ad n2 cd)
        have hY := hfl.1
        clear hn hd hfl
        go_wp2_with fail
        clear xc0 xc1 xc2 xf0 xf1 xf2 xlt hX hG
        generalize ((w2.setCell ⟨w.heap.size, 0, none⟩ (.bool true)).setCell ⟨w.heap.size, 1, none⟩ (.slice an n1 cn)).setCell ⟨w.heap.size, 2, none⟩ (.slice ad n2 cd) = w3 at *
        refine (rtext_any (N := r.num.natAbs) _ _ hn2 (by omega)).mono ?_
        rintro e w4 ⟨rfl, hg⟩
        have hY := hY.gr hg
        have hd2 := Num.gr hd2 hg
        have hG2 := hG2.step hg
        clear yc0 yc1 yc2
        obtain ⟨yc0, yc1, yc2, -, -, -, -, -⟩ := id hY
        obtain ⟨bd, od, rfl, hc0⟩ := num_first hd2 HDP.out
        rw [HY.out] at hc0
        go_wp2_with fail
        refine (rtext_any (N := r.den) _ _ hd2 (by omega)).mono ?_
        rintro e w6 ⟨rfl, hg⟩
        go_wp2_with fail
        go_ret
        exact ⟨by rw [HTX.out]; rfl, hG2.step hg⟩
theorem rftext_any {r : Rat} (v : Value) (w : World) (ha : Fra w v r) :
    Calls Tryz.prog 28 #[v] w fun e w' => e = .returned (.string (str (ftext r))) ∧ Gr w w' := rftext_at _ rfl v w ha
end Go.Proofs.YtjpjnbgfodlkcaaGreatDoor
