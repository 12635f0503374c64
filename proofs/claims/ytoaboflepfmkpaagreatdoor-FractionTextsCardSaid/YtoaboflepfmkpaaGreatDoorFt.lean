/- isOne, Text. -/
import Derived.Test.YtoaboflepfmkpaaGreatDoorFs
import Derived.Test.YtoaboflepfmkpaaGreatDoorNtf
import Derived.WalkKit
import Derived.WalkSpells
import Derived.WalkLawsBesides
import Derived.WalkSmall
import Derived.Handy
import Derived.BigQuiet
import Derived.Deep.QuietTactic
import Derived.Deep.RegionHeld3
import Derived.Deep.DeepFit
import Derived.Below
import Derived.Lib.Hide
import Derived.Lib.QuietBelow
namespace Go.Proofs.YtoaboflepfmkpaaGreatDoor
open Go Go.RowKit Go.Sort
set_option maxRecDepth 100000
set_option linter.unusedVariables false
theorem one_num (w : World) : Num (w.alloc (.cells #[.int .i64 1] 3)) (.slice (some ⟨w.heap.size, 0, none⟩) 1 1) 1 := num_lit w 1 1 rfl (by omega) (by omega)
theorem isOne_yes (v : Value) (w : World) (h : Num w v 1) :
    Calls Tryz.prog 80 #[v] w fun e w' => e = .returned (.bool true) ∧ Gr w w' := by
  have HC := Lib.hid (cmp_any (A := 1) (B := 1) v _ _ (h.gr (Gr.alloc (Gr.refl _) _)) (one_num w) (by rw [nd_one (by omega) (by omega)]; simp))
  obtain ⟨a, c, rfl⟩ := num_slice h
  clear h
  go_enter Tryz.func80, Tryz.ntmps80
  go_wp2_with fail
  refine HC.out.mono ?_
  rintro e w1 ⟨rfl, hg⟩
  rw [ncmp_eq]
  have hG : Gr w w1 := (Gr.alloc (Gr.refl w) _).step hg
  go_wp2_with fail
  go_ret
  exact ⟨rfl, hG⟩
theorem isOne_eq {N : Nat} (v : Value) (w : World) (h : Num w v N) (e : N = 1) : Calls Tryz.prog 80 #[v] w fun e w' => e = .returned (.bool true) ∧ Gr w w' := by
  subst e; exact isOne_yes v w h
theorem isOne_no {N : Nat} (v : Value) (w : World) (h : Num w v N) (hl : (nd N).length ≤ 1000000) (hN : N ≠ 1) :
    Calls Tryz.prog 80 #[v] w fun e w' => e = .returned (.bool false) ∧ Gr w w' := by
  have HC := Lib.hid (cmp_any (A := N) (B := 1) v _ _ (h.gr (Gr.alloc (Gr.refl _) _)) (one_num w) hl)
  obtain ⟨a, c, rfl⟩ := num_slice h
  have hne : ncmp N 1 ≠ 0 := by
    rcases Nat.lt_or_gt_of_ne hN with h | h
    · rw [ncmp_lt h]; omega
    · rw [ncmp_gt h]; omega
  have d1 : (ncmp N 1 == 0) = false := by rw [beq_eq_false_iff_ne]; exact hne
  clear h hN hne
  go_enter Tryz.func80, Tryz.ntmps80
  go_wp2_with fail
  refine HC.out.mono ?_
  rintro e w1 ⟨rfl, hg⟩
  have hG : Gr w w1 := (Gr.alloc (Gr.refl w) _).step hg
  go_wp2_with fail
  go_ret
  exact ⟨rfl, hG⟩
/-- the text of a fraction -/
def ftext (r : Rat) : List UInt8 := (if r.num < 0 then [45] else []) ++ Lib.decDigits r.num.natAbs ++ (if r.den = 1 then [] else 47 :: Lib.decDigits r.den)
set_option maxHeartbeats 2000000 in
theorem ftext_at {r : Rat} (ng : Bool) (hng : decide (r.num < 0) = ng) (v : Value) (w : World) (ha : Fra w v r) (ht : Tab w) :
    Calls Tryz.prog 26 #[v] w fun e w' => e = .returned (.string (str (ftext r))) ∧ Gr w w' := by
  obtain ⟨x, va, vb, A, B, rfl, hA, hB, hB0, hx, lA, lB, hr⟩ := ha
  have hbd := bd_rat (x := x) hB0 lA lB
  rw [← hr] at hbd
  obtain ⟨l1, l2⟩ := hbd
  have HV : Hid (rat x A B = r) := Lib.hid hr.symm
  have HNEG := Lib.hid hng
  have HA := Lib.hid hA
  have HB := Lib.hid hB
  have HB0 := Lib.hid hB0
  have HX := Lib.hid hx
  have HT := Lib.hid ht
  obtain ⟨aa, ca, rfl⟩ := num_slice hA
  obtain ⟨ab, cb, rfl⟩ := num_slice hB
  have s1 := dd_short l1 (by omega)
  have s2 := dd_short l2 (by omega)
  have a1 := add_str [45] (Lib.decDigits r.num.natAbs) (by simp; omega)
  have a1 : ∀ w : World, (Op.stringOp .add ⟨#[45]⟩ (str (Lib.decDigits r.num.natAbs))).run Tryz.prog w = .ok (.string (str (45 :: Lib.decDigits r.num.natAbs))) w := a1
  have a2 := add_str [47] (Lib.decDigits r.den) (by simp; omega)
  have a2 : ∀ w : World, (Op.stringOp .add ⟨#[47]⟩ (str (Lib.decDigits r.den))).run Tryz.prog w = .ok (.string (str (47 :: Lib.decDigits r.den))) w := a2
  have a3 := add_str (Lib.decDigits r.num.natAbs) (47 :: Lib.decDigits r.den) (by simp; omega)
  have a4 := add_str (45 :: Lib.decDigits r.num.natAbs) (47 :: Lib.decDigits r.den) (by simp; omega)
  clear hA hB hB0 hx hr hng ht s1 s2
  have hX0 := C3.new w (.bool x) (.slice aa (nd A).length ca) (.slice ab (nd B).length cb) 29 w.heap.size rfl
  have hG0 : Gr w (w.alloc (.cells #[.bool x, .slice aa (nd A).length ca, .slice ab (nd B).length cb] 29)) := Gr.alloc (Gr.refl _) _
  by_cases hd1 : r.den = 1
  · have HDEN := Lib.hid hd1
    clear hd1
    cases ng
    · have HTX : Hid (ftext r = Lib.decDigits r.num.natAbs) := Lib.hid (by unfold ftext; rw [if_neg (by simpa using HNEG.out), if_pos HDEN.out]; simp)
      go_enter Tryz.func26, Tryz.ntmps26
      go_wp2_with fail
      generalize w.alloc (.cells #[.bool x, .slice aa (nd A).length ca, .slice ab (nd B).length cb] 29) = W0 at *
      refine (fvalid_yes x _ _ _ (HA.out.gr hG0) (HB.out.gr hG0) HB0.out HX.out lA lB).mono ?_
      rintro e w1 ⟨rfl, hg⟩
      have hX := hX0.gr hg
      have hG := hG0.step hg
      obtain ⟨xc0, xc1, xc2, xf0, xf1, xf2, xlt, -⟩ := id hX
      clear hX0 hG0 hg
      go_wp2_with fail
      have hfa : Fra w1 (.agg #[.bool x, .slice aa (nd A).length ca, .slice ab (nd B).length cb]) (rat x A B) := ⟨x, _, _, A, B, rfl, HA.out.gr hG, HB.out.gr hG, HB0.out, HX.out, lA, lB, rfl⟩
      refine (freduce_any _ _ hfa).mono ?_
      rintro e w2 ⟨u, rfl, ⟨vn, vd, rfl, hn, hd⟩, -, hg⟩
      rw [HV.out] at hn hd ⊢
      rw [HNEG.out]
      obtain ⟨an, cn, rfl⟩ := num_slice hn
      obtain ⟨ad, cd, rfl⟩ := num_slice hd
      have hX := hX.gr hg
      have hG := hG.step hg
      have hfl := hX.fill false an ad (nd r.num.natAbs).length (nd r.den).length cn cd
      clear xc0 xc1 xc2 xf0 xf1 xf2 xlt hg hfa
      obtain ⟨xc0, xc1, xc2, xf0, xf1, xf2, xlt, -⟩ := id hX
      obtain ⟨yc0, yc1, yc2, -, -, -, -, -⟩ := id hfl.1
      have hn2 := hfl.2 hn
      have hd2 := hfl.2 hd
      have hG2 := C3.three hG (q := w.heap.size) (Nat.le_refl _) (.bool false) (.slice an (nd r.num.natAbs).length cn) (.slice ad (nd r.den).length cd)
      have hY := hfl.1
      clear hn hd hfl
      go_wp2_with fail
      clear xc0 xc1 xc2 xf0 xf1 xf2 xlt hX hG
      generalize ((w2.setCell ⟨w.heap.size, 0, none⟩ (.bool false)).setCell ⟨w.heap.size, 1, none⟩ (.slice an (nd r.num.natAbs).length cn)).setCell ⟨w.heap.size, 2, none⟩ (.slice ad (nd r.den).length cd) = w3 at *
      refine (text_full (N := r.num.natAbs) _ _ hn2 (by omega) (HT.out.gr hG2)).mono ?_
      rintro e w4 ⟨rfl, hg⟩
      have hY := hY.gr hg
      have hd2 := Num.gr hd2 hg
      have hG2 := hG2.step hg
      clear yc0 yc1 yc2
      obtain ⟨yc0, yc1, yc2, -, -, -, -, -⟩ := id hY
      go_wp2_with fail
      refine (isOne_eq _ _ hd2 HDEN.out).mono ?_
      rintro e w5 ⟨rfl, hg⟩
      go_wp2_with fail
      go_ret
      exact ⟨by rw [HTX.out]; rfl, hG2.step hg⟩
    · have HTX : Hid (ftext r = 45 :: Lib.decDigits r.num.natAbs) := Lib.hid (by unfold ftext; rw [if_pos (by simpa using HNEG.out), if_pos HDEN.out]; simp)
      go_enter Tryz.func26, Tryz.ntmps26
      go_wp2_with fail
      generalize w.alloc (.cells #[.bool x, .slice aa (nd A).length ca, .slice ab (nd B).length cb] 29) = W0 at *
      refine (fvalid_yes x _ _ _ (HA.out.gr hG0) (HB.out.gr hG0) HB0.out HX.out lA lB).mono ?_
      rintro e w1 ⟨rfl, hg⟩
      have hX := hX0.gr hg
      have hG := hG0.step hg
      obtain ⟨xc0, xc1, xc2, xf0, xf1, xf2, xlt, -⟩ := id hX
      clear hX0 hG0 hg
      go_wp2_with fail
      have hfa : Fra w1 (.agg #[.bool x, .slice aa (nd A).length ca, .slice ab (nd B).length cb]) (rat x A B) := ⟨x, _, _, A, B, rfl, HA.out.gr hG, HB.out.gr hG, HB0.out, HX.out, lA, lB, rfl⟩
      refine (freduce_any _ _ hfa).mono ?_
      rintro e w2 ⟨u, rfl, ⟨vn, vd, rfl, hn, hd⟩, -, hg⟩
      rw [HV.out] at hn hd ⊢
      rw [HNEG.out]
      obtain ⟨an, cn, rfl⟩ := num_slice hn
      obtain ⟨ad, cd, rfl⟩ := num_slice hd
      have hX := hX.gr hg
      have hG := hG.step hg
      have hfl := hX.fill true an ad (nd r.num.natAbs).length (nd r.den).length cn cd
      clear xc0 xc1 xc2 xf0 xf1 xf2 xlt hg hfa
      obtain ⟨xc0, xc1, xc2, xf0, xf1, xf2, xlt, -⟩ := id hX
      obtain ⟨yc0, yc1, yc2, -, -, -, -, -⟩ := id hfl.1
      have hn2 := hfl.2 hn
      have hd2 := hfl.2 hd
      have hG2 := C3.three hG (q := w.heap.size) (Nat.le_refl _) (.bool true) (.slice an (nd r.num.natAbs).length cn) (.slice ad (nd r.den).length cd)
      have hY := hfl.1
      clear hn hd hfl
      go_wp2_with fail
      clear xc0 xc1 xc2 xf0 xf1 xf2 xlt hX hG
      generalize ((w2.setCell ⟨w.heap.size, 0, none⟩ (.bool true)).setCell ⟨w.heap.size, 1, none⟩ (.slice an (nd r.num.natAbs).length cn)).setCell ⟨w.heap.size, 2, none⟩ (.slice ad (nd r.den).length cd) = w3 at *
      refine (text_full (N := r.num.natAbs) _ _ hn2 (by omega) (HT.out.gr hG2)).mono ?_
      rintro e w4 ⟨rfl, hg⟩
      have hY := hY.gr hg
      have hd2 := Num.gr hd2 hg
      have hG2 := hG2.step hg
      clear yc0 yc1 yc2
      obtain ⟨yc0, yc1, yc2, -, -, -, -, -⟩ := id hY
      go_wp2_with fail
      refine (isOne_eq _ _ hd2 HDEN.out).mono ?_
      rintro e w5 ⟨rfl, hg⟩
      go_wp2_with fail
      go_ret
      exact ⟨by rw [HTX.out]; rfl, hG2.step hg⟩
  · have HDEN := Lib.hid hd1
    clear hd1
    cases ng
    · have HTX : Hid (ftext r = Lib.decDigits r.num.natAbs ++ 47 :: Lib.decDigits r.den) := Lib.hid (by unfold ftext; rw [if_neg (by simpa using HNEG.out), if_neg HDEN.out]; simp)
      go_enter Tryz.func26, Tryz.ntmps26
      go_wp2_with fail
      generalize w.alloc (.cells #[.bool x, .slice aa (nd A).length ca, .slice ab (nd B).length cb] 29) = W0 at *
      refine (fvalid_yes x _ _ _ (HA.out.gr hG0) (HB.out.gr hG0) HB0.out HX.out lA lB).mono ?_
      rintro e w1 ⟨rfl, hg⟩
      have hX := hX0.gr hg
      have hG := hG0.step hg
      obtain ⟨xc0, xc1, xc2, xf0, xf1, xf2, xlt, -⟩ := id hX
      clear hX0 hG0 hg
      go_wp2_with fail
      have hfa : Fra w1 (.agg #[.bool x, .slice aa (nd A).length ca, .slice ab (nd B).length cb]) (rat x A B) := ⟨x, _, _, A, B, rfl, HA.out.gr hG, HB.out.gr hG, HB0.out, HX.out, lA, lB, rfl⟩
      refine (freduce_any _ _ hfa).mono ?_
      rintro e w2 ⟨u, rfl, ⟨vn, vd, rfl, hn, hd⟩, -, hg⟩
      rw [HV.out] at hn hd ⊢
      rw [HNEG.out]
      obtain ⟨an, cn, rfl⟩ := num_slice hn
      obtain ⟨ad, cd, rfl⟩ := num_slice hd
      have hX := hX.gr hg
      have hG := hG.step hg
      have hfl := hX.fill false an ad (nd r.num.natAbs).length (nd r.den).length cn cd
      clear xc0 xc1 xc2 xf0 xf1 xf2 xlt hg hfa
      obtain ⟨xc0, xc1, xc2, xf0, xf1, xf2, xlt, -⟩ := id hX
      obtain ⟨yc0, yc1, yc2, -, -, -, -, -⟩ := id hfl.1
      have hn2 := hfl.2 hn
      have hd2 := hfl.2 hd
      have hG2 := C3.three hG (q := w.heap.size) (Nat.le_refl _) (.bool false) (.slice an (nd r.num.natAbs).length cn) (.slice ad (nd r.den).length cd)
      have hY := hfl.1
      clear hn hd hfl
      go_wp2_with fail
      clear xc0 xc1 xc2 xf0 xf1 xf2 xlt hX hG
      generalize ((w2.setCell ⟨w.heap.size, 0, none⟩ (.bool false)).setCell ⟨w.heap.size, 1, none⟩ (.slice an (nd r.num.natAbs).length cn)).setCell ⟨w.heap.size, 2, none⟩ (.slice ad (nd r.den).length cd) = w3 at *
      refine (text_full (N := r.num.natAbs) _ _ hn2 (by omega) (HT.out.gr hG2)).mono ?_
      rintro e w4 ⟨rfl, hg⟩
      have hY := hY.gr hg
      have hd2 := Num.gr hd2 hg
      have hG2 := hG2.step hg
      clear yc0 yc1 yc2
      obtain ⟨yc0, yc1, yc2, -, -, -, -, -⟩ := id hY
      go_wp2_with fail
      refine (isOne_no _ _ hd2 (by omega) HDEN.out).mono ?_
      rintro e w5 ⟨rfl, hg⟩
      have hY := hY.gr hg
      have hd2 := Num.gr hd2 hg
      have hG2 := hG2.step hg
      clear yc0 yc1 yc2
      obtain ⟨yc0, yc1, yc2, -, -, -, -, -⟩ := id hY
      go_wp2_with fail
      refine (text_full (N := r.den) _ _ hd2 (by omega) (HT.out.gr hG2)).mono ?_
      rintro e w6 ⟨rfl, hg⟩
      go_wp2_with fail
      go_ret
      exact ⟨by rw [HTX.out]; rfl, hG2.step hg⟩
    · have HTX : Hid (ftext r = 45 :: Lib.decDigits r.num.natAbs ++ 47 :: Lib.decDigits r.den) := Lib.hid (by unfold ftext; rw [if_pos (by simpa using HNEG.out), if_neg HDEN.out]; simp)
      go_enter Tryz.func26, Tryz.ntmps26
      go_wp2_with fail
      generalize w.alloc (.cells #[.bool x, .slice aa (nd A).length ca, .slice ab (nd B).length cb] 29) = W0 at *
      refine (fvalid_yes x _ _ _ (HA.out.gr hG0) (HB.out.gr hG0) HB0.out HX.out lA lB).mono ?_
      rintro e w1 ⟨rfl, hg⟩
      have hX := hX0.gr hg
      have hG := hG0.step hg
      obtain ⟨xc0, xc1, xc2, xf0, xf1, xf2, xlt, -⟩ := id hX
      clear hX0 hG0 hg
      go_wp2_with fail
      have hfa : Fra w1 (.agg #[.bool x, .slice aa (nd A).length ca, .slice ab (nd B).length cb]) (rat x A B) := ⟨x, _, _, A, B, rfl, HA.out.gr hG, HB.out.gr hG, HB0.out, HX.out, lA, lB, rfl⟩
      refine (freduce_any _ _ hfa).mono ?_
      rintro e w2 ⟨u, rfl, ⟨vn, vd, rfl, hn, hd⟩, -, hg⟩
      rw [HV.out] at hn hd ⊢
      rw [HNEG.out]
      obtain ⟨an, cn, rfl⟩ := num_slice hn
      obtain ⟨ad, cd, rfl⟩ := num_slice hd
      have hX := hX.gr hg
      have hG := hG.step hg
      have hfl := hX.fill true an ad (nd r.num.natAbs).length (nd r.den).length cn cd
      clear xc0 xc1 xc2 xf0 xf1 xf2 xlt hg hfa
      obtain ⟨xc0, xc1, xc2, xf0, xf1, xf2, xlt, -⟩ := id hX
      obtain ⟨yc0, yc1, yc2, -, -, -, -, -⟩ := id hfl.1
      have hn2 := hfl.2 hn
      have hd2 := hfl.2 hd
      have hG2 := C3.three hG (q := w.heap.size) (Nat.le_refl _) (.bool true) (.slice an (nd r.num.natAbs).length cn) (.slice ad (nd r.den).length cd)
      have hY := hfl.1
      clear hn hd hfl
      go_wp2_with fail
      clear xc0 xc1 xc2 xf0 xf1 xf2 xlt hX hG
      generalize ((w2.setCell ⟨w.heap.size, 0, none⟩ (.bool true)).setCell ⟨w.heap.size, 1, none⟩ (.slice an (nd r.num.natAbs).length cn)).setCell ⟨w.heap.size, 2, none⟩ (.slice ad (nd r.den).length cd) = w3 at *
      refine (text_full (N := r.num.natAbs) _ _ hn2 (by omega) (HT.out.gr hG2)).mono ?_
      rintro e w4 ⟨rfl, hg⟩
      have hY := hY.gr hg
      have hd2 := Num.gr hd2 hg
      have hG2 := hG2.step hg
      clear yc0 yc1 yc2
      obtain ⟨yc0, yc1, yc2, -, -, -, -, -⟩ := id hY
      go_wp2_with fail
      refine (isOne_no _ _ hd2 (by omega) HDEN.out).mono ?_
      rintro e w5 ⟨rfl, hg⟩
      have hY := hY.gr hg
      have hd2 := Num.gr hd2 hg
      have hG2 := hG2.step hg
      clear yc0 yc1 yc2
      obtain ⟨yc0, yc1, yc2, -, -, -, -, -⟩ := id hY
      go_wp2_with fail
      refine (text_full (N := r.den) _ _ hd2 (by omega) (HT.out.gr hG2)).mono ?_
      rintro e w6 ⟨rfl, hg⟩
      go_wp2_with fail
      go_ret
      exact ⟨by rw [HTX.out]; rfl, hG2.step hg⟩
theorem ftext_any {r : Rat} (v : Value) (w : World) (ha : Fra w v r) (ht : Tab w) :
    Calls Tryz.prog 26 #[v] w fun e w' => e = .returned (.string (str (ftext r))) ∧ Gr w w' := ftext_at _ rfl v w ha ht
end Go.Proofs.YtoaboflepfmkpaaGreatDoor
