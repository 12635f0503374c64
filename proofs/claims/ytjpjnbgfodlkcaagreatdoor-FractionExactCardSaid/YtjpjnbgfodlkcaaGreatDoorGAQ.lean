/- Several texts in one. -/
import Derived.Test.YtjpjnbgfodlkcaaGreatDoorGAM
import Derived.Test.YtjpjnbgfodlkcaaGreatDoorGAP
import Derived.WalkKit
import Derived.WalkSpells
import Derived.WalkLawsBesides
import Derived.WalkSmall
import Derived.Handy
import Derived.BigQuiet
import Derived.Deep.QuietTactic
import Derived.Deep.RegionHeld3
import Derived.Deep.DeepFit
import Derived.Below
import Derived.Lib.Hide
import Derived.Lib.QuietBelow
import Derived.Test.YtjpjnbgfodlkcaaGreatDoorGAG
import Derived.Deep.DeepCutAuto
import Derived.Test.YtjpjnbgfodlkcaaGreatDoorGAL
/- From of two ints; the sanity check. -/
namespace Go.Proofs.YtjpjnbgfodlkcaaGreatDoor
open Go Go.RowKit Go.Sort
set_option maxRecDepth 100000
set_option linter.unusedVariables false
set_option maxHeartbeats 1000000 in
theorem ffrom_any (n d : Int) (w : World) (n0 : -9223372036854775808 ≤ n) (n1 : n ≤ 9223372036854775807) (d0 : -9223372036854775808 ≤ d) (d1 : d ≤ 9223372036854775807) (hd : d ≠ 0) :
    Calls Tryz.prog 16 #[.int .i64 n, .int .i64 d] w (FRes w (quot n d)) := by
  unfold quot
  rw [bne_bool]
  have dz : (d == 0) = false := by rw [beq_eq_false_iff_ne]; exact hd
  have lN : (nd n.natAbs).length ≤ 256 := by have := (nd_len n.natAbs 3).2 (by omega); omega
  have lD : (nd d.natAbs).length ≤ 256 := by have := (nd_len d.natAbs 3).2 (by omega); omega
  have hD : 0 < d.natAbs := by omega
  have HD := Lib.hid hD
  clear hD hd
  have hR0 := C3.new w (.bool false) (.slice none 0 0) (.slice none 0 0) 26 w.heap.size rfl
  have hG0 : Gr w (w.alloc (.cells #[.bool false, .slice none 0 0, .slice none 0 0] 26)) := Gr.alloc (Gr.refl _) _
  go_enter Tryz.func16, Tryz.ntmps16
  go_wp2_with fail
  generalize w.alloc (.cells #[.bool false, .slice none 0 0, .slice none 0 0] 26) = W0 at *
  refine (magnitude_any n _ n0 n1).mono ?_
  rintro e w1 ⟨v, rfl, hv, hg⟩
  have hR := hR0.gr hg
  have hG := hG0.step hg
  clear hR0 hG0 hg
  go_wp2_with fail
  refine (magnitude_any d _ d0 d1).mono ?_
  rintro e w2 ⟨u, rfl, hu, hg⟩
  replace hv := hv.gr hg
  replace hR := hR.gr hg
  replace hG := hG.step hg
  clear hg
  go_wp2_with fail
  refine (lowest_any _ _ _ _ hv hu HD.out lN lD).mono ?_
  intro e w3 hres
  obtain ⟨b, a1, a2, n1, n2, c1, c2, er, rfl, hres, hg⟩ := hres.form
  have HRES := Lib.hid hres
  replace hR := hR.gr hg
  replace hG := hG.step hg
  have hfl := hR.fill b a1 a2 n1 n2 c1 c2
  obtain ⟨sc0, sc1, sc2, -, -, -, -, -⟩ := hfl.1
  obtain ⟨rc0, rc1, rc2, rf0, rf1, rf2, rlt, -⟩ := id hR
  clear hres hg
  go_wp2_with fail
  refine bodyPost_ret (v := .tuple #[.agg #[.bool b, .slice a1 n1 c1, .slice a2 n2 c2], .int .i64 er]) (by simp [results, Tryz.results16, go_sem, sc0, sc1, sc2]) rfl ?_
  exact ⟨_, er, rfl, HRES.out.imp (fun h => ⟨h.1, h.2.1, hR.red b a1 a2 n1 n2 c1 c2 h.2.2⟩) id, C3.three hG (by omega) _ _ _⟩
theorem quot_64 : (quot (-6) (-4)).num = 3 ∧ (quot (-6) (-4)).den = 2 := by decide +kernel
theorem ftext_32 : ftext (quot (-6) (-4)) = [51, 47, 50] := by
  unfold ftext
  rw [quot_64.1, quot_64.2, dd_one (by omega), dd_one (by omega)]
  rfl
theorem bd_64 : Bd 64 (quot (-6) (-4)) := by
  unfold Bd
  rw [quot_64.1, quot_64.2]
  rw [nd_one (by omega) (by omega), nd_one (by omega) (by omega)]
  simp
set_option maxHeartbeats 1000000 in
theorem fawake_any (w : World) (ht : Tab w) : Calls Tryz.prog 4 #[] w fun e w' => e = .returned (.bool true) ∧ Gr w w' := by
  go_enter Tryz.func4, Tryz.ntmps4
  go_wp2_with fail
  refine (ffrom_any (-6) (-4) w (by omega) (by omega) (by omega) (by omega) (by omega)).mono ?_
  intro e w1 hres
  obtain ⟨b, a1, a2, n1, n2, c1, c2, er, rfl, hres, hg⟩ := hres.form
  obtain ⟨-, rfl, hred⟩ := hres.resolve_right (fun h => h.1 bd_64)
  have HF := Lib.hid ((hred.gr (Gr.alloc (Gr.refl w1) (.cells #[.bool b, .slice a1 n1 c1, .slice a2 n2 c2] 26))).fra bd_64)
  have hG := hg.alloc (.cells #[.bool b, .slice a1 n1 c1, .slice a2 n2 c2] 26)
  have HTX := Lib.hid (ftext_any _ _ HF.out (ht.gr hG))
  clear hres hred hg ht
  go_wp2_with fail
  refine HTX.out.mono ?_
  rintro e w2 ⟨rfl, hg⟩
  rw [ftext_32]
  go_wp2_with fail
  go_ret
  exact ⟨ret_bool (by rw [Lib.toList_data, str_data]; rfl), hG.step hg⟩
end Go.Proofs.YtjpjnbgfodlkcaaGreatDoor
/- Compare. -/
namespace Go.Proofs.YtjpjnbgfodlkcaaGreatDoor
open Go Go.RowKit Go.Sort
set_option maxRecDepth 100000
set_option linter.unusedVariables false
set_option maxHeartbeats 2000000 in
theorem fcompare_any {a b : Rat} (v u : Value) (w : World) (ha : Fra w v a) (hb : Fra w u b) :
    Calls Tryz.prog 22 #[v, u] w fun e w' => e = .returned (.tuple #[.int .i64 (rcmp a b), .int .i64 0]) ∧ Gr w w' := by
  obtain ⟨x, va, vb, A, B, rfl, hA, hB, hB0, hx, lA, lB, rfl⟩ := ha
  obtain ⟨y, vc, vd, C, D, rfl, hC, hD, hD0, hy, lC, lD, rfl⟩ := hb
  have lp : (nd (A * D)).length ≤ 1000000 := by have := nd_mul' lA lD; omega
  have lq : (nd (C * B)).length ≤ 1000000 := by have := nd_mul' lC lB; omega
  cases x
  · cases y
    · skip
      have HV : Hid (rcmp (rat false A B) (rat false C D) = fcmp false false (A * D) (C * B)) := Lib.hid (rat_fcmp hB0 hD0 hx hy)
      have HA := Lib.hid hA
      have HB := Lib.hid hB
      have HC := Lib.hid hC
      have HD := Lib.hid hD
      obtain ⟨aa, ca, rfl⟩ := num_slice hA
      obtain ⟨ab, cb, rfl⟩ := num_slice hB
      obtain ⟨ac, cc, rfl⟩ := num_slice hC
      obtain ⟨ad, cd, rfl⟩ := num_slice hD
      clear hA hB hC hD
      have hX0 := C3.new w (.bool false) (.slice aa (nd A).length ca) (.slice ab (nd B).length cb) 26 w.heap.size rfl
      have hX1 := hX0.gr (Gr.alloc (Gr.refl _) (.cells #[.bool false, .slice ac (nd C).length cc, .slice ad (nd D).length cd] 26))
      have hY1 := C3.new (w.alloc (.cells #[.bool false, .slice aa (nd A).length ca, .slice ab (nd B).length cb] 26)) (.bool false) (.slice ac (nd C).length cc) (.slice ad (nd D).length cd) 26 (w.heap.size + 1) (by simp)
      have hG1 : Gr w ((w.alloc (.cells #[.bool false, .slice aa (nd A).length ca, .slice ab (nd B).length cb] 26)).alloc (.cells #[.bool false, .slice ac (nd C).length cc, .slice ad (nd D).length cd] 26)) := (Gr.alloc (Gr.refl _) _).alloc _
      go_enter Tryz.func22, Tryz.ntmps22
      go_wp2_with fail
      clear hX0
      generalize (w.alloc (.cells #[.bool false, .slice aa (nd A).length ca, .slice ab (nd B).length cb] 26)).alloc (.cells #[.bool false, .slice ac (nd C).length cc, .slice ad (nd D).length cd] 26) = W0 at *
      have hX := hX1
      have hY := hY1
      have hG := hG1
      clear hX1 hY1 hG1
      obtain ⟨xc0, xc1, xc2, -, -, -, -, -⟩ := id hX
      obtain ⟨yc0, yc1, yc2, -, -, -, -, -⟩ := id hY
      refine (crossed_any false false _ _ _ _ _ (HA.out.gr hG) (HB.out.gr hG) (HC.out.gr hG) (HD.out.gr hG) lA lB lC lD).mono ?_
      rintro e w3 ⟨vl, vr, rfl, hl, hr, hg⟩
      replace hX := hX.gr hg
      replace hY := hY.gr hg
      replace hG := hG.step hg
      clear xc0 xc1 xc2 yc0 yc1 yc2 hg
      obtain ⟨xc0, xc1, xc2, -, -, -, -, -⟩ := id hX
      obtain ⟨yc0, yc1, yc2, -, -, -, -, -⟩ := id hY
      go_wp2_with fail
      refine (cmp_any (A := A * D) (B := C * B) _ _ _ hl hr lp).mono ?_
      rintro e w4 ⟨rfl, hg⟩
      go_wp2_with fail
      go_ret2
      exact ⟨by rw [HV.out]; rfl, hG.step hg⟩
    · skip
      have HV : Hid (rcmp (rat false A B) (rat true C D) = fcmp false true (A * D) (C * B)) := Lib.hid (rat_fcmp hB0 hD0 hx hy)
      have HA := Lib.hid hA
      have HB := Lib.hid hB
      have HC := Lib.hid hC
      have HD := Lib.hid hD
      obtain ⟨aa, ca, rfl⟩ := num_slice hA
      obtain ⟨ab, cb, rfl⟩ := num_slice hB
      obtain ⟨ac, cc, rfl⟩ := num_slice hC
      obtain ⟨ad, cd, rfl⟩ := num_slice hD
      clear hA hB hC hD
      have hX0 := C3.new w (.bool false) (.slice aa (nd A).length ca) (.slice ab (nd B).length cb) 26 w.heap.size rfl
      have hX1 := hX0.gr (Gr.alloc (Gr.refl _) (.cells #[.bool true, .slice ac (nd C).length cc, .slice ad (nd D).length cd] 26))
      have hY1 := C3.new (w.alloc (.cells #[.bool false, .slice aa (nd A).length ca, .slice ab (nd B).length cb] 26)) (.bool true) (.slice ac (nd C).length cc) (.slice ad (nd D).length cd) 26 (w.heap.size + 1) (by simp)
      have hG1 : Gr w ((w.alloc (.cells #[.bool false, .slice aa (nd A).length ca, .slice ab (nd B).length cb] 26)).alloc (.cells #[.bool true, .slice ac (nd C).length cc, .slice ad (nd D).length cd] 26)) := (Gr.alloc (Gr.refl _) _).alloc _
      go_enter Tryz.func22, Tryz.ntmps22
      go_wp2_with fail
      clear hX0
      generalize (w.alloc (.cells #[.bool false, .slice aa (nd A).length ca, .slice ab (nd B).length cb] 26)).alloc (.cells #[.bool true, .slice ac (nd C).length cc, .slice ad (nd D).length cd] 26) = W0 at *
      have hX := hX1
      have hY := hY1
      have hG := hG1
      clear hX1 hY1 hG1
      obtain ⟨xc0, xc1, xc2, -, -, -, -, -⟩ := id hX
      obtain ⟨yc0, yc1, yc2, -, -, -, -, -⟩ := id hY
      refine (crossed_any false true _ _ _ _ _ (HA.out.gr hG) (HB.out.gr hG) (HC.out.gr hG) (HD.out.gr hG) lA lB lC lD).mono ?_
      rintro e w3 ⟨vl, vr, rfl, hl, hr, hg⟩
      replace hX := hX.gr hg
      replace hY := hY.gr hg
      replace hG := hG.step hg
      clear xc0 xc1 xc2 yc0 yc1 yc2 hg
      obtain ⟨xc0, xc1, xc2, -, -, -, -, -⟩ := id hX
      obtain ⟨yc0, yc1, yc2, -, -, -, -, -⟩ := id hY
      go_wp2_with fail
      go_ret2
      exact ⟨by rw [HV.out]; rfl, hG⟩
  · cases y
    · skip
      have HV : Hid (rcmp (rat true A B) (rat false C D) = fcmp true false (A * D) (C * B)) := Lib.hid (rat_fcmp hB0 hD0 hx hy)
      have HA := Lib.hid hA
      have HB := Lib.hid hB
      have HC := Lib.hid hC
      have HD := Lib.hid hD
      obtain ⟨aa, ca, rfl⟩ := num_slice hA
      obtain ⟨ab, cb, rfl⟩ := num_slice hB
      obtain ⟨ac, cc, rfl⟩ := num_slice hC
      obtain ⟨ad, cd, rfl⟩ := num_slice hD
      clear hA hB hC hD
      have hX0 := C3.new w (.bool true) (.slice aa (nd A).length ca) (.slice ab (nd B).length cb) 26 w.heap.size rfl
      have hX1 := hX0.gr (Gr.alloc (Gr.refl _) (.cells #[.bool false, .slice ac (nd C).length cc, .slice ad (nd D).length cd] 26))
      have hY1 := C3.new (w.alloc (.cells #[.bool true, .slice aa (nd A).length ca, .slice ab (nd B).length cb] 26)) (.bool false) (.slice ac (nd C).length cc) (.slice ad (nd D).length cd) 26 (w.heap.size + 1) (by simp)
      have hG1 : Gr w ((w.alloc (.cells #[.bool true, .slice aa (nd A).length ca, .slice ab (nd B).length cb] 26)).alloc (.cells #[.bool false, .slice ac (nd C).length cc, .slice ad (nd D).length cd] 26)) := (Gr.alloc (Gr.refl _) _).alloc _
      go_enter Tryz.func22, Tryz.ntmps22
      go_wp2_with fail
      clear hX0
      generalize (w.alloc (.cells #[.bool true, .slice aa (nd A).length ca, .slice ab (nd B).length cb] 26)).alloc (.cells #[.bool false, .slice ac (nd C).length cc, .slice ad (nd D).length cd] 26) = W0 at *
      have hX := hX1
      have hY := hY1
      have hG := hG1
      clear hX1 hY1 hG1
      obtain ⟨xc0, xc1, xc2, -, -, -, -, -⟩ := id hX
      obtain ⟨yc0, yc1, yc2, -, -, -, -, -⟩ := id hY
      refine (crossed_any true false _ _ _ _ _ (HA.out.gr hG) (HB.out.gr hG) (HC.out.gr hG) (HD.out.gr hG) lA lB lC lD).mono ?_
      rintro e w3 ⟨vl, vr, rfl, hl, hr, hg⟩
      replace hX := hX.gr hg
      replace hY := hY.gr hg
      replace hG := hG.step hg
      clear xc0 xc1 xc2 yc0 yc1 yc2 hg
      obtain ⟨xc0, xc1, xc2, -, -, -, -, -⟩ := id hX
      obtain ⟨yc0, yc1, yc2, -, -, -, -, -⟩ := id hY
      go_wp2_with fail
      go_ret2
      exact ⟨by rw [HV.out]; rfl, hG⟩
    · skip
      have HV : Hid (rcmp (rat true A B) (rat true C D) = fcmp true true (A * D) (C * B)) := Lib.hid (rat_fcmp hB0 hD0 hx hy)
      have HA := Lib.hid hA
      have HB := Lib.hid hB
      have HC := Lib.hid hC
      have HD := Lib.hid hD
      obtain ⟨aa, ca, rfl⟩ := num_slice hA
      obtain ⟨ab, cb, rfl⟩ := num_slice hB
      obtain ⟨ac, cc, rfl⟩ := num_slice hC
      obtain ⟨ad, cd, rfl⟩ := num_slice hD
      clear hA hB hC hD
      have hX0 := C3.new w (.bool true) (.slice aa (nd A).length ca) (.slice ab (nd B).length cb) 26 w.heap.size rfl
      have hX1 := hX0.gr (Gr.alloc (Gr.refl _) (.cells #[.bool true, .slice ac (nd C).length cc, .slice ad (nd D).length cd] 26))
      have hY1 := C3.new (w.alloc (.cells #[.bool true, .slice aa (nd A).length ca, .slice ab (nd B).length cb] 26)) (.bool true) (.slice ac (nd C).length cc) (.slice ad (nd D).length cd) 26 (w.heap.size + 1) (by simp)
      have hG1 : Gr w ((w.alloc (.cells #[.bool true, .slice aa (nd A).length ca, .slice ab (nd B).length cb] 26)).alloc (.cells #[.bool true, .slice ac (nd C).length cc, .slice ad (nd D).length cd] 26)) := (Gr.alloc (Gr.refl _) _).alloc _
      go_enter Tryz.func22, Tryz.ntmps22
      go_wp2_with fail
      clear hX0
      generalize (w.alloc (.cells #[.bool true, .slice aa (nd A).length ca, .slice ab (nd B).length cb] 26)).alloc (.cells #[.bool true, .slice ac (nd C).length cc, .slice ad (nd D).length cd] 26) = W0 at *
      have hX := hX1
      have hY := hY1
      have hG := hG1
      clear hX1 hY1 hG1
      obtain ⟨xc0, xc1, xc2, -, -, -, -, -⟩ := id hX
      obtain ⟨yc0, yc1, yc2, -, -, -, -, -⟩ := id hY
      refine (crossed_any true true _ _ _ _ _ (HA.out.gr hG) (HB.out.gr hG) (HC.out.gr hG) (HD.out.gr hG) lA lB lC lD).mono ?_
      rintro e w3 ⟨vl, vr, rfl, hl, hr, hg⟩
      replace hX := hX.gr hg
      replace hY := hY.gr hg
      replace hG := hG.step hg
      clear xc0 xc1 xc2 yc0 yc1 yc2 hg
      obtain ⟨xc0, xc1, xc2, -, -, -, -, -⟩ := id hX
      obtain ⟨yc0, yc1, yc2, -, -, -, -, -⟩ := id hY
      go_wp2_with fail
      refine (cmp_any (A := C * B) (B := A * D) _ _ _ hr hl lq).mono ?_
      rintro e w4 ⟨rfl, hg⟩
      go_wp2_with fail
      go_ret2
      exact ⟨by rw [HV.out]; rfl, hG.step hg⟩
theorem rcmp_lt {a b : Rat} (h : a < b) : rcmp a b = -1 := by unfold rcmp; rw [if_pos h]
theorem rcmp_gt {a b : Rat} (h : b < a) : rcmp a b = 1 := by unfold rcmp; rw [if_neg (fun h2 => Rat.lt_irrefl (Std.lt_trans h h2)), if_pos h]
theorem rcmp_self (a : Rat) : rcmp a a = 0 := by unfold rcmp; rw [if_neg Rat.lt_irrefl, if_neg Rat.lt_irrefl]
theorem rat_tri (a b : Rat) : a < b ∨ a = b ∨ b < a := by
  by_cases h1 : a < b
  · exact .inl h1
  · by_cases h2 : b < a
    · exact .inr (.inr h2)
    · exact .inr (.inl (Rat.le_antisymm (Rat.not_lt.1 h2) (Rat.not_lt.1 h1)))
theorem rcmp_facts (X Y Z : Rat) :
    rcmp X Y = -rcmp Y X ∧ (decide (rcmp X Y < 0) = decide ((X - Y).num < 0)) ∧ (rcmp X Y = 0 ↔ X - Y = 0) ∧ (0 < rcmp X Y ∨ 0 < rcmp Y Z ∨ rcmp X Z ≤ 0) ∧ rcmp (X + Z) (Y + Z) = rcmp X Y := by
  have hsub : ∀ a b : Rat, a - b = 0 ↔ a = b := fun a b => by
    constructor
    · intro h; have := Rat.sub_add_cancel (a := a) (b := b); rw [h, Rat.zero_add] at this; exact this.symm
    · rintro rfl; exact Rat.sub_self
  have hnum : ∀ a b : Rat, (a - b).num < 0 ↔ a < b := fun a b => (lt_iff_sub a b).symm
  refine ⟨?_, ?_, ?_, ?_, ?_⟩
  · rcases rat_tri X Y with h | h | h
    · rw [rcmp_lt h, rcmp_gt h]
    · rw [h, rcmp_self]; rfl
    · rw [rcmp_gt h, rcmp_lt h]; rfl
  · rw [decide_eq_decide, hnum]
    rcases rat_tri X Y with h | h | h
    · rw [rcmp_lt h]; exact ⟨fun _ => h, fun _ => by omega⟩
    · rw [h, rcmp_self]; exact ⟨fun h => by omega, fun h => absurd h Rat.lt_irrefl⟩
    · rw [rcmp_gt h]; exact ⟨fun h => by omega, fun h2 => absurd (Std.lt_trans h h2) Rat.lt_irrefl⟩
  · rw [hsub]
    rcases rat_tri X Y with h | h | h
    · rw [rcmp_lt h]; exact ⟨fun h => by omega, fun h2 => absurd (h2 ▸ h) Rat.lt_irrefl⟩
    · exact ⟨fun _ => h, fun _ => by rw [h, rcmp_self]⟩
    · rw [rcmp_gt h]; exact ⟨fun h => by omega, fun h2 => absurd (h2 ▸ h) Rat.lt_irrefl⟩
  · rcases rat_tri X Y with h | h | h
    · rcases rat_tri Y Z with k | k | k
      · refine .inr (.inr ?_); rw [rcmp_lt (Std.lt_trans h k)]; omega
      · refine .inr (.inr ?_); rw [← k, rcmp_lt h]; omega
      · refine .inr (.inl ?_); rw [rcmp_gt k]; omega
    · rcases rat_tri Y Z with k | k | k
      · refine .inr (.inr ?_); rw [h, rcmp_lt k]; omega
      · refine .inr (.inr ?_); rw [h, k, rcmp_self]; omega
      · refine .inr (.inl ?_); rw [rcmp_gt k]; omega
    · refine .inl ?_; rw [rcmp_gt h]; omega
  · unfold rcmp
    simp only [Rat.add_lt_add_right]
end Go.Proofs.YtjpjnbgfodlkcaaGreatDoor
/- Int; Floor and Ceil. -/
namespace Go.Proofs.YtjpjnbgfodlkcaaGreatDoor
open Go Go.RowKit Go.Sort
set_option maxRecDepth 100000
set_option linter.unusedVariables false
set_option linter.unusedSimpArgs false
theorem lit_three (w : World) : Num (w.alloc (.cells #[.int .i64 0, .int .i64 0, .int .i64 4] 3)) (.slice (some ⟨w.heap.size, 0, none⟩) 3 3) 4611686018427387904 := by
  unfold Num
  have e : nd 4611686018427387904 = [0, 0, 4] := by
    rw [nd_pos (by omega), nd_pos (by omega), nd_pos (by omega), show 4611686018427387904 / 1073741824 / 1073741824 / 1073741824 = 0 from rfl, nd_zero]
  rw [e]
  refine ⟨_, 3, rfl, Nat.le_refl _, by omega, fun i hi => ⟨w.heap.size, 0, rfl, trivial, ?_⟩⟩
  have : i = 0 ∨ i = 1 ∨ i = 2 := by simp at hi; omega
  rcases this with rfl | rfl | rfl <;> simp
theorem shl_at (x y z : Int) (hy : 0 ≤ y) (h : IntKind.i64.wrap (x * 2 ^ min y.toNat 64) = z) (w : World) : (Op.shift .shl .i64 x .i64 y).run Tryz.prog w = .ok (.int .i64 z) w := by
  unfold Op.shift
  rw [if_neg (by omega), show IntKind.i64.bits = 64 from rfl]
  show Result.ok _ _ = _
  rw [h]
/-- an int, or ErrRange -/
def IntRes (w : World) (N : Nat) (e : Ending) (w' : World) : Prop :=
  ∃ z er : Int, e = .returned (.tuple #[.int .i64 z, .int .i64 er]) ∧ ((N ≤ 4611686018427387904 ∧ z = N ∧ er = 0) ∨ (4611686018427387904 < N ∧ z = 0 ∧ er = 1)) ∧ 0 ≤ z ∧ z ≤ 4611686018427387904 ∧ Gr w w'
set_option maxHeartbeats 2000000 in
theorem int_any {N : Nat} (v : Value) (w : World) (h : Num w v N) (hN : (nd N).length ≤ 256) :
    Calls Tryz.prog 83 #[v] w (IntRes w N) := by
  have HV := Lib.hid (num_valid h hN)
  have HC := Lib.hid (cmp_any (A := N) (B := 4611686018427387904) v _ _ (h.gr (Gr.alloc (Gr.refl _) _)) (lit_three w) (by omega))
  have HN := Lib.hid h
  obtain ⟨a, c, rfl⟩ := num_slice h
  clear h
  by_cases hle : N ≤ 4611686018427387904
  · have hl3 : (nd N).length ≤ 3 := (nd_len N 3).2 (by omega)
    have HC1 : Hid (ncmp N 4611686018427387904 ≤ 0) := Lib.hid (by rcases Nat.eq_or_lt_of_le hle with h | h; rw [h, ncmp_eq]; omega; rw [ncmp_lt h]; omega)
    have HLE := Lib.hid hle
    clear hle
    go_enter Tryz.func83, Tryz.ntmps83
    go_wp2_with fail
    refine HV.out.mono ?_
    rintro e w' ⟨rfl, rfl⟩
    go_wp2_with fail
    refine HC.out.mono ?_
    rintro e w1 ⟨rfl, hg⟩
    have d : decide (0 < ncmp N 4611686018427387904) = false := by have := HC1.out; simpa using this
    have hG : Gr w w1 := (Gr.alloc (Gr.refl w) _).step hg
    have HN1 := Lib.hid (HN.out.gr hG)
    clear hg
    go_wp2_with fail
    go_loopw [5, 17] (fun sv s wr => ∃ k : Nat, s = .int .i64 k ∧ sv = .int .i64 (nv ((nd N).take k) : Nat) ∧ k ≤ (nd N).length ∧ Gr w1 wr) (fun _ s _ => (nd N).length - (intOf s).toNat)
    case atStart => exact ⟨0, rfl, by simp [nv], Nat.zero_le _, Gr.refl _⟩
    case round =>
      obtain ⟨k, rfl, rfl, hk, hgr⟩ := hrel
      by_cases hlt : k < (nd N).length
      · have d1 : decide (k < (nd N).length) = true := by simpa using hlt
        obtain ⟨b, off, rfl, -, hc⟩ := (HN1.out.gr hgr).at' hlt
        have hx := lim_getD (lim_nd N) k
        have hts := take_split' (nd N) k
        have hub : nv ((nd N).take (k + 1)) ≤ N := by
          have := nv_take_drop (nd N) (k + 1) (by omega)
          rw [nv_nd] at this; omega
        rw [hts] at hub
        have HTS := Lib.hid hts
        have hle := HLE.out
        have hsb := nv_lt (lim_take (lim_nd N) k)
        rw [List.length_take, Nat.min_eq_left (Nat.le_of_lt hlt)] at hsb
        generalize (nd N).getD k 0 = x at *
        generalize nv ((nd N).take k) = s at *
        have HSB := Lib.hid hsb
        have hk3 : k = 0 ∨ k = 1 ∨ k = 2 := by omega
        have k1 : (k : Int) < ((nd N).length : Int) := by omega
        have HUB : Hid (s + 1073741824 ^ k * x ≤ 4611686018427387904) := Lib.hid (Nat.le_trans hub hle)
        have x1 : (x : Int) < 1073741824 := by omega
        clear hts hub hle hsb
        rcases hk3 with rfl | rfl | rfl
        · have hsh := shl_at (x : Int) 0 (x) (by omega) (by show IntKind.i64.wrap _ = _; rw [show (2 : Int) ^ min (Int.toNat 0) 64 = 1 from rfl]; rw [IntWalk.i64_in _ (by omega)]; omega)
          have sb : (s : Int) < 1 := by have h := HSB.out; simp only [Nat.reducePow, Nat.pow_zero, Nat.pow_one] at h; omega
          have s0 : (0 : Int) ≤ (s : Int) := by omega
          clear HC1 d hl3 hk hN
          rw [show ((0 : Nat) : Int) = 0 from rfl] at k1 ⊢
          rw [Nat.add_zero] at hc
          go_wp2_with fail
          exact ⟨⟨1, rfl, by rw [HTS.out, Nat.pow_zero, Nat.one_mul]; simp, by omega, hgr⟩, by simp only [intOf]; omega⟩
        · have hsh := shl_at (x : Int) 30 (x * 1073741824) (by omega) (by show IntKind.i64.wrap _ = _; rw [show (2 : Int) ^ min (Int.toNat 30) 64 = 1073741824 from rfl]; rw [IntWalk.i64_in _ (by omega)])
          have sb : (s : Int) < 1073741824 := by have h := HSB.out; simp only [Nat.reducePow, Nat.pow_zero, Nat.pow_one] at h; omega
          have s0 : (0 : Int) ≤ (s : Int) := by omega
          clear HC1 d hl3 hk hN
          rw [show ((1 : Nat) : Int) = 1 from rfl] at k1 ⊢
          go_wp2_with fail
          exact ⟨⟨2, rfl, by rw [HTS.out, Nat.pow_one]; exact iv (by omega), by omega, hgr⟩, by simp only [intOf]; omega⟩
        · have x4 : (x : Int) ≤ 4 := by have h := HUB.out; simp only [Nat.reducePow] at h; omega
          have hsh := shl_at (x : Int) 60 (x * 1152921504606846976) (by omega) (by show IntKind.i64.wrap _ = _; rw [show (2 : Int) ^ min (Int.toNat 60) 64 = 1152921504606846976 from rfl]; rw [IntWalk.i64_in _ (by omega)])
          have sb : (s : Int) < 1152921504606846976 := by have h := HSB.out; simp only [Nat.reducePow, Nat.pow_zero, Nat.pow_one] at h; omega
          have x4 : (x : Int) ≤ 4 := by have h := HUB.out; simp only [Nat.reducePow] at h; omega
          have s0 : (0 : Int) ≤ (s : Int) := by omega
          clear HC1 d hl3 hk hN
          rw [show ((2 : Nat) : Int) = 2 from rfl] at k1 ⊢
          go_wp2_with fail
          exact ⟨⟨3, rfl, by rw [HTS.out, show 1073741824 ^ 2 = 1152921504606846976 from rfl]; exact iv (by omega), by omega, hgr⟩, by simp only [intOf]; omega⟩
      · obtain rfl : k = (nd N).length := by omega
        have hs : nv ((nd N).take (nd N).length) = N := by rw [List.take_of_length_le (Nat.le_refl _), nv_nd]
        rw [hs]
        go_wp2_with fail
        go_ret2
        exact ⟨_, _, rfl, .inl ⟨HLE.out, rfl, rfl⟩, by omega, by have := HLE.out; omega, hG.step hgr⟩
  · have HC1 : Hid (ncmp N 4611686018427387904 = 1) := Lib.hid (ncmp_gt (by omega))
    have HLE : Hid (4611686018427387904 < N) := Lib.hid (by omega)
    clear hle
    go_enter Tryz.func83, Tryz.ntmps83
    go_wp2_with fail
    refine HV.out.mono ?_
    rintro e w' ⟨rfl, rfl⟩
    go_wp2_with fail
    refine HC.out.mono ?_
    rintro e w1 ⟨rfl, hg⟩
    rw [HC1.out]
    have hG : Gr w w1 := (Gr.alloc (Gr.refl w) _).step hg
    go_wp2_with fail
    go_ret2
    exact ⟨_, _, rfl, .inr ⟨HLE.out, rfl, rfl⟩, by omega, by omega, hG⟩
/-- an int with the sign x, or ErrRange -/
def RndRes (w : World) (x : Bool) (M : Nat) (e : Ending) (w' : World) : Prop :=
  ∃ z er : Int, e = .returned (.tuple #[.int .i64 z, .int .i64 er]) ∧ ((M ≤ 4611686018427387904 ∧ z = sgn x M ∧ er = 0) ∨ (4611686018427387904 < M ∧ z = 0 ∧ er = 1)) ∧ Gr w w'
theorem len_one' : (nd 1).length ≤ 64 := by rw [nd_one (x := 1) (by omega) (by omega)]; simp
set_option maxHeartbeats 2000000 in
theorem rounded_any {A B : Nat} (x aw : Bool) (va vb : Value) (w : World) (hA : Num w va A) (hB : Num w vb B) (hB0 : 0 < B) (hx : x = true → 0 < A) (lA : (nd A).length ≤ 64) (lB : (nd B).length ≤ 64) :
    Calls Tryz.prog 49 #[.agg #[.bool x, va, vb], .bool aw] w (RndRes w x (rnd aw A B)) := by
  have HA := Lib.hid hA
  have HB := Lib.hid hB
  have HB0 := Lib.hid hB0
  have HX : Hid (x = true → 0 < A) := Lib.hid hx
  obtain ⟨aa, ca, rfl⟩ := num_slice hA
  obtain ⟨ab, cb, rfl⟩ := num_slice hB
  have lq : (nd (A / B)).length ≤ 64 := nd_le_len' lA (Nat.div_le_self _ _)
  clear hA hB hB0 hx
  have hX0 := C3.new w (.bool x) (.slice aa (nd A).length ca) (.slice ab (nd B).length cb) 26 w.heap.size rfl
  have hG0 : Gr w (w.alloc (.cells #[.bool x, .slice aa (nd A).length ca, .slice ab (nd B).length cb] 26)) := Gr.alloc (Gr.refl _) _
  cases aw
  · have HM : Hid (rnd false A B = A / B) := Lib.hid rfl
    cases x
    · skip
      go_enter Tryz.func49, Tryz.ntmps49
      go_wp2_with fail
      generalize w.alloc (.cells #[.bool false, .slice aa (nd A).length ca, .slice ab (nd B).length cb] 26) = W0 at *
      refine (fvalid_yes false _ _ _ (HA.out.gr hG0) (HB.out.gr hG0) HB0.out (fun h => by cases h) lA lB).mono ?_
      rintro e w1 ⟨rfl, hg⟩
      have hX := hX0.gr hg
      have hG := hG0.step hg
      obtain ⟨xc0, xc1, xc2, -, -, -, -, -⟩ := id hX
      clear hX0 hG0 hg
      go_wp2_with fail
      refine (divmod_any _ _ _ (HA.out.gr hG) (HB.out.gr hG) HB0.out (by omega) (by omega)).mono ?_
      rintro e w2 ⟨vq, vr, rfl, hq, hr, hg⟩
      obtain ⟨ar, cr, rfl⟩ := num_slice hr
      have HQ := Lib.hid hq
      replace hX := hX.gr hg
      replace hG := hG.step hg
      clear xc0 xc1 xc2 hq hr hg
      obtain ⟨xc0, xc1, xc2, -, -, -, -, -⟩ := id hX
      go_wp2_with fail
      refine (int_any _ _ HQ.out (by omega)).mono ?_
      rintro e w4 ⟨z, er, rfl, hz, hz0, hz1, hg⟩
      replace hX := hX.gr hg
      replace hG := hG.step hg
      clear xc0 xc1 xc2 hg
      obtain ⟨xc0, xc1, xc2, -, -, -, -, -⟩ := id hX
      have HZ := Lib.hid hz
      clear hz
      go_wp2_with fail
      go_ret2
      refine ⟨_, _, rfl, ?_, hG⟩
      have hz := HZ.out
      unfold sgn
      simp only [if_true, if_false, Bool.false_eq_true]
      rw [HM.out]
      generalize A / B = q at hz ⊢
      omega
    · skip
      go_enter Tryz.func49, Tryz.ntmps49
      go_wp2_with fail
      generalize w.alloc (.cells #[.bool true, .slice aa (nd A).length ca, .slice ab (nd B).length cb] 26) = W0 at *
      refine (fvalid_yes true _ _ _ (HA.out.gr hG0) (HB.out.gr hG0) HB0.out (fun _ => HX.out trivial) lA lB).mono ?_
      rintro e w1 ⟨rfl, hg⟩
      have hX := hX0.gr hg
      have hG := hG0.step hg
      obtain ⟨xc0, xc1, xc2, -, -, -, -, -⟩ := id hX
      clear hX0 hG0 hg
      go_wp2_with fail
      refine (divmod_any _ _ _ (HA.out.gr hG) (HB.out.gr hG) HB0.out (by omega) (by omega)).mono ?_
      rintro e w2 ⟨vq, vr, rfl, hq, hr, hg⟩
      obtain ⟨ar, cr, rfl⟩ := num_slice hr
      have HQ := Lib.hid hq
      replace hX := hX.gr hg
      replace hG := hG.step hg
      clear xc0 xc1 xc2 hq hr hg
      obtain ⟨xc0, xc1, xc2, -, -, -, -, -⟩ := id hX
      go_wp2_with fail
      refine (int_any _ _ HQ.out (by omega)).mono ?_
      rintro e w4 ⟨z, er, rfl, hz, hz0, hz1, hg⟩
      replace hX := hX.gr hg
      replace hG := hG.step hg
      clear xc0 xc1 xc2 hg
      obtain ⟨xc0, xc1, xc2, -, -, -, -, -⟩ := id hX
      have HZ := Lib.hid hz
      clear hz
      go_wp2_with fail
      go_ret2
      refine ⟨_, _, rfl, ?_, hG⟩
      have hz := HZ.out
      unfold sgn
      simp only [if_true, if_false, Bool.false_eq_true]
      rw [HM.out]
      generalize A / B = q at hz ⊢
      omega
  · by_cases h0 : 0 < A % B
    · have HM : Hid (rnd true A B = A / B + 1) := Lib.hid (by unfold rnd; rw [decide_eq_true h0]; rfl)
      have hrl : 0 < (nd (A % B)).length := by rw [nd_pos h0]; simp
      have dR : decide (0 < (nd (A % B)).length) = true := by simpa using hrl
      clear h0 hrl
      cases x
      · skip
        go_enter Tryz.func49, Tryz.ntmps49
        go_wp2_with fail
        generalize w.alloc (.cells #[.bool false, .slice aa (nd A).length ca, .slice ab (nd B).length cb] 26) = W0 at *
        refine (fvalid_yes false _ _ _ (HA.out.gr hG0) (HB.out.gr hG0) HB0.out (fun h => by cases h) lA lB).mono ?_
        rintro e w1 ⟨rfl, hg⟩
        have hX := hX0.gr hg
        have hG := hG0.step hg
        obtain ⟨xc0, xc1, xc2, -, -, -, -, -⟩ := id hX
        clear hX0 hG0 hg
        go_wp2_with fail
        refine (divmod_any _ _ _ (HA.out.gr hG) (HB.out.gr hG) HB0.out (by omega) (by omega)).mono ?_
        rintro e w2 ⟨vq, vr, rfl, hq, hr, hg⟩
        obtain ⟨ar, cr, rfl⟩ := num_slice hr
        have HQ := Lib.hid hq
        replace hX := hX.gr hg
        replace hG := hG.step hg
        clear xc0 xc1 xc2 hq hr hg
        obtain ⟨xc0, xc1, xc2, -, -, -, -, -⟩ := id hX
        go_wp2_with fail
        have HO := Lib.hid (num_lit w2 1 1 rfl (by omega) (by omega))
        refine (add_129 _ _ _ (HQ.out.gr (Gr.alloc (Gr.refl _) _)) HO.out (by omega) (by rw [nd_one (by omega) (by omega)]; simp)).mono ?_
        rintro e w3 ⟨vs, rfl, hs, hg⟩
        have hg3 := (Gr.alloc (Gr.refl w2) (.cells #[.int .i64 1] 3)).step hg
        replace hX := hX.gr hg3
        replace hG := hG.step hg3
        clear xc0 xc1 xc2 hg hg3
        obtain ⟨xc0, xc1, xc2, -, -, -, -, -⟩ := id hX
        go_wp2_with fail
        refine (int_any _ _ hs (by have := nd_add' (A := A / B) (B := 1) (k := 64) (by omega) len_one'; omega)).mono ?_
        rintro e w4 ⟨z, er, rfl, hz, hz0, hz1, hg⟩
        replace hX := hX.gr hg
        replace hG := hG.step hg
        clear xc0 xc1 xc2 hg
        obtain ⟨xc0, xc1, xc2, -, -, -, -, -⟩ := id hX
        have HZ := Lib.hid hz
        clear hz
        go_wp2_with fail
        go_ret2
        refine ⟨_, _, rfl, ?_, hG⟩
        have hz := HZ.out
        unfold sgn
        simp only [if_true, if_false, Bool.false_eq_true]
        rw [HM.out]
        generalize A / B = q at hz ⊢
        omega
      · skip
        go_enter Tryz.func49, Tryz.ntmps49
        go_wp2_with fail
        generalize w.alloc (.cells #[.bool true, .slice aa (nd A).length ca, .slice ab (nd B).length cb] 26) = W0 at *
        refine (fvalid_yes true _ _ _ (HA.out.gr hG0) (HB.out.gr hG0) HB0.out (fun _ => HX.out trivial) lA lB).mono ?_
        rintro e w1 ⟨rfl, hg⟩
        have hX := hX0.gr hg
        have hG := hG0.step hg
        obtain ⟨xc0, xc1, xc2, -, -, -, -, -⟩ := id hX
        clear hX0 hG0 hg
        go_wp2_with fail
        refine (divmod_any _ _ _ (HA.out.gr hG) (HB.out.gr hG) HB0.out (by omega) (by omega)).mono ?_
        rintro e w2 ⟨vq, vr, rfl, hq, hr, hg⟩
        obtain ⟨ar, cr, rfl⟩ := num_slice hr
        have HQ := Lib.hid hq
        replace hX := hX.gr hg
        replace hG := hG.step hg
        clear xc0 xc1 xc2 hq hr hg
        obtain ⟨xc0, xc1, xc2, -, -, -, -, -⟩ := id hX
        go_wp2_with fail
        have HO := Lib.hid (num_lit w2 1 1 rfl (by omega) (by omega))
        refine (add_129 _ _ _ (HQ.out.gr (Gr.alloc (Gr.refl _) _)) HO.out (by omega) (by rw [nd_one (by omega) (by omega)]; simp)).mono ?_
        rintro e w3 ⟨vs, rfl, hs, hg⟩
        have hg3 := (Gr.alloc (Gr.refl w2) (.cells #[.int .i64 1] 3)).step hg
        replace hX := hX.gr hg3
        replace hG := hG.step hg3
        clear xc0 xc1 xc2 hg hg3
        obtain ⟨xc0, xc1, xc2, -, -, -, -, -⟩ := id hX
        go_wp2_with fail
        refine (int_any _ _ hs (by have := nd_add' (A := A / B) (B := 1) (k := 64) (by omega) len_one'; omega)).mono ?_
        rintro e w4 ⟨z, er, rfl, hz, hz0, hz1, hg⟩
        replace hX := hX.gr hg
        replace hG := hG.step hg
        clear xc0 xc1 xc2 hg
        obtain ⟨xc0, xc1, xc2, -, -, -, -, -⟩ := id hX
        have HZ := Lib.hid hz
        clear hz
        go_wp2_with fail
        go_ret2
        refine ⟨_, _, rfl, ?_, hG⟩
        have hz := HZ.out
        unfold sgn
        simp only [if_true, if_false, Bool.false_eq_true]
        rw [HM.out]
        generalize A / B = q at hz ⊢
        omega
    · have HM : Hid (rnd true A B = A / B) := Lib.hid (by unfold rnd; rw [decide_eq_false h0]; rfl)
      have dR : decide (0 < (nd (A % B)).length) = false := by rw [show A % B = 0 by omega, nd_zero]; rfl
      clear h0
      cases x
      · skip
        go_enter Tryz.func49, Tryz.ntmps49
        go_wp2_with fail
        generalize w.alloc (.cells #[.bool false, .slice aa (nd A).length ca, .slice ab (nd B).length cb] 26) = W0 at *
        refine (fvalid_yes false _ _ _ (HA.out.gr hG0) (HB.out.gr hG0) HB0.out (fun h => by cases h) lA lB).mono ?_
        rintro e w1 ⟨rfl, hg⟩
        have hX := hX0.gr hg
        have hG := hG0.step hg
        obtain ⟨xc0, xc1, xc2, -, -, -, -, -⟩ := id hX
        clear hX0 hG0 hg
        go_wp2_with fail
        refine (divmod_any _ _ _ (HA.out.gr hG) (HB.out.gr hG) HB0.out (by omega) (by omega)).mono ?_
        rintro e w2 ⟨vq, vr, rfl, hq, hr, hg⟩
        obtain ⟨ar, cr, rfl⟩ := num_slice hr
        have HQ := Lib.hid hq
        replace hX := hX.gr hg
        replace hG := hG.step hg
        clear xc0 xc1 xc2 hq hr hg
        obtain ⟨xc0, xc1, xc2, -, -, -, -, -⟩ := id hX
        go_wp2_with fail
        refine (int_any _ _ HQ.out (by omega)).mono ?_
        rintro e w4 ⟨z, er, rfl, hz, hz0, hz1, hg⟩
        replace hX := hX.gr hg
        replace hG := hG.step hg
        clear xc0 xc1 xc2 hg
        obtain ⟨xc0, xc1, xc2, -, -, -, -, -⟩ := id hX
        have HZ := Lib.hid hz
        clear hz
        go_wp2_with fail
        go_ret2
        refine ⟨_, _, rfl, ?_, hG⟩
        have hz := HZ.out
        unfold sgn
        simp only [if_true, if_false, Bool.false_eq_true]
        rw [HM.out]
        generalize A / B = q at hz ⊢
        omega
      · skip
        go_enter Tryz.func49, Tryz.ntmps49
        go_wp2_with fail
        generalize w.alloc (.cells #[.bool true, .slice aa (nd A).length ca, .slice ab (nd B).length cb] 26) = W0 at *
        refine (fvalid_yes true _ _ _ (HA.out.gr hG0) (HB.out.gr hG0) HB0.out (fun _ => HX.out trivial) lA lB).mono ?_
        rintro e w1 ⟨rfl, hg⟩
        have hX := hX0.gr hg
        have hG := hG0.step hg
        obtain ⟨xc0, xc1, xc2, -, -, -, -, -⟩ := id hX
        clear hX0 hG0 hg
        go_wp2_with fail
        refine (divmod_any _ _ _ (HA.out.gr hG) (HB.out.gr hG) HB0.out (by omega) (by omega)).mono ?_
        rintro e w2 ⟨vq, vr, rfl, hq, hr, hg⟩
        obtain ⟨ar, cr, rfl⟩ := num_slice hr
        have HQ := Lib.hid hq
        replace hX := hX.gr hg
        replace hG := hG.step hg
        clear xc0 xc1 xc2 hq hr hg
        obtain ⟨xc0, xc1, xc2, -, -, -, -, -⟩ := id hX
        go_wp2_with fail
        refine (int_any _ _ HQ.out (by omega)).mono ?_
        rintro e w4 ⟨z, er, rfl, hz, hz0, hz1, hg⟩
        replace hX := hX.gr hg
        replace hG := hG.step hg
        clear xc0 xc1 xc2 hg
        obtain ⟨xc0, xc1, xc2, -, -, -, -, -⟩ := id hX
        have HZ := Lib.hid hz
        clear hz
        go_wp2_with fail
        go_ret2
        refine ⟨_, _, rfl, ?_, hG⟩
        have hz := HZ.out
        unfold sgn
        simp only [if_true, if_false, Bool.false_eq_true]
        rw [HM.out]
        generalize A / B = q at hz ⊢
        omega
end Go.Proofs.YtjpjnbgfodlkcaaGreatDoor
/- The walk of the statement on rounding. -/
namespace Go.Proofs.YtjpjnbgfodlkcaaGreatDoor
open Go Go.RowKit Go.Sort
set_option maxRecDepth 100000
set_option linter.unusedVariables false
theorem ceil_le {X : Rat} {n : Int} : ceil X ≤ n ↔ X ≤ (n : Rat) := by
  unfold ceil
  have h : -(-X).floor ≤ n ↔ -n ≤ (-X).floor := by omega
  rw [h, Rat.le_floor_iff, Rat.intCast_neg, Rat.neg_le_neg_iff]
theorem rounds_facts (X : Rat) : X.floor ≤ ceil X ∧ ceil X ≤ X.floor + 1 ∧ rcmp (X.floor : Rat) X ≤ 0 ∧ rcmp X (ceil X : Rat) ≤ 0 ∧ (X.floor = ceil X ↔ rcmp (X.floor : Rat) X = 0) := by
  have h1 : (X.floor : Rat) ≤ X := Rat.floor_le X
  have h2 : X ≤ (ceil X : Rat) := ceil_le.1 (Int.le_refl _)
  have h3 : ceil X ≤ X.floor + 1 := ceil_le.2 (Rat.le_of_lt (Rat.lt_floor_add_one X))
  have h4 : X.floor ≤ ceil X := Rat.intCast_le_intCast.1 (Rat.le_trans h1 h2)
  have le0 : ∀ a b : Rat, a ≤ b → rcmp a b ≤ 0 := fun a b h => by
    rcases rat_tri a b with k | k | k
    · rw [rcmp_lt k]; omega
    · rw [k, rcmp_self]; omega
    · exact absurd h (Rat.not_le.2 k)
  refine ⟨h4, h3, le0 _ _ h1, le0 _ _ h2, ?_⟩
  constructor
  · intro h
    have h5 : X ≤ (X.floor : Rat) := by rw [← h] at h2; exact h2
    rw [Rat.le_antisymm h1 h5, rcmp_self]
  · intro h
    have h5 : (X.floor : Rat) = X := by
      rcases rat_tri (X.floor : Rat) X with k | k | k
      · rw [rcmp_lt k] at h; omega
      · exact k
      · rw [rcmp_gt k] at h; omega
    have h6 : ceil X ≤ X.floor := ceil_le.2 (by rw [h5]; exact Rat.le_refl)
    omega
theorem quot_one (n : Int) : quot n 1 = (n : Rat) := by
  unfold quot rat sgn
  have e : (if (decide (n < 0) != decide ((1 : Int) < 0)) = true then -(n.natAbs : Int) else (n.natAbs : Int)) = n := by
    by_cases h : n < 0
    · rw [if_pos (by simp [h])]; omega
    · rw [if_neg (by simp [h])]; omega
  rw [e]
  exact (Rat.mkRat_self (n : Rat))
theorem bd_int {n : Int} (h : n.natAbs ≤ 4611686018427387904) : Bd 64 (n : Rat) := by
  refine ⟨?_, ?_⟩
  · rw [Rat.num_intCast]; have := (nd_len n.natAbs 3).2 (by omega); omega
  · rw [Rat.den_intCast]; exact len_one'
/-- an int, or ErrRange -/
def FlRes (w : World) (F : Int) (e : Ending) (w' : World) : Prop :=
  ∃ z er : Int, e = .returned (.tuple #[.int .i64 z, .int .i64 er]) ∧ ((F.natAbs ≤ 4611686018427387904 ∧ z = F ∧ er = 0) ∨ (4611686018427387904 < F.natAbs ∧ z = 0 ∧ er = 1)) ∧ Gr w w'
theorem floor_any {r : Rat} (v : Value) (w : World) (h : Fra w v r) :
    Calls Tryz.prog 18 #[v] w (FlRes w r.floor) := by
  obtain ⟨x, va, vb, A, B, rfl, hA, hB, hB0, hx, lA, lB, rfl⟩ := h
  have HF : Hid ((rat x A B).floor = sgn x (rnd x A B)) := Lib.hid (floor_rnd hB0)
  have HA := Lib.hid hA
  have HB := Lib.hid hB
  have HB0 := Lib.hid hB0
  have HX := Lib.hid hx
  obtain ⟨aa, ca, rfl⟩ := num_slice hA
  obtain ⟨ab, cb, rfl⟩ := num_slice hB
  clear hA hB hB0 hx
  have hG0 : Gr w (w.alloc (.cells #[.bool x, .slice aa (nd A).length ca, .slice ab (nd B).length cb] 26)) := Gr.alloc (Gr.refl _) _
  go_enter Tryz.func18, Tryz.ntmps18
  go_wp2_with fail
  refine (rounded_any x x _ _ _ (HA.out.gr hG0) (HB.out.gr hG0) HB0.out HX.out lA lB).mono ?_
  rintro e w1 ⟨z, er, rfl, hz, hg⟩
  have HZ := Lib.hid hz
  clear hz
  go_wp2_with fail
  go_ret2
  refine ⟨_, _, rfl, ?_, hG0.step hg⟩
  have hz := HZ.out
  rw [HF.out, sgn_abs]
  exact hz
theorem ceil_any {r : Rat} (v : Value) (w : World) (h : Fra w v r) :
    Calls Tryz.prog 20 #[v] w (FlRes w (ceil r)) := by
  obtain ⟨x, va, vb, A, B, rfl, hA, hB, hB0, hx, lA, lB, rfl⟩ := h
  have HF : Hid (ceil (rat x A B) = sgn x (rnd (!x) A B)) := Lib.hid (ceil_rnd hB0 hx)
  have HA := Lib.hid hA
  have HB := Lib.hid hB
  have HB0 := Lib.hid hB0
  have HX := Lib.hid hx
  obtain ⟨aa, ca, rfl⟩ := num_slice hA
  obtain ⟨ab, cb, rfl⟩ := num_slice hB
  clear hA hB hB0 hx
  have hG0 : Gr w (w.alloc (.cells #[.bool x, .slice aa (nd A).length ca, .slice ab (nd B).length cb] 26)) := Gr.alloc (Gr.refl _) _
  go_enter Tryz.func20, Tryz.ntmps20
  go_wp2_with fail
  refine (rounded_any x (!x) _ _ _ (HA.out.gr hG0) (HB.out.gr hG0) HB0.out HX.out lA lB).mono ?_
  rintro e w1 ⟨z, er, rfl, hz, hg⟩
  have HZ := Lib.hid hz
  clear hz
  go_wp2_with fail
  go_ret2
  refine ⟨_, _, rfl, ?_, hG0.step hg⟩
  have hz := HZ.out
  rw [HF.out, sgn_abs]
  exact hz
end Go.Proofs.YtjpjnbgfodlkcaaGreatDoor
