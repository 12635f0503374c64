/- The walk of the statement on the order. -/
import Derived.Test.YtoaboflepfmkpaaGreatDoorRM
import Derived.Test.YtoaboflepfmkpaaGreatDoorFM
import Derived.WalkKit
import Derived.WalkSpells
import Derived.WalkLawsBesides
import Derived.WalkSmall
import Derived.Handy
import Derived.BigQuiet
import Derived.Deep.QuietTactic
import Derived.Deep.RegionHeld3
import Derived.Deep.DeepFit
import Derived.Below
import Derived.Lib.Hide
import Derived.Lib.QuietBelow
namespace Go.Proofs.YtoaboflepfmkpaaGreatDoor
open Go Go.RowKit Go.Sort
set_option maxRecDepth 100000
set_option linter.unusedVariables false
theorem rcmp_small (a b : Rat) : -1 ≤ rcmp a b ∧ rcmp a b ≤ 1 := by
  rcases rat_tri a b with h | h | h
  · rw [rcmp_lt h]; omega
  · rw [h, rcmp_self]; omega
  · rw [rcmp_gt h]; omega
set_option maxHeartbeats 4000000 in
theorem order_walk (sv : Value) (len : Nat) (w : World) (ht : Tab w) (hl : len ≤ 9223372036854775807) (hb : BytesV w.heap.size w sv len) :
    Calls Tryz.prog 4 #[sv] w fun e w' => e = .returned (.bool true) ∧ Gr w w' := by
  have HT := Lib.hid ht
  clear ht
  go_enter Tryz.func4, Tryz.ntmps4
  go_wp2_with (go_at_call 9; refine (fawake_any _ HT.out).mono ?_; rintro e w1 ⟨rfl, hg1⟩)
  refine (new_any sv len 200 _ (by omega) hl (hb.gr hg1)).mono ?_
  rintro e w2 ⟨b, rfl, hbe, hc2, hg2⟩
  have hbw : w.heap.size ≤ b := by have := Gr.size hg1; omega
  have hG2 : Gr w w2 := (by repeat' (first | (with_reducible exact Gr.refl _) | (with_reducible assumption) | (with_reducible refine Gr.drewN ?_ _) | (with_reducible refine Gr.drew ?_) | (with_reducible refine Gr.alloc ?_ _) | (with_reducible refine Gr.setCell ?_ ?_ _) | (with_reducible refine Gr.grow ?_ _ _) | (refine Gr.step ?_ (by with_reducible assumption)) | go_size))
  clear hbe hg1 hg2 hb
  go_wp2_with fail
  refine (frac_any b 3 _ hc2 (Gr.size hG2) (by omega) (by omega)).mono ?_
  rintro e w3 ⟨bx, ax1, ax2, nx1, nx2, cx1, cx2, X, rfl, hx, dX, hc3, he3⟩
  have hG3 : Gr w w3 := Ex.gr hG2 hbw he3
  go_wp2_with fail
  refine (frac_any b 3 _ hc3 (Gr.size hG3) (by omega) (by omega)).mono ?_
  rintro e w4 ⟨by', ay1, ay2, ny1, ny2, cy1, cy2, Y, rfl, hy, dY, hc4, he4⟩
  have hG4 : Gr w w4 := Ex.gr hG3 hbw he4
  go_wp2_with fail
  refine (frac_any b 3 _ hc4 (Gr.size hG4) (by omega) (by omega)).mono ?_
  rintro e w5 ⟨bz, az1, az2, nz1, nz2, cz1, cz2, Z, rfl, hz, dZ, hc5, he5⟩
  have hG5 : Gr w w5 := Ex.gr hG4 hbw he5
  have hX5 := ((hx.ex he4).ex he5).fra
  have hY5 := (hy.ex he5).fra
  have hZ5 := hz.fra
  clear hG2 hG3 hG4 he3 he4 he5 hc2 hc3 hc4 hc5 hx hy hz hbw
  have cX := ((C3.new w5 (.bool bx) (.slice ax1 nx1 cx1) (.slice ax2 nx2 cx2) 29 w5.heap.size rfl).gr (Gr.alloc (Gr.refl _) (.cells #[.bool by', .slice ay1 ny1 cy1, .slice ay2 ny2 cy2] 29))).gr (Gr.alloc (Gr.refl _) (.cells #[.bool bz, .slice az1 nz1 cz1, .slice az2 nz2 cz2] 29))
  have cY := (C3.new (w5.alloc (.cells #[.bool bx, .slice ax1 nx1 cx1, .slice ax2 nx2 cx2] 29)) (.bool by') (.slice ay1 ny1 cy1) (.slice ay2 ny2 cy2) 29 (w5.heap.size + 1) (by simp)).gr (Gr.alloc (Gr.refl _) (.cells #[.bool bz, .slice az1 nz1 cz1, .slice az2 nz2 cz2] 29))
  have cZ := C3.new ((w5.alloc (.cells #[.bool bx, .slice ax1 nx1 cx1, .slice ax2 nx2 cx2] 29)).alloc (.cells #[.bool by', .slice ay1 ny1 cy1, .slice ay2 ny2 cy2] 29)) (.bool bz) (.slice az1 nz1 cz1) (.slice az2 nz2 cz2) 29 (w5.heap.size + 1 + 1) (by simp)
  have g58 : Gr w5 (((w5.alloc (.cells #[.bool bx, .slice ax1 nx1 cx1, .slice ax2 nx2 cx2] 29)).alloc (.cells #[.bool by', .slice ay1 ny1 cy1, .slice ay2 ny2 cy2] 29)).alloc (.cells #[.bool bz, .slice az1 nz1 cz1, .slice az2 nz2 cz2] 29)) := ((Gr.alloc (Gr.refl _) _).alloc _).alloc _
  have hL : Locs (((w5.alloc (.cells #[.bool bx, .slice ax1 nx1 cx1, .slice ax2 nx2 cx2] 29)).alloc (.cells #[.bool by', .slice ay1 ny1 cy1, .slice ay2 ny2 cy2] 29)).alloc (.cells #[.bool bz, .slice az1 nz1 cz1, .slice az2 nz2 cz2] 29)) [⟨w5.heap.size, bx, ax1, ax2, nx1, nx2, cx1, cx2, X⟩, ⟨w5.heap.size + 1, by', ay1, ay2, ny1, ny2, cy1, cy2, Y⟩, ⟨w5.heap.size + 1 + 1, bz, az1, az2, nz1, nz2, cz1, cz2, Z⟩] := by
    intro l hl
    rcases List.mem_cons.1 hl with rfl | hl
    · exact ⟨cX, hX5.gr g58⟩
    · rcases List.mem_cons.1 hl with rfl | hl
      · exact ⟨cY, hY5.gr g58⟩
      · rw [List.mem_singleton] at hl
        subst hl
        exact ⟨cZ, hZ5.gr g58⟩
  have hG := hG5.step g58
  have hRd := Reds.nil (((w5.alloc (.cells #[.bool bx, .slice ax1 nx1 cx1, .slice ax2 nx2 cx2] 29)).alloc (.cells #[.bool by', .slice ay1 ny1 cy1, .slice ay2 ny2 cy2] 29)).alloc (.cells #[.bool bz, .slice az1 nz1 cz1, .slice az2 nz2 cz2] 29))
  clear cX cY cZ g58 hG5 hX5 hY5 hZ5
  have d1 := dX.sub dY
  have d2 := dX.add dZ
  have d3 := dY.add dZ
  obtain ⟨⟨p0, p1, p2, -, -, -, -, -⟩, fp⟩ := hL.at 0 rfl
  obtain ⟨⟨q0, q1, q2, -, -, -, -, -⟩, fq⟩ := hL.at 1 rfl
  dsimp only at p0 p1 p2 q0 q1 q2 fp fq
  have FP := Lib.hid fp
  have FQ := Lib.hid fq
  clear fp fq
  go_wp2_with fail
  refine (fcompare_any _ _ _ FP.out FQ.out).mono ?_
  rintro e wa ⟨rfl, hg⟩
  replace hL := hL.gr hg
  replace hRd := hRd.gr hg
  replace hG := hG.step hg
  clear p0 p1 p2 q0 q1 q2 FP FQ hg
  obtain ⟨⟨p0, p1, p2, -, -, -, -, -⟩, fp⟩ := hL.at 1 rfl
  obtain ⟨⟨q0, q1, q2, -, -, -, -, -⟩, fq⟩ := hL.at 0 rfl
  dsimp only at p0 p1 p2 q0 q1 q2 fp fq
  have FP := Lib.hid fp
  have FQ := Lib.hid fq
  clear fp fq
  go_wp2_with fail
  refine (fcompare_any _ _ _ FP.out FQ.out).mono ?_
  rintro e wb ⟨rfl, hg⟩
  replace hL := hL.gr hg
  replace hRd := hRd.gr hg
  replace hG := hG.step hg
  clear p0 p1 p2 q0 q1 q2 FP FQ hg
  obtain ⟨⟨p0, p1, p2, -, -, -, -, -⟩, fp⟩ := hL.at 0 rfl
  obtain ⟨⟨q0, q1, q2, -, -, -, -, -⟩, fq⟩ := hL.at 1 rfl
  dsimp only at p0 p1 p2 q0 q1 q2 fp fq
  have FP := Lib.hid fp
  have FQ := Lib.hid fq
  clear fp fq
  go_wp2_with fail
  refine (fsub_any _ _ _ FP.out FQ.out).mono ?_
  intro e wc hres
  obtain ⟨bwc, a1wc, a2wc, n1wc, n2wc, c1wc, c2wc, rfl, hred, hg⟩ := hres.yes (d1.mono (by omega))
  replace hL := ((hL.gr hg).gr (Gr.alloc (Gr.refl wc) (.cells #[.bool bwc, .slice a1wc n1wc c1wc, .slice a2wc n2wc c2wc] 29))).snoc (l := ⟨wc.heap.size, bwc, a1wc, a2wc, n1wc, n2wc, c1wc, c2wc, _⟩) ⟨C3.new wc _ _ _ _ _ rfl, (hred.gr (Gr.alloc (Gr.refl wc) _)).fra (d1.mono (by omega))⟩
  replace hRd := ((hRd.gr hg).gr (Gr.alloc (Gr.refl wc) (.cells #[.bool bwc, .slice a1wc n1wc c1wc, .slice a2wc n2wc c2wc] 29))).snoc (l := ⟨wc.heap.size, bwc, a1wc, a2wc, n1wc, n2wc, c1wc, c2wc, _⟩) (hred.gr (Gr.alloc (Gr.refl wc) _))
  replace hG := (hG.step hg).alloc (.cells #[.bool bwc, .slice a1wc n1wc c1wc, .slice a2wc n2wc c2wc] 29)
  clear p0 p1 p2 q0 q1 q2 FP FQ hres hred hg
  obtain ⟨⟨p0, p1, p2, -, -, -, -, -⟩, fp⟩ := hL.at 1 rfl
  obtain ⟨⟨q0, q1, q2, -, -, -, -, -⟩, fq⟩ := hL.at 2 rfl
  dsimp only at p0 p1 p2 q0 q1 q2 fp fq
  have FP := Lib.hid fp
  have FQ := Lib.hid fq
  clear fp fq
  go_wp2_with fail
  refine (fcompare_any _ _ _ FP.out FQ.out).mono ?_
  rintro e wd ⟨rfl, hg⟩
  replace hL := hL.gr hg
  replace hRd := hRd.gr hg
  replace hG := hG.step hg
  clear p0 p1 p2 q0 q1 q2 FP FQ hg
  obtain ⟨⟨p0, p1, p2, -, -, -, -, -⟩, fp⟩ := hL.at 0 rfl
  obtain ⟨⟨q0, q1, q2, -, -, -, -, -⟩, fq⟩ := hL.at 2 rfl
  dsimp only at p0 p1 p2 q0 q1 q2 fp fq
  have FP := Lib.hid fp
  have FQ := Lib.hid fq
  clear fp fq
  go_wp2_with fail
  refine (fcompare_any _ _ _ FP.out FQ.out).mono ?_
  rintro e we ⟨rfl, hg⟩
  replace hL := hL.gr hg
  replace hRd := hRd.gr hg
  replace hG := hG.step hg
  clear p0 p1 p2 q0 q1 q2 FP FQ hg
  obtain ⟨⟨p0, p1, p2, -, -, -, -, -⟩, fp⟩ := hL.at 0 rfl
  obtain ⟨⟨q0, q1, q2, -, -, -, -, -⟩, fq⟩ := hL.at 2 rfl
  dsimp only at p0 p1 p2 q0 q1 q2 fp fq
  have FP := Lib.hid fp
  have FQ := Lib.hid fq
  clear fp fq
  go_wp2_with fail
  refine (fadd_any _ _ _ FP.out FQ.out).mono ?_
  intro e wf hres
  obtain ⟨bwf, a1wf, a2wf, n1wf, n2wf, c1wf, c2wf, rfl, hred, hg⟩ := hres.yes (d2.mono (by omega))
  replace hL := ((hL.gr hg).gr (Gr.alloc (Gr.refl wf) (.cells #[.bool bwf, .slice a1wf n1wf c1wf, .slice a2wf n2wf c2wf] 29))).snoc (l := ⟨wf.heap.size, bwf, a1wf, a2wf, n1wf, n2wf, c1wf, c2wf, _⟩) ⟨C3.new wf _ _ _ _ _ rfl, (hred.gr (Gr.alloc (Gr.refl wf) _)).fra (d2.mono (by omega))⟩
  replace hRd := ((hRd.gr hg).gr (Gr.alloc (Gr.refl wf) (.cells #[.bool bwf, .slice a1wf n1wf c1wf, .slice a2wf n2wf c2wf] 29))).snoc (l := ⟨wf.heap.size, bwf, a1wf, a2wf, n1wf, n2wf, c1wf, c2wf, _⟩) (hred.gr (Gr.alloc (Gr.refl wf) _))
  replace hG := (hG.step hg).alloc (.cells #[.bool bwf, .slice a1wf n1wf c1wf, .slice a2wf n2wf c2wf] 29)
  clear p0 p1 p2 q0 q1 q2 FP FQ hres hred hg
  obtain ⟨⟨p0, p1, p2, -, -, -, -, -⟩, fp⟩ := hL.at 1 rfl
  obtain ⟨⟨q0, q1, q2, -, -, -, -, -⟩, fq⟩ := hL.at 2 rfl
  dsimp only at p0 p1 p2 q0 q1 q2 fp fq
  have FP := Lib.hid fp
  have FQ := Lib.hid fq
  clear fp fq
  go_wp2_with fail
  refine (fadd_any _ _ _ FP.out FQ.out).mono ?_
  intro e wg hres
  obtain ⟨bwg, a1wg, a2wg, n1wg, n2wg, c1wg, c2wg, rfl, hred, hg⟩ := hres.yes (d3.mono (by omega))
  replace hL := ((hL.gr hg).gr (Gr.alloc (Gr.refl wg) (.cells #[.bool bwg, .slice a1wg n1wg c1wg, .slice a2wg n2wg c2wg] 29))).snoc (l := ⟨wg.heap.size, bwg, a1wg, a2wg, n1wg, n2wg, c1wg, c2wg, _⟩) ⟨C3.new wg _ _ _ _ _ rfl, (hred.gr (Gr.alloc (Gr.refl wg) _)).fra (d3.mono (by omega))⟩
  replace hRd := ((hRd.gr hg).gr (Gr.alloc (Gr.refl wg) (.cells #[.bool bwg, .slice a1wg n1wg c1wg, .slice a2wg n2wg c2wg] 29))).snoc (l := ⟨wg.heap.size, bwg, a1wg, a2wg, n1wg, n2wg, c1wg, c2wg, _⟩) (hred.gr (Gr.alloc (Gr.refl wg) _))
  replace hG := (hG.step hg).alloc (.cells #[.bool bwg, .slice a1wg n1wg c1wg, .slice a2wg n2wg c2wg] 29)
  clear p0 p1 p2 q0 q1 q2 FP FQ hres hred hg
  obtain ⟨⟨p0, p1, p2, -, -, -, -, -⟩, fp⟩ := hL.at 4 rfl
  obtain ⟨⟨q0, q1, q2, -, -, -, -, -⟩, fq⟩ := hL.at 5 rfl
  dsimp only at p0 p1 p2 q0 q1 q2 fp fq
  have FP := Lib.hid fp
  have FQ := Lib.hid fq
  clear fp fq
  go_wp2_with fail
  refine (fcompare_any _ _ _ FP.out FQ.out).mono ?_
  rintro e wh ⟨rfl, hg⟩
  replace hL := hL.gr hg
  replace hRd := hRd.gr hg
  replace hG := hG.step hg
  clear p0 p1 p2 q0 q1 q2 FP FQ hg
  obtain ⟨f1, f2, f3, f4, f5⟩ := rcmp_facts X Y Z
  obtain ⟨s1, s2⟩ := rcmp_small Y X
  obtain ⟨⟨p0, p1, p2, -, -, -, -, -⟩, fp⟩ := hL.at 3 rfl
  obtain ⟨vn, vd, hv, -⟩ := hRd.at 0 rfl
  dsimp only at p0 p1 p2 fp hv
  simp only [Value.agg.injEq, Array.mk.injEq, List.cons.injEq, and_true, Value.bool.injEq] at hv
  have hlen := fp.len
  have e1 : (rcmp X Y == -rcmp Y X) = true := by rw [beq_iff_eq]; exact f1
  have e2 : (decide (rcmp X Y < 0) == bwc) = true := by rw [beq_iff_eq, f2]; exact hv.1.symm
  have e3 : ((rcmp X Y == 0) == ((n1wc : Int) == 0)) = true := by
    rw [beq_iff_eq, Bool.eq_iff_iff, beq_iff_eq, beq_iff_eq, f3, ← hlen]; omega
  have e5 : (rcmp (X + Z) (Y + Z) == rcmp X Y) = true := by rw [beq_iff_eq]; exact f5
  clear f1 f2 f3 f5 fp hv hlen
  generalize rcmp X Y = ra at *
  generalize rcmp Y X = rb at *
  generalize rcmp Y Z = ru at *
  generalize rcmp X Z = rv at *
  generalize rcmp (X + Z) (Y + Z) = rw' at *
  by_cases h1 : 0 < ra
  · have g1 : decide (0 < ra) = true := by simpa using h1
    clear h1 f4
    go_wp2_with fail
    go_ret
    exact ⟨rfl, hG⟩
  · have g1 : decide (0 < ra) = false := by simpa using h1
    by_cases h2 : 0 < ru
    · have g2 : decide (0 < ru) = true := by simpa using h2
      clear h1 h2 f4
      go_wp2_with fail
      go_ret
      exact ⟨rfl, hG⟩
    · have g2 : decide (0 < ru) = false := by simpa using h2
      have h3 : rv ≤ 0 := by omega
      have g3 : decide (rv ≤ 0) = true := by simpa using h3
      clear h1 h2 h3 f4
      go_wp2_with fail
      go_ret
      exact ⟨rfl, hG⟩
end Go.Proofs.YtoaboflepfmkpaaGreatDoor
