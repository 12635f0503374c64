/- The walk of the statement on the laws of a field. -/
import Derived.Test.YtoaboflepfmkpaaGreatDoorRM
import Derived.Test.YtoaboflepfmkpaaGreatDoorFM
import Derived.WalkKit
import Derived.WalkSpells
import Derived.WalkLawsBesides
import Derived.WalkSmall
import Derived.Handy
import Derived.BigQuiet
import Derived.Deep.QuietTactic
import Derived.Deep.RegionHeld3
import Derived.Deep.DeepFit
import Derived.Below
import Derived.Lib.Hide
import Derived.Lib.QuietBelow
namespace Go.Proofs.YtoaboflepfmkpaaGreatDoor
open Go Go.RowKit Go.Sort
set_option maxRecDepth 100000
set_option linter.unusedVariables false
set_option maxHeartbeats 4000000 in
theorem field_walk (sv : Value) (len : Nat) (w : World) (ht : Tab w) (hl : len ≤ 9223372036854775807) (hb : BytesV w.heap.size w sv len) :
    Calls Tryz.prog 3 #[sv] w fun e w' => e = .returned (.bool true) ∧ Gr w w' := by
  have HT := Lib.hid ht
  clear ht
  go_enter Tryz.func3, Tryz.ntmps3
  go_wp2_with (go_at_call 9; refine (fawake_any _ HT.out).mono ?_; rintro e w1 ⟨rfl, hg1⟩)
  refine (new_any sv len 200 _ (by omega) hl (hb.gr hg1)).mono ?_
  rintro e w2 ⟨b, rfl, hbe, hc2, hg2⟩
  have hbw : w.heap.size ≤ b := by have := Gr.size hg1; omega
  have hG2 : Gr w w2 := (by repeat' (first | (with_reducible exact Gr.refl _) | (with_reducible assumption) | (with_reducible refine Gr.drewN ?_ _) | (with_reducible refine Gr.drew ?_) | (with_reducible refine Gr.alloc ?_ _) | (with_reducible refine Gr.setCell ?_ ?_ _) | (with_reducible refine Gr.grow ?_ _ _) | (refine Gr.step ?_ (by with_reducible assumption)) | go_size))
  clear hbe hg1 hg2 hb
  go_wp2_with fail
  refine (frac_any b 3 _ hc2 (Gr.size hG2) (by omega) (by omega)).mono ?_
  rintro e w3 ⟨bx, ax1, ax2, nx1, nx2, cx1, cx2, X, rfl, hx, dX, hc3, he3⟩
  have hG3 : Gr w w3 := Ex.gr hG2 hbw he3
  go_wp2_with fail
  refine (frac_any b 3 _ hc3 (Gr.size hG3) (by omega) (by omega)).mono ?_
  rintro e w4 ⟨by', ay1, ay2, ny1, ny2, cy1, cy2, Y, rfl, hy, dY, hc4, he4⟩
  have hG4 : Gr w w4 := Ex.gr hG3 hbw he4
  go_wp2_with fail
  refine (frac_any b 3 _ hc4 (Gr.size hG4) (by omega) (by omega)).mono ?_
  rintro e w5 ⟨bz, az1, az2, nz1, nz2, cz1, cz2, Z, rfl, hz, dZ, hc5, he5⟩
  have hG5 : Gr w w5 := Ex.gr hG4 hbw he5
  have hX5 := ((hx.ex he4).ex he5).fra
  have hY5 := (hy.ex he5).fra
  have hZ5 := hz.fra
  clear hG2 hG3 hG4 he3 he4 he5 hc2 hc3 hc4 hc5 hx hy hz hbw
  have cX := ((C3.new w5 (.bool bx) (.slice ax1 nx1 cx1) (.slice ax2 nx2 cx2) 29 w5.heap.size rfl).gr (Gr.alloc (Gr.refl _) (.cells #[.bool by', .slice ay1 ny1 cy1, .slice ay2 ny2 cy2] 29))).gr (Gr.alloc (Gr.refl _) (.cells #[.bool bz, .slice az1 nz1 cz1, .slice az2 nz2 cz2] 29))
  have cY := (C3.new (w5.alloc (.cells #[.bool bx, .slice ax1 nx1 cx1, .slice ax2 nx2 cx2] 29)) (.bool by') (.slice ay1 ny1 cy1) (.slice ay2 ny2 cy2) 29 (w5.heap.size + 1) (by simp)).gr (Gr.alloc (Gr.refl _) (.cells #[.bool bz, .slice az1 nz1 cz1, .slice az2 nz2 cz2] 29))
  have cZ := C3.new ((w5.alloc (.cells #[.bool bx, .slice ax1 nx1 cx1, .slice ax2 nx2 cx2] 29)).alloc (.cells #[.bool by', .slice ay1 ny1 cy1, .slice ay2 ny2 cy2] 29)) (.bool bz) (.slice az1 nz1 cz1) (.slice az2 nz2 cz2) 29 (w5.heap.size + 1 + 1) (by simp)
  have g58 : Gr w5 (((w5.alloc (.cells #[.bool bx, .slice ax1 nx1 cx1, .slice ax2 nx2 cx2] 29)).alloc (.cells #[.bool by', .slice ay1 ny1 cy1, .slice ay2 ny2 cy2] 29)).alloc (.cells #[.bool bz, .slice az1 nz1 cz1, .slice az2 nz2 cz2] 29)) := ((Gr.alloc (Gr.refl _) _).alloc _).alloc _
  have hL : Locs (((w5.alloc (.cells #[.bool bx, .slice ax1 nx1 cx1, .slice ax2 nx2 cx2] 29)).alloc (.cells #[.bool by', .slice ay1 ny1 cy1, .slice ay2 ny2 cy2] 29)).alloc (.cells #[.bool bz, .slice az1 nz1 cz1, .slice az2 nz2 cz2] 29)) [⟨w5.heap.size, bx, ax1, ax2, nx1, nx2, cx1, cx2, X⟩, ⟨w5.heap.size + 1, by', ay1, ay2, ny1, ny2, cy1, cy2, Y⟩, ⟨w5.heap.size + 1 + 1, bz, az1, az2, nz1, nz2, cz1, cz2, Z⟩] := by
    intro l hl
    rcases List.mem_cons.1 hl with rfl | hl
    · exact ⟨cX, hX5.gr g58⟩
    · rcases List.mem_cons.1 hl with rfl | hl
      · exact ⟨cY, hY5.gr g58⟩
      · rw [List.mem_singleton] at hl
        subst hl
        exact ⟨cZ, hZ5.gr g58⟩
  have hG := hG5.step g58
  have hRd := Reds.nil (((w5.alloc (.cells #[.bool bx, .slice ax1 nx1 cx1, .slice ax2 nx2 cx2] 29)).alloc (.cells #[.bool by', .slice ay1 ny1 cy1, .slice ay2 ny2 cy2] 29)).alloc (.cells #[.bool bz, .slice az1 nz1 cz1, .slice az2 nz2 cz2] 29))
  clear cX cY cZ g58 hG5 hX5 hY5 hZ5
  have d1 := dX.add dY
  have d2 := dY.add dX
  have d3 := d1.add dZ
  have d4 := dY.add dZ
  have d5 := dX.add d4
  have d6 := dX.mul d4
  have d7 := dX.mul dY
  have d8 := dX.mul dZ
  have d9 := d7.add d8
  have d10 := d1.sub dY
  obtain ⟨⟨p0, p1, p2, -, -, -, -, -⟩, fp⟩ := hL.at 0 rfl
  obtain ⟨⟨q0, q1, q2, -, -, -, -, -⟩, fq⟩ := hL.at 1 rfl
  dsimp only at p0 p1 p2 q0 q1 q2 fp fq
  have FP := Lib.hid fp
  have FQ := Lib.hid fq
  clear fp fq
  go_wp2_with fail
  refine (fadd_any _ _ _ FP.out FQ.out).mono ?_
  intro e wa hres
  obtain ⟨bwa, a1wa, a2wa, n1wa, n2wa, c1wa, c2wa, rfl, hred, hg⟩ := hres.yes (d1.mono (by omega))
  replace hL := ((hL.gr hg).gr (Gr.alloc (Gr.refl wa) (.cells #[.bool bwa, .slice a1wa n1wa c1wa, .slice a2wa n2wa c2wa] 29))).snoc (l := ⟨wa.heap.size, bwa, a1wa, a2wa, n1wa, n2wa, c1wa, c2wa, _⟩) ⟨C3.new wa _ _ _ _ _ rfl, (hred.gr (Gr.alloc (Gr.refl wa) _)).fra (d1.mono (by omega))⟩
  replace hRd := ((hRd.gr hg).gr (Gr.alloc (Gr.refl wa) (.cells #[.bool bwa, .slice a1wa n1wa c1wa, .slice a2wa n2wa c2wa] 29))).snoc (l := ⟨wa.heap.size, bwa, a1wa, a2wa, n1wa, n2wa, c1wa, c2wa, _⟩) (hred.gr (Gr.alloc (Gr.refl wa) _))
  replace hG := (hG.step hg).alloc (.cells #[.bool bwa, .slice a1wa n1wa c1wa, .slice a2wa n2wa c2wa] 29)
  clear p0 p1 p2 q0 q1 q2 FP FQ hres hred hg
  obtain ⟨⟨p0, p1, p2, -, -, -, -, -⟩, fp⟩ := hL.at 1 rfl
  obtain ⟨⟨q0, q1, q2, -, -, -, -, -⟩, fq⟩ := hL.at 0 rfl
  dsimp only at p0 p1 p2 q0 q1 q2 fp fq
  have FP := Lib.hid fp
  have FQ := Lib.hid fq
  clear fp fq
  go_wp2_with fail
  refine (fadd_any _ _ _ FP.out FQ.out).mono ?_
  intro e wb hres
  obtain ⟨bwb, a1wb, a2wb, n1wb, n2wb, c1wb, c2wb, rfl, hred, hg⟩ := hres.yes (d2.mono (by omega))
  replace hL := ((hL.gr hg).gr (Gr.alloc (Gr.refl wb) (.cells #[.bool bwb, .slice a1wb n1wb c1wb, .slice a2wb n2wb c2wb] 29))).snoc (l := ⟨wb.heap.size, bwb, a1wb, a2wb, n1wb, n2wb, c1wb, c2wb, _⟩) ⟨C3.new wb _ _ _ _ _ rfl, (hred.gr (Gr.alloc (Gr.refl wb) _)).fra (d2.mono (by omega))⟩
  replace hRd := ((hRd.gr hg).gr (Gr.alloc (Gr.refl wb) (.cells #[.bool bwb, .slice a1wb n1wb c1wb, .slice a2wb n2wb c2wb] 29))).snoc (l := ⟨wb.heap.size, bwb, a1wb, a2wb, n1wb, n2wb, c1wb, c2wb, _⟩) (hred.gr (Gr.alloc (Gr.refl wb) _))
  replace hG := (hG.step hg).alloc (.cells #[.bool bwb, .slice a1wb n1wb c1wb, .slice a2wb n2wb c2wb] 29)
  clear p0 p1 p2 q0 q1 q2 FP FQ hres hred hg
  obtain ⟨⟨p0, p1, p2, -, -, -, -, -⟩, fp⟩ := hL.at 3 rfl
  obtain ⟨⟨q0, q1, q2, -, -, -, -, -⟩, fq⟩ := hL.at 2 rfl
  dsimp only at p0 p1 p2 q0 q1 q2 fp fq
  have FP := Lib.hid fp
  have FQ := Lib.hid fq
  clear fp fq
  go_wp2_with fail
  refine (fadd_any _ _ _ FP.out FQ.out).mono ?_
  intro e wc hres
  obtain ⟨bwc, a1wc, a2wc, n1wc, n2wc, c1wc, c2wc, rfl, hred, hg⟩ := hres.yes (d3.mono (by omega))
  replace hL := ((hL.gr hg).gr (Gr.alloc (Gr.refl wc) (.cells #[.bool bwc, .slice a1wc n1wc c1wc, .slice a2wc n2wc c2wc] 29))).snoc (l := ⟨wc.heap.size, bwc, a1wc, a2wc, n1wc, n2wc, c1wc, c2wc, _⟩) ⟨C3.new wc _ _ _ _ _ rfl, (hred.gr (Gr.alloc (Gr.refl wc) _)).fra (d3.mono (by omega))⟩
  replace hRd := ((hRd.gr hg).gr (Gr.alloc (Gr.refl wc) (.cells #[.bool bwc, .slice a1wc n1wc c1wc, .slice a2wc n2wc c2wc] 29))).snoc (l := ⟨wc.heap.size, bwc, a1wc, a2wc, n1wc, n2wc, c1wc, c2wc, _⟩) (hred.gr (Gr.alloc (Gr.refl wc) _))
  replace hG := (hG.step hg).alloc (.cells #[.bool bwc, .slice a1wc n1wc c1wc, .slice a2wc n2wc c2wc] 29)
  clear p0 p1 p2 q0 q1 q2 FP FQ hres hred hg
  obtain ⟨⟨p0, p1, p2, -, -, -, -, -⟩, fp⟩ := hL.at 1 rfl
  obtain ⟨⟨q0, q1, q2, -, -, -, -, -⟩, fq⟩ := hL.at 2 rfl
  dsimp only at p0 p1 p2 q0 q1 q2 fp fq
  have FP := Lib.hid fp
  have FQ := Lib.hid fq
  clear fp fq
  go_wp2_with fail
  refine (fadd_any _ _ _ FP.out FQ.out).mono ?_
  intro e wd hres
  obtain ⟨bwd, a1wd, a2wd, n1wd, n2wd, c1wd, c2wd, rfl, hred, hg⟩ := hres.yes (d4.mono (by omega))
  replace hL := ((hL.gr hg).gr (Gr.alloc (Gr.refl wd) (.cells #[.bool bwd, .slice a1wd n1wd c1wd, .slice a2wd n2wd c2wd] 29))).snoc (l := ⟨wd.heap.size, bwd, a1wd, a2wd, n1wd, n2wd, c1wd, c2wd, _⟩) ⟨C3.new wd _ _ _ _ _ rfl, (hred.gr (Gr.alloc (Gr.refl wd) _)).fra (d4.mono (by omega))⟩
  replace hRd := ((hRd.gr hg).gr (Gr.alloc (Gr.refl wd) (.cells #[.bool bwd, .slice a1wd n1wd c1wd, .slice a2wd n2wd c2wd] 29))).snoc (l := ⟨wd.heap.size, bwd, a1wd, a2wd, n1wd, n2wd, c1wd, c2wd, _⟩) (hred.gr (Gr.alloc (Gr.refl wd) _))
  replace hG := (hG.step hg).alloc (.cells #[.bool bwd, .slice a1wd n1wd c1wd, .slice a2wd n2wd c2wd] 29)
  clear p0 p1 p2 q0 q1 q2 FP FQ hres hred hg
  obtain ⟨⟨p0, p1, p2, -, -, -, -, -⟩, fp⟩ := hL.at 0 rfl
  obtain ⟨⟨q0, q1, q2, -, -, -, -, -⟩, fq⟩ := hL.at 6 rfl
  dsimp only at p0 p1 p2 q0 q1 q2 fp fq
  have FP := Lib.hid fp
  have FQ := Lib.hid fq
  clear fp fq
  go_wp2_with fail
  refine (fadd_any _ _ _ FP.out FQ.out).mono ?_
  intro e we hres
  obtain ⟨bwe, a1we, a2we, n1we, n2we, c1we, c2we, rfl, hred, hg⟩ := hres.yes (d5.mono (by omega))
  replace hL := ((hL.gr hg).gr (Gr.alloc (Gr.refl we) (.cells #[.bool bwe, .slice a1we n1we c1we, .slice a2we n2we c2we] 29))).snoc (l := ⟨we.heap.size, bwe, a1we, a2we, n1we, n2we, c1we, c2we, _⟩) ⟨C3.new we _ _ _ _ _ rfl, (hred.gr (Gr.alloc (Gr.refl we) _)).fra (d5.mono (by omega))⟩
  replace hRd := ((hRd.gr hg).gr (Gr.alloc (Gr.refl we) (.cells #[.bool bwe, .slice a1we n1we c1we, .slice a2we n2we c2we] 29))).snoc (l := ⟨we.heap.size, bwe, a1we, a2we, n1we, n2we, c1we, c2we, _⟩) (hred.gr (Gr.alloc (Gr.refl we) _))
  replace hG := (hG.step hg).alloc (.cells #[.bool bwe, .slice a1we n1we c1we, .slice a2we n2we c2we] 29)
  clear p0 p1 p2 q0 q1 q2 FP FQ hres hred hg
  obtain ⟨⟨p0, p1, p2, -, -, -, -, -⟩, fp⟩ := hL.at 0 rfl
  obtain ⟨⟨q0, q1, q2, -, -, -, -, -⟩, fq⟩ := hL.at 6 rfl
  dsimp only at p0 p1 p2 q0 q1 q2 fp fq
  have FP := Lib.hid fp
  have FQ := Lib.hid fq
  clear fp fq
  go_wp2_with fail
  refine (fmul_any _ _ _ FP.out FQ.out).mono ?_
  intro e wf hres
  obtain ⟨bwf, a1wf, a2wf, n1wf, n2wf, c1wf, c2wf, rfl, hred, hg⟩ := hres.yes (d6.mono (by omega))
  replace hL := ((hL.gr hg).gr (Gr.alloc (Gr.refl wf) (.cells #[.bool bwf, .slice a1wf n1wf c1wf, .slice a2wf n2wf c2wf] 29))).snoc (l := ⟨wf.heap.size, bwf, a1wf, a2wf, n1wf, n2wf, c1wf, c2wf, _⟩) ⟨C3.new wf _ _ _ _ _ rfl, (hred.gr (Gr.alloc (Gr.refl wf) _)).fra (d6.mono (by omega))⟩
  replace hRd := ((hRd.gr hg).gr (Gr.alloc (Gr.refl wf) (.cells #[.bool bwf, .slice a1wf n1wf c1wf, .slice a2wf n2wf c2wf] 29))).snoc (l := ⟨wf.heap.size, bwf, a1wf, a2wf, n1wf, n2wf, c1wf, c2wf, _⟩) (hred.gr (Gr.alloc (Gr.refl wf) _))
  replace hG := (hG.step hg).alloc (.cells #[.bool bwf, .slice a1wf n1wf c1wf, .slice a2wf n2wf c2wf] 29)
  clear p0 p1 p2 q0 q1 q2 FP FQ hres hred hg
  obtain ⟨⟨p0, p1, p2, -, -, -, -, -⟩, fp⟩ := hL.at 0 rfl
  obtain ⟨⟨q0, q1, q2, -, -, -, -, -⟩, fq⟩ := hL.at 1 rfl
  dsimp only at p0 p1 p2 q0 q1 q2 fp fq
  have FP := Lib.hid fp
  have FQ := Lib.hid fq
  clear fp fq
  go_wp2_with fail
  refine (fmul_any _ _ _ FP.out FQ.out).mono ?_
  intro e wg hres
  obtain ⟨bwg, a1wg, a2wg, n1wg, n2wg, c1wg, c2wg, rfl, hred, hg⟩ := hres.yes (d7.mono (by omega))
  replace hL := ((hL.gr hg).gr (Gr.alloc (Gr.refl wg) (.cells #[.bool bwg, .slice a1wg n1wg c1wg, .slice a2wg n2wg c2wg] 29))).snoc (l := ⟨wg.heap.size, bwg, a1wg, a2wg, n1wg, n2wg, c1wg, c2wg, _⟩) ⟨C3.new wg _ _ _ _ _ rfl, (hred.gr (Gr.alloc (Gr.refl wg) _)).fra (d7.mono (by omega))⟩
  replace hRd := ((hRd.gr hg).gr (Gr.alloc (Gr.refl wg) (.cells #[.bool bwg, .slice a1wg n1wg c1wg, .slice a2wg n2wg c2wg] 29))).snoc (l := ⟨wg.heap.size, bwg, a1wg, a2wg, n1wg, n2wg, c1wg, c2wg, _⟩) (hred.gr (Gr.alloc (Gr.refl wg) _))
  replace hG := (hG.step hg).alloc (.cells #[.bool bwg, .slice a1wg n1wg c1wg, .slice a2wg n2wg c2wg] 29)
  clear p0 p1 p2 q0 q1 q2 FP FQ hres hred hg
  obtain ⟨⟨p0, p1, p2, -, -, -, -, -⟩, fp⟩ := hL.at 0 rfl
  obtain ⟨⟨q0, q1, q2, -, -, -, -, -⟩, fq⟩ := hL.at 2 rfl
  dsimp only at p0 p1 p2 q0 q1 q2 fp fq
  have FP := Lib.hid fp
  have FQ := Lib.hid fq
  clear fp fq
  go_wp2_with fail
  refine (fmul_any _ _ _ FP.out FQ.out).mono ?_
  intro e wh hres
  obtain ⟨bwh, a1wh, a2wh, n1wh, n2wh, c1wh, c2wh, rfl, hred, hg⟩ := hres.yes (d8.mono (by omega))
  replace hL := ((hL.gr hg).gr (Gr.alloc (Gr.refl wh) (.cells #[.bool bwh, .slice a1wh n1wh c1wh, .slice a2wh n2wh c2wh] 29))).snoc (l := ⟨wh.heap.size, bwh, a1wh, a2wh, n1wh, n2wh, c1wh, c2wh, _⟩) ⟨C3.new wh _ _ _ _ _ rfl, (hred.gr (Gr.alloc (Gr.refl wh) _)).fra (d8.mono (by omega))⟩
  replace hRd := ((hRd.gr hg).gr (Gr.alloc (Gr.refl wh) (.cells #[.bool bwh, .slice a1wh n1wh c1wh, .slice a2wh n2wh c2wh] 29))).snoc (l := ⟨wh.heap.size, bwh, a1wh, a2wh, n1wh, n2wh, c1wh, c2wh, _⟩) (hred.gr (Gr.alloc (Gr.refl wh) _))
  replace hG := (hG.step hg).alloc (.cells #[.bool bwh, .slice a1wh n1wh c1wh, .slice a2wh n2wh c2wh] 29)
  clear p0 p1 p2 q0 q1 q2 FP FQ hres hred hg
  obtain ⟨⟨p0, p1, p2, -, -, -, -, -⟩, fp⟩ := hL.at 9 rfl
  obtain ⟨⟨q0, q1, q2, -, -, -, -, -⟩, fq⟩ := hL.at 10 rfl
  dsimp only at p0 p1 p2 q0 q1 q2 fp fq
  have FP := Lib.hid fp
  have FQ := Lib.hid fq
  clear fp fq
  go_wp2_with fail
  refine (fadd_any _ _ _ FP.out FQ.out).mono ?_
  intro e wi hres
  obtain ⟨bwi, a1wi, a2wi, n1wi, n2wi, c1wi, c2wi, rfl, hred, hg⟩ := hres.yes (d9.mono (by omega))
  replace hL := ((hL.gr hg).gr (Gr.alloc (Gr.refl wi) (.cells #[.bool bwi, .slice a1wi n1wi c1wi, .slice a2wi n2wi c2wi] 29))).snoc (l := ⟨wi.heap.size, bwi, a1wi, a2wi, n1wi, n2wi, c1wi, c2wi, _⟩) ⟨C3.new wi _ _ _ _ _ rfl, (hred.gr (Gr.alloc (Gr.refl wi) _)).fra (d9.mono (by omega))⟩
  replace hRd := ((hRd.gr hg).gr (Gr.alloc (Gr.refl wi) (.cells #[.bool bwi, .slice a1wi n1wi c1wi, .slice a2wi n2wi c2wi] 29))).snoc (l := ⟨wi.heap.size, bwi, a1wi, a2wi, n1wi, n2wi, c1wi, c2wi, _⟩) (hred.gr (Gr.alloc (Gr.refl wi) _))
  replace hG := (hG.step hg).alloc (.cells #[.bool bwi, .slice a1wi n1wi c1wi, .slice a2wi n2wi c2wi] 29)
  clear p0 p1 p2 q0 q1 q2 FP FQ hres hred hg
  obtain ⟨⟨p0, p1, p2, -, -, -, -, -⟩, fp⟩ := hL.at 3 rfl
  obtain ⟨⟨q0, q1, q2, -, -, -, -, -⟩, fq⟩ := hL.at 1 rfl
  dsimp only at p0 p1 p2 q0 q1 q2 fp fq
  have FP := Lib.hid fp
  have FQ := Lib.hid fq
  clear fp fq
  go_wp2_with fail
  refine (fsub_any _ _ _ FP.out FQ.out).mono ?_
  intro e wj hres
  obtain ⟨bwj, a1wj, a2wj, n1wj, n2wj, c1wj, c2wj, rfl, hred, hg⟩ := hres.yes (d10.mono (by omega))
  replace hL := ((hL.gr hg).gr (Gr.alloc (Gr.refl wj) (.cells #[.bool bwj, .slice a1wj n1wj c1wj, .slice a2wj n2wj c2wj] 29))).snoc (l := ⟨wj.heap.size, bwj, a1wj, a2wj, n1wj, n2wj, c1wj, c2wj, _⟩) ⟨C3.new wj _ _ _ _ _ rfl, (hred.gr (Gr.alloc (Gr.refl wj) _)).fra (d10.mono (by omega))⟩
  replace hRd := ((hRd.gr hg).gr (Gr.alloc (Gr.refl wj) (.cells #[.bool bwj, .slice a1wj n1wj c1wj, .slice a2wj n2wj c2wj] 29))).snoc (l := ⟨wj.heap.size, bwj, a1wj, a2wj, n1wj, n2wj, c1wj, c2wj, _⟩) (hred.gr (Gr.alloc (Gr.refl wj) _))
  replace hG := (hG.step hg).alloc (.cells #[.bool bwj, .slice a1wj n1wj c1wj, .slice a2wj n2wj c2wj] 29)
  clear p0 p1 p2 q0 q1 q2 FP FQ hres hred hg
  go_wp2_with fail
  generalize wj.alloc (.cells #[.bool bwj, .slice a1wj n1wj c1wj, .slice a2wj n2wj c2wj] 29) = Wc at *
  have hS : Gr Wc Wc.drew := Gr.drew (Gr.refl _)
  refine region_plain (fun W' => Gr Wc W') (by kernel_rfl) ?_
  refine take_at 0 (some 99) (v := ?v0) rfl rfl (by kernel_rfl) (by kernel_rfl) (by kernel_rfl) (by rfl) ?y0 hS ?t0
  case y0 =>
    intro w' hSw
    obtain ⟨⟨q0, q1, q2, -, -, -, -, -⟩, -⟩ := (hL.gr hSw).at 3 rfl
    dsimp only at q0 q1 q2
    go_simp
    (try with_reducible rfl)
  simp only [Act.put, List.setIfInBounds_toArray, List.set_cons_zero, List.set_cons_succ]
  refine take_at 1 (some 100) (v := ?v1) rfl rfl (by kernel_rfl) (by kernel_rfl) (by kernel_rfl) (by rfl) ?y1 hS ?t1
  case y1 =>
    intro w' hSw
    obtain ⟨⟨q0, q1, q2, -, -, -, -, -⟩, -⟩ := (hL.gr hSw).at 4 rfl
    dsimp only at q0 q1 q2
    go_simp
    (try with_reducible rfl)
  simp only [Act.put, List.setIfInBounds_toArray, List.set_cons_zero, List.set_cons_succ]
  refine next_at 2 rfl (by kernel_rfl) (by rfl) (fun K hK => ?_)
  go_simp
  refine (fsame_yes (r := (X + Y)) _ _ _ ((hRd.gr hS).at 0 rfl) (Rat.add_comm Y X ▸ (hRd.gr hS).at 1 rfl) (d1.mono (by omega))).mono ?_
  rintro e ws2 ⟨rfl, hg⟩
  replace hS := Gr.step hS hg
  refine hK _ _ hS ?_
  clear hK K hg
  refine next_at 3 rfl (by kernel_rfl) (by rfl) (fun K hK => ?_)
  go_simp
  refine hK _ _ hS ?_
  clear hK K
  refine next_at 4 rfl (by kernel_rfl) (by rfl) (fun K hK => ?_)
  go_simp
  refine hK _ _ hS ?_
  clear hK K
  refine take_at 5 (some 104) (v := ?v5) rfl rfl (by kernel_rfl) (by kernel_rfl) (by kernel_rfl) (by rfl) ?y5 hS ?t5
  case y5 =>
    intro w' hSw
    obtain ⟨⟨q0, q1, q2, -, -, -, -, -⟩, -⟩ := (hL.gr hSw).at 5 rfl
    dsimp only at q0 q1 q2
    go_simp
    (try with_reducible rfl)
  simp only [Act.put, List.setIfInBounds_toArray, List.set_cons_zero, List.set_cons_succ]
  refine take_at 6 (some 105) (v := ?v6) rfl rfl (by kernel_rfl) (by kernel_rfl) (by kernel_rfl) (by rfl) ?y6 hS ?t6
  case y6 =>
    intro w' hSw
    obtain ⟨⟨q0, q1, q2, -, -, -, -, -⟩, -⟩ := (hL.gr hSw).at 7 rfl
    dsimp only at q0 q1 q2
    go_simp
    (try with_reducible rfl)
  simp only [Act.put, List.setIfInBounds_toArray, List.set_cons_zero, List.set_cons_succ]
  refine next_at 7 rfl (by kernel_rfl) (by rfl) (fun K hK => ?_)
  go_simp
  refine (fsame_yes (r := (X + Y + Z)) _ _ _ ((hRd.gr hS).at 2 rfl) ((Rat.add_assoc X Y Z).symm ▸ (hRd.gr hS).at 4 rfl) (d3.mono (by omega))).mono ?_
  rintro e ws7 ⟨rfl, hg⟩
  replace hS := Gr.step hS hg
  refine hK _ _ hS ?_
  clear hK K hg
  refine next_at 8 rfl (by kernel_rfl) (by rfl) (fun K hK => ?_)
  go_simp
  refine hK _ _ hS ?_
  clear hK K
  refine next_at 9 rfl (by kernel_rfl) (by rfl) (fun K hK => ?_)
  go_simp
  refine hK _ _ hS ?_
  clear hK K
  refine next_at 10 rfl (by kernel_rfl) (by rfl) (fun K hK => ?_)
  go_simp
  refine hK _ _ hS ?_
  clear hK K
  refine take_at 11 (some 110) (v := ?v11) rfl rfl (by kernel_rfl) (by kernel_rfl) (by kernel_rfl) (by rfl) ?y11 hS ?t11
  case y11 =>
    intro w' hSw
    obtain ⟨⟨q0, q1, q2, -, -, -, -, -⟩, -⟩ := (hL.gr hSw).at 8 rfl
    dsimp only at q0 q1 q2
    go_simp
    (try with_reducible rfl)
  simp only [Act.put, List.setIfInBounds_toArray, List.set_cons_zero, List.set_cons_succ]
  refine take_at 12 (some 111) (v := ?v12) rfl rfl (by kernel_rfl) (by kernel_rfl) (by kernel_rfl) (by rfl) ?y12 hS ?t12
  case y12 =>
    intro w' hSw
    obtain ⟨⟨q0, q1, q2, -, -, -, -, -⟩, -⟩ := (hL.gr hSw).at 11 rfl
    dsimp only at q0 q1 q2
    go_simp
    (try with_reducible rfl)
  simp only [Act.put, List.setIfInBounds_toArray, List.set_cons_zero, List.set_cons_succ]
  refine next_at 13 rfl (by kernel_rfl) (by rfl) (fun K hK => ?_)
  go_simp
  refine (fsame_yes (r := (X * (Y + Z))) _ _ _ ((hRd.gr hS).at 5 rfl) ((Rat.mul_add X Y Z).symm ▸ (hRd.gr hS).at 8 rfl) (d6.mono (by omega))).mono ?_
  rintro e ws13 ⟨rfl, hg⟩
  replace hS := Gr.step hS hg
  refine hK _ _ hS ?_
  clear hK K hg
  refine next_at 14 rfl (by kernel_rfl) (by rfl) (fun K hK => ?_)
  go_simp
  refine hK _ _ hS ?_
  clear hK K
  refine next_at 15 rfl (by kernel_rfl) (by rfl) (fun K hK => ?_)
  go_simp
  refine hK _ _ hS ?_
  clear hK K
  refine next_at 16 rfl (by kernel_rfl) (by rfl) (fun K hK => ?_)
  go_simp
  refine hK _ _ hS ?_
  clear hK K
  refine take_at 17 (some 116) (v := ?v17) rfl rfl (by kernel_rfl) (by kernel_rfl) (by kernel_rfl) (by rfl) ?y17 hS ?t17
  case y17 =>
    intro w' hSw
    obtain ⟨⟨q0, q1, q2, -, -, -, -, -⟩, -⟩ := (hL.gr hSw).at 12 rfl
    dsimp only at q0 q1 q2
    go_simp
    (try with_reducible rfl)
  simp only [Act.put, List.setIfInBounds_toArray, List.set_cons_zero, List.set_cons_succ]
  refine take_at 18 (some 117) (v := ?v18) rfl rfl (by kernel_rfl) (by kernel_rfl) (by kernel_rfl) (by rfl) ?y18 hS ?t18
  case y18 =>
    intro w' hSw
    obtain ⟨⟨q0, q1, q2, -, -, -, -, -⟩, -⟩ := (hL.gr hSw).at 0 rfl
    dsimp only at q0 q1 q2
    go_simp
    (try with_reducible rfl)
  simp only [Act.put, List.setIfInBounds_toArray, List.set_cons_zero, List.set_cons_succ]
  refine next_at 19 rfl (by kernel_rfl) (by rfl) (fun K hK => ?_)
  go_simp
  refine (freduce_any _ _ ((hL.gr hS).at 0 rfl).2).mono ?_
  rintro e wr1 ⟨u, rfl, hru, -, hg⟩
  replace hS := Gr.step hS hg
  refine hK _ _ hS ?_
  clear hK K hg
  refine next_at 20 rfl (by kernel_rfl) (by rfl) (fun K hK => ?_)
  go_simp
  refine (fsame_yes (r := X) _ _ _ ((Rat.add_sub_cancel (a := X) (b := Y)) ▸ (hRd.gr hS).at 9 rfl) hru (dX.mono (by omega))).mono ?_
  rintro e ws20 ⟨rfl, hg⟩
  replace hS := Gr.step hS hg
  refine hK _ _ hS ?_
  clear hK K hg
  refine next_at 21 rfl (by kernel_rfl) (by rfl) (fun K hK => ?_)
  go_simp
  refine hK _ _ hS ?_
  clear hK K
  refine next_at 22 rfl (by kernel_rfl) (by rfl) (fun K hK => ?_)
  go_simp
  refine hK _ _ hS ?_
  clear hK K
  refine wpAnyH_done (by kernel_rfl) ?_ _
  replace hL := hL.gr hS
  replace hRd := hRd.gr hS
  replace hG := hG.step hS
  have dX0 := dX
  by_cases hY : Y = 0
  · have hny : ny1 = 0 := ((hL.at 1 rfl).2.len).2 hY
    obtain ⟨⟨p0, p1, p2, -, -, -, -, -⟩, fp⟩ := hL.at 9 rfl
    obtain ⟨⟨q0, q1, q2, -, -, -, -, -⟩, fq⟩ := hL.at 1 rfl
    dsimp only at p0 p1 p2 q0 q1 q2 fp fq
    rw [hY] at fq
    have FP := Lib.hid fp
    have FQ := Lib.hid fq
    clear fp fq hY
    subst hny
    refine qz_normal ?_
    go_wp2_with fail
    refine (fdiv_zero _ _ _ FP.out FQ.out).mono ?_
    rintro e wk ⟨rfl, hg⟩
    unfold fzero
    have hG9 := (hG.step hg).alloc (.cells #[.bool false, .slice none 0 0, .slice none 0 0] 29)
    clear p0 p1 p2 q0 q1 q2
    obtain ⟨⟨q0, q1, q2, -, -, -, -, -⟩, -⟩ := ((hL.gr hg).gr (Gr.alloc (Gr.refl wk) (.cells #[.bool false, .slice none 0 0, .slice none 0 0] 29))).at 1 rfl
    dsimp only at q0 q1 q2
    go_wp2_with fail
    go_ret
    exact ⟨rfl, hG9⟩
  · have hny : ny1 ≠ 0 := fun h => hY (((hL.at 1 rfl).2.len).1 h)
    have dny : ((ny1 : Int) == 0) = false := by rw [beq_eq_false_iff_ne]; omega
    have hdv : X * Y / Y = X := Rat.mul_div_cancel hY
    obtain ⟨⟨p0, p1, p2, -, -, -, -, -⟩, fp⟩ := hL.at 9 rfl
    obtain ⟨⟨q0, q1, q2, -, -, -, -, -⟩, fq⟩ := hL.at 1 rfl
    dsimp only at p0 p1 p2 q0 q1 q2 fp fq
    have FP := Lib.hid fp
    have FQ := Lib.hid fq
    have HY := Lib.hid hY
    have HDV := Lib.hid hdv
    clear fp fq hY hdv hny
    refine qz_normal ?_
    go_wp2_with fail
    refine (fdiv_any _ _ _ FP.out FQ.out HY.out).mono ?_
    intro e wk hres
    rw [HDV.out] at hres
    obtain ⟨bk, a1k, a2k, n1k, n2k, c1k, c2k, rfl, hred, hg⟩ := hres.yes (dX.mono (by omega))
    replace hL := ((hL.gr hg).gr (Gr.alloc (Gr.refl wk) (.cells #[.bool bk, .slice a1k n1k c1k, .slice a2k n2k c2k] 29))).snoc (l := ⟨wk.heap.size, bk, a1k, a2k, n1k, n2k, c1k, c2k, X⟩) ⟨C3.new wk _ _ _ _ _ rfl, (hred.gr (Gr.alloc (Gr.refl wk) _)).fra (dX.mono (by omega))⟩
    replace hRd := ((hRd.gr hg).gr (Gr.alloc (Gr.refl wk) (.cells #[.bool bk, .slice a1k n1k c1k, .slice a2k n2k c2k] 29))).snoc (l := ⟨wk.heap.size, bk, a1k, a2k, n1k, n2k, c1k, c2k, X⟩) (hred.gr (Gr.alloc (Gr.refl wk) _))
    replace hG := (hG.step hg).alloc (.cells #[.bool bk, .slice a1k n1k c1k, .slice a2k n2k c2k] 29)
    clear p0 p1 p2 q0 q1 q2 FP FQ hres hred hg hS
    obtain ⟨⟨q0, q1, q2, -, -, -, -, -⟩, -⟩ := hL.at 1 rfl
    dsimp only at q0 q1 q2
    go_wp2_with fail
    clear q0 q1 q2
    generalize wk.alloc (.cells #[.bool bk, .slice a1k n1k c1k, .slice a2k n2k c2k] 29) = Wd at *
    have hS : Gr Wd Wd.drew := Gr.drew (Gr.refl _)
    refine region_plain (fun W' => Gr Wd W') (by kernel_rfl) ?_
    refine next_at 0 rfl (by kernel_rfl) (by rfl) (fun K hK => ?_)
    go_simp
    refine hK _ _ hS ?_
    clear hK K
    refine next_at 1 rfl (by kernel_rfl) (by rfl) (fun K hK => ?_)
    go_simp
    refine hK _ _ hS ?_
    clear hK K
    refine next_at 2 rfl (by kernel_rfl) (by rfl) (fun K hK => ?_)
    go_simp
    refine hK _ _ hS ?_
    clear hK K
    refine take_at 3 (some 137) (v := ?v3) rfl rfl (by kernel_rfl) (by kernel_rfl) (by kernel_rfl) (by rfl) ?y3 hS ?t3
    case y3 =>
      intro w' hSw
      obtain ⟨⟨q0, q1, q2, -, -, -, -, -⟩, -⟩ := (hL.gr hSw).at 13 rfl
      dsimp only at q0 q1 q2
      go_simp
      (try with_reducible rfl)
    simp only [Act.put, List.setIfInBounds_toArray, List.set_cons_zero, List.set_cons_succ]
    refine take_at 4 (some 138) (v := ?v4) rfl rfl (by kernel_rfl) (by kernel_rfl) (by kernel_rfl) (by rfl) ?y4 hS ?t4
    case y4 =>
      intro w' hSw
      obtain ⟨⟨q0, q1, q2, -, -, -, -, -⟩, -⟩ := (hL.gr hSw).at 0 rfl
      dsimp only at q0 q1 q2
      go_simp
      (try with_reducible rfl)
    simp only [Act.put, List.setIfInBounds_toArray, List.set_cons_zero, List.set_cons_succ]
    refine next_at 5 rfl (by kernel_rfl) (by rfl) (fun K hK => ?_)
    go_simp
    refine (freduce_any _ _ ((hL.gr hS).at 0 rfl).2).mono ?_
    rintro e wr2 ⟨u2, rfl, hru2, -, hg⟩
    replace hS := Gr.step hS hg
    refine hK _ _ hS ?_
    clear hK K hg
    refine next_at 6 rfl (by kernel_rfl) (by rfl) (fun K hK => ?_)
    go_simp
    refine (fsame_yes (r := X) _ _ _ ((hRd.gr hS).at 10 rfl) hru2 (dX.mono (by omega))).mono ?_
    rintro e ws6 ⟨rfl, hg⟩
    replace hS := Gr.step hS hg
    refine hK _ _ hS ?_
    clear hK K hg
    refine next_at 7 rfl (by kernel_rfl) (by rfl) (fun K hK => ?_)
    go_simp
    refine hK _ _ hS ?_
    clear hK K
    refine next_at 8 rfl (by kernel_rfl) (by rfl) (fun K hK => ?_)
    go_simp
    refine hK _ _ hS ?_
    clear hK K
    refine wpAnyH_done (by kernel_rfl) ?_ _
    refine qz_normal ?_
    go_wp2_with fail
    go_ret
    exact ⟨rfl, hG.step hS⟩
end Go.Proofs.YtoaboflepfmkpaaGreatDoor
