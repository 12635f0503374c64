/- The walk of the statement on rounding. -/
import Derived.Test.YtoaboflepfmkpaaGreatDoorRM
import Derived.Test.YtoaboflepfmkpaaGreatDoorFM
import Derived.Test.YtoaboflepfmkpaaGreatDoorFi
import Derived.WalkKit
import Derived.WalkSpells
import Derived.WalkLawsBesides
import Derived.WalkSmall
import Derived.Handy
import Derived.BigQuiet
import Derived.Deep.QuietTactic
import Derived.Deep.RegionHeld3
import Derived.Deep.DeepFit
import Derived.Below
import Derived.Lib.Hide
import Derived.Lib.QuietBelow
namespace Go.Proofs.YtoaboflepfmkpaaGreatDoor
open Go Go.RowKit Go.Sort
set_option maxRecDepth 100000
set_option linter.unusedVariables false
theorem ceil_le {X : Rat} {n : Int} : ceil X ≤ n ↔ X ≤ (n : Rat) := by
  unfold ceil
  have h : -(-X).floor ≤ n ↔ -n ≤ (-X).floor := by omega
  rw [h, Rat.le_floor_iff, Rat.intCast_neg, Rat.neg_le_neg_iff]
theorem rounds_facts (X : Rat) : X.floor ≤ ceil X ∧ ceil X ≤ X.floor + 1 ∧ rcmp (X.floor : Rat) X ≤ 0 ∧ rcmp X (ceil X : Rat) ≤ 0 ∧ (X.floor = ceil X ↔ rcmp (X.floor : Rat) X = 0) := by
  have h1 : (X.floor : Rat) ≤ X := Rat.floor_le X
  have h2 : X ≤ (ceil X : Rat) := ceil_le.1 (Int.le_refl _)
  have h3 : ceil X ≤ X.floor + 1 := ceil_le.2 (Rat.le_of_lt (Rat.lt_floor_add_one X))
  have h4 : X.floor ≤ ceil X := Rat.intCast_le_intCast.1 (Rat.le_trans h1 h2)
  have le0 : ∀ a b : Rat, a ≤ b → rcmp a b ≤ 0 := fun a b h => by
    rcases rat_tri a b with k | k | k
    · rw [rcmp_lt k]; omega
    · rw [k, rcmp_self]; omega
    · exact absurd h (Rat.not_le.2 k)
  refine ⟨h4, h3, le0 _ _ h1, le0 _ _ h2, ?_⟩
  constructor
  · intro h
    have h5 : X ≤ (X.floor : Rat) := by rw [← h] at h2; exact h2
    rw [Rat.le_antisymm h1 h5, rcmp_self]
  · intro h
    have h5 : (X.floor : Rat) = X := by
      rcases rat_tri (X.floor : Rat) X with k | k | k
      · rw [rcmp_lt k] at h; omega
      · exact k
      · rw [rcmp_gt k] at h; omega
    have h6 : ceil X ≤ X.floor := ceil_le.2 (by rw [h5]; exact Rat.le_refl)
    omega
theorem quot_one (n : Int) : quot n 1 = (n : Rat) := by
  unfold quot rat sgn
  have e : (if (decide (n < 0) != decide ((1 : Int) < 0)) = true then -(n.natAbs : Int) else (n.natAbs : Int)) = n := by
    by_cases h : n < 0
    · rw [if_pos (by simp [h])]; omega
    · rw [if_neg (by simp [h])]; omega
  rw [e]
  exact (Rat.mkRat_self (n : Rat))
theorem bd_int {n : Int} (h : n.natAbs ≤ 4611686018427387904) : Bd 64 (n : Rat) := by
  refine ⟨?_, ?_⟩
  · rw [Rat.num_intCast]; have := (nd_len n.natAbs 3).2 (by omega); omega
  · rw [Rat.den_intCast]; exact len_one'
/-- an int, or ErrRange -/
def FlRes (w : World) (F : Int) (e : Ending) (w' : World) : Prop :=
  ∃ z er : Int, e = .returned (.tuple #[.int .i64 z, .int .i64 er]) ∧ ((F.natAbs ≤ 4611686018427387904 ∧ z = F ∧ er = 0) ∨ (4611686018427387904 < F.natAbs ∧ z = 0 ∧ er = 1)) ∧ Gr w w'
theorem floor_any {r : Rat} (v : Value) (w : World) (h : Fra w v r) :
    Calls Tryz.prog 19 #[v] w (FlRes w r.floor) := by
  obtain ⟨x, va, vb, A, B, rfl, hA, hB, hB0, hx, lA, lB, rfl⟩ := h
  have HF : Hid ((rat x A B).floor = sgn x (rnd x A B)) := Lib.hid (floor_rnd hB0)
  have HA := Lib.hid hA
  have HB := Lib.hid hB
  have HB0 := Lib.hid hB0
  have HX := Lib.hid hx
  obtain ⟨aa, ca, rfl⟩ := num_slice hA
  obtain ⟨ab, cb, rfl⟩ := num_slice hB
  clear hA hB hB0 hx
  have hG0 : Gr w (w.alloc (.cells #[.bool x, .slice aa (nd A).length ca, .slice ab (nd B).length cb] 29)) := Gr.alloc (Gr.refl _) _
  go_enter Tryz.func19, Tryz.ntmps19
  go_wp2_with fail
  refine (rounded_any x x _ _ _ (HA.out.gr hG0) (HB.out.gr hG0) HB0.out HX.out lA lB).mono ?_
  rintro e w1 ⟨z, er, rfl, hz, hg⟩
  have HZ := Lib.hid hz
  clear hz
  go_wp2_with fail
  go_ret2
  refine ⟨_, _, rfl, ?_, hG0.step hg⟩
  have hz := HZ.out
  rw [HF.out, sgn_abs]
  exact hz
theorem ceil_any {r : Rat} (v : Value) (w : World) (h : Fra w v r) :
    Calls Tryz.prog 20 #[v] w (FlRes w (ceil r)) := by
  obtain ⟨x, va, vb, A, B, rfl, hA, hB, hB0, hx, lA, lB, rfl⟩ := h
  have HF : Hid (ceil (rat x A B) = sgn x (rnd (!x) A B)) := Lib.hid (ceil_rnd hB0 hx)
  have HA := Lib.hid hA
  have HB := Lib.hid hB
  have HB0 := Lib.hid hB0
  have HX := Lib.hid hx
  obtain ⟨aa, ca, rfl⟩ := num_slice hA
  obtain ⟨ab, cb, rfl⟩ := num_slice hB
  clear hA hB hB0 hx
  have hG0 : Gr w (w.alloc (.cells #[.bool x, .slice aa (nd A).length ca, .slice ab (nd B).length cb] 29)) := Gr.alloc (Gr.refl _) _
  go_enter Tryz.func20, Tryz.ntmps20
  go_wp2_with fail
  refine (rounded_any x (!x) _ _ _ (HA.out.gr hG0) (HB.out.gr hG0) HB0.out HX.out lA lB).mono ?_
  rintro e w1 ⟨z, er, rfl, hz, hg⟩
  have HZ := Lib.hid hz
  clear hz
  go_wp2_with fail
  go_ret2
  refine ⟨_, _, rfl, ?_, hG0.step hg⟩
  have hz := HZ.out
  rw [HF.out, sgn_abs]
  exact hz
set_option maxHeartbeats 4000000 in
theorem rounds_walk (sv : Value) (len : Nat) (w : World) (ht : Tab w) (hl : len ≤ 9223372036854775807) (hb : BytesV w.heap.size w sv len) :
    Calls Tryz.prog 5 #[sv] w fun e w' => e = .returned (.bool true) ∧ Gr w w' := by
  have HT := Lib.hid ht
  clear ht
  go_enter Tryz.func5, Tryz.ntmps5
  go_wp2_with (go_at_call 9; refine (fawake_any _ HT.out).mono ?_; rintro e w1 ⟨rfl, hg1⟩)
  refine (new_any sv len 100 _ (by omega) hl (hb.gr hg1)).mono ?_
  rintro e w2 ⟨b, rfl, hbe, hc2, hg2⟩
  have hbw : w.heap.size ≤ b := by have := Gr.size hg1; omega
  have hG2 : Gr w w2 := (by repeat' (first | (with_reducible exact Gr.refl _) | (with_reducible assumption) | (with_reducible refine Gr.drewN ?_ _) | (with_reducible refine Gr.drew ?_) | (with_reducible refine Gr.alloc ?_ _) | (with_reducible refine Gr.setCell ?_ ?_ _) | (with_reducible refine Gr.grow ?_ _ _) | (refine Gr.step ?_ (by with_reducible assumption)) | go_size))
  clear hbe hg1 hg2 hb
  go_wp2_with fail
  refine (frac_any b 2 _ hc2 (Gr.size hG2) (by omega) (by omega)).mono ?_
  rintro e w3 ⟨bx, ax1, ax2, nx1, nx2, cx1, cx2, X, rfl, hx, dX, hc3, he3⟩
  have hG3 : Gr w w3 := Ex.gr hG2 hbw he3
  have hL : Locs (w3.alloc (.cells #[.bool bx, .slice ax1 nx1 cx1, .slice ax2 nx2 cx2] 29)) [⟨w3.heap.size, bx, ax1, ax2, nx1, nx2, cx1, cx2, X⟩] := by
    intro l hl
    rw [List.mem_singleton] at hl
    subst hl
    exact ⟨C3.new w3 _ _ _ _ _ rfl, hx.fra.gr (Gr.alloc (Gr.refl _) _)⟩
  have hG := hG3.alloc (.cells #[.bool bx, .slice ax1 nx1 cx1, .slice ax2 nx2 cx2] 29)
  clear hx hc2 hc3 he3 hG2 hG3 hbw
  obtain ⟨r1, r2, r3, r4, r5⟩ := rounds_facts X
  obtain ⟨⟨p0, p1, p2, -, -, -, -, -⟩, fp⟩ := hL.at 0 rfl
  dsimp only at p0 p1 p2 fp
  have FP := Lib.hid fp
  clear fp
  go_wp2_with fail
  refine (floor_any _ _ FP.out).mono ?_
  rintro e wa ⟨za, ea, rfl, hza, hg⟩
  replace hL := hL.gr hg
  replace hG := hG.step hg
  clear p0 p1 p2 FP hg
  obtain ⟨⟨p0, p1, p2, -, -, -, -, -⟩, fp⟩ := hL.at 0 rfl
  dsimp only at p0 p1 p2 fp
  have FP := Lib.hid fp
  clear fp
  go_wp2_with fail
  refine (ceil_any _ _ FP.out).mono ?_
  rintro e wb ⟨zb, eb, rfl, hzb, hg⟩
  replace hL := hL.gr hg
  replace hG := hG.step hg
  clear p0 p1 p2 FP hg
  have R3 := Lib.hid r3
  have R4 := Lib.hid r4
  have R5 := Lib.hid r5
  generalize hF : X.floor = F at *
  generalize hC : ceil X = C at *
  clear hF hC r3 r4 r5
  rcases hza with ⟨a1, rfl, rfl⟩ | ⟨a1, rfl, rfl⟩
  · rcases hzb with ⟨b1, rfl, rfl⟩ | ⟨b1, rfl, rfl⟩
    · have DA := Lib.hid (bd_int a1)
      have DB := Lib.hid (bd_int b1)
      have fa0 : -9223372036854775808 ≤ za := by omega
      have fa1 : za ≤ 9223372036854775807 := by omega
      have fb0 : -9223372036854775808 ≤ zb := by omega
      have fb1 : zb ≤ 9223372036854775807 := by omega
      have A1 := Lib.hid a1
      have B1 := Lib.hid b1
      have RR : Hid (za ≤ zb ∧ zb ≤ za + 1) := Lib.hid ⟨r1, r2⟩
      clear a1 b1 r1 r2
      go_wp2_with fail
      refine (ffrom_any za 1 _ fa0 fa1 (by omega) (by omega) (by omega)).mono ?_
      intro e wc hres
      rw [quot_one] at hres
      obtain ⟨bc, a1c, a2c, n1c, n2c, c1c, c2c, rfl, hred, hg⟩ := hres.yes DA.out
      replace hL := ((hL.gr hg).gr (Gr.alloc (Gr.refl wc) (.cells #[.bool bc, .slice a1c n1c c1c, .slice a2c n2c c2c] 29))).snoc (l := ⟨wc.heap.size, bc, a1c, a2c, n1c, n2c, c1c, c2c, (za : Rat)⟩) ⟨C3.new wc _ _ _ _ _ rfl, (hred.gr (Gr.alloc (Gr.refl wc) _)).fra DA.out⟩
      replace hG := (hG.step hg).alloc (.cells #[.bool bc, .slice a1c n1c c1c, .slice a2c n2c c2c] 29)
      clear hres hred hg fa0 fa1
      go_wp2_with fail
      refine (ffrom_any zb 1 _ fb0 fb1 (by omega) (by omega) (by omega)).mono ?_
      intro e wd hres
      rw [quot_one] at hres
      obtain ⟨bd, a1d, a2d, n1d, n2d, c1d, c2d, rfl, hred, hg⟩ := hres.yes DB.out
      replace hL := ((hL.gr hg).gr (Gr.alloc (Gr.refl wd) (.cells #[.bool bd, .slice a1d n1d c1d, .slice a2d n2d c2d] 29))).snoc (l := ⟨wd.heap.size, bd, a1d, a2d, n1d, n2d, c1d, c2d, (zb : Rat)⟩) ⟨C3.new wd _ _ _ _ _ rfl, (hred.gr (Gr.alloc (Gr.refl wd) _)).fra DB.out⟩
      replace hG := (hG.step hg).alloc (.cells #[.bool bd, .slice a1d n1d c1d, .slice a2d n2d c2d] 29)
      clear hres hred hg fb0 fb1
      have hRd := Reds.nil (wd.alloc (.cells #[.bool bd, .slice a1d n1d c1d, .slice a2d n2d c2d] 29))
      obtain ⟨⟨p0, p1, p2, -, -, -, -, -⟩, fp⟩ := hL.at 1 rfl
      obtain ⟨⟨q0, q1, q2, -, -, -, -, -⟩, fq⟩ := hL.at 0 rfl
      dsimp only at p0 p1 p2 q0 q1 q2 fp fq
      have FP := Lib.hid fp
      have FQ := Lib.hid fq
      clear fp fq
      go_wp2_with fail
      refine (fcompare_any _ _ _ FP.out FQ.out).mono ?_
      rintro e we ⟨rfl, hg⟩
      replace hL := hL.gr hg
      replace hRd := hRd.gr hg
      replace hG := hG.step hg
      clear p0 p1 p2 q0 q1 q2 FP FQ hg
      obtain ⟨⟨p0, p1, p2, -, -, -, -, -⟩, fp⟩ := hL.at 0 rfl
      obtain ⟨⟨q0, q1, q2, -, -, -, -, -⟩, fq⟩ := hL.at 2 rfl
      dsimp only at p0 p1 p2 q0 q1 q2 fp fq
      have FP := Lib.hid fp
      have FQ := Lib.hid fq
      clear fp fq
      go_wp2_with fail
      refine (fcompare_any _ _ _ FP.out FQ.out).mono ?_
      rintro e wf ⟨rfl, hg⟩
      replace hL := hL.gr hg
      replace hRd := hRd.gr hg
      replace hG := hG.step hg
      clear p0 p1 p2 q0 q1 q2 FP FQ hg
      have g1 : decide (rcmp (za : Rat) X ≤ 0) = true := by have := R3.out; simpa using this
      have g2 : decide (rcmp X (zb : Rat) ≤ 0) = true := by have := R4.out; simpa using this
      have g5 : ((za == zb) == (rcmp (za : Rat) X == 0)) = true := by
        rw [beq_iff_eq, Bool.eq_iff_iff, beq_iff_eq, beq_iff_eq]; exact R5.out
      generalize rcmp (za : Rat) X = u at *
      generalize rcmp X (zb : Rat) = v at *
      have m1 : IntKind.i64.wrap (zb - za) = zb - za := IntWalk.i64_in _ (by have := RR.out; omega)
      have g3 : decide (0 ≤ zb - za) = true := by rw [decide_eq_true_eq]; have := RR.out; omega
      have g4 : decide (zb - za ≤ 1) = true := by rw [decide_eq_true_eq]; have := RR.out; omega
      have g3' : decide (za ≤ zb) = true := by rw [decide_eq_true_eq]; have := RR.out; omega
      go_wp2_with fail
      all_goals first
        | (go_ret; exact ⟨rfl, hG⟩)
        | (exfalso; have := RR.out; omega)
    · have g1 : decide (4611686018427387903 ≤ za) = true := by rw [decide_eq_true_eq]; omega
      clear a1 b1 r1 r2
      go_wp2_with fail
      go_ret
      exact ⟨rfl, hG⟩
  · rcases hzb with ⟨b1, rfl, rfl⟩ | ⟨b1, rfl, rfl⟩
    · have g1 : decide (zb ≤ -4611686018427387903) = true := by rw [decide_eq_true_eq]; omega
      clear a1 b1 r1 r2
      go_wp2_with fail
      go_ret
      exact ⟨rfl, hG⟩
    · clear a1 b1 r1 r2
      go_wp2_with fail
      go_ret
      exact ⟨rfl, hG⟩
end Go.Proofs.YtoaboflepfmkpaaGreatDoor
