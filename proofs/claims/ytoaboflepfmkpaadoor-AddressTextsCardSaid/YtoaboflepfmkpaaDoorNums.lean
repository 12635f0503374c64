/- More contracts of chapter 1's numbers. -/
import Derived.Test.YtoaboflepfmkpaaDoorLeaf
import Derived.WalkKit
import Derived.WalkSpells
import Derived.WalkLawsBesides
import Derived.WalkSmall
import Derived.Handy
import Derived.BigQuiet
import Derived.Deep.QuietTactic
import Derived.Deep.RegionHeld3
import Derived.Deep.DeepFit
import Derived.Below
import Derived.Lib.Hide
import Derived.Lib.QuietBelow
import Derived.StillTailTactics
namespace Go.Proofs.YtoaboflepfmkpaaDoor
open Go Go.RowKit Go.Sort
set_option maxRecDepth 100000
set_option linter.unusedVariables false

theorem rvalid_any (a n : Int) (w : World) (h0 : 0 ≤ a) (h1 : a < 4294967296) :
    Calls Tryd.prog 38 #[.agg #[.int .u32 a, .int .i64 n]] w fun e w' => e = .returned (.bool (vld a n)) ∧ Gr w w' := by
  by_cases hlo : n < 0
  · have hd : decide (0 ≤ n) = false := by simpa using hlo
    have hv := Lib.hid (vld_no (a := a) (Or.inl hlo))
    go_enter Tryd.func38, Tryd.ntmps38
    go_wp2
    go_quiet (fail)
    go_wp2
    go_ret
    exact ⟨ret_bool hv.out.symm, (by repeat' (first | (with_reducible exact Gr.refl _) | (with_reducible assumption) | (with_reducible refine Gr.drewN ?_ _) | (with_reducible refine Gr.drew ?_) | (with_reducible refine Gr.alloc ?_ _) | (with_reducible refine Gr.setCell ?_ ?_ _) | (with_reducible refine Gr.grow ?_ _ _) | (refine Gr.step ?_ (by with_reducible assumption)) | go_size))⟩
  by_cases hhi : 32 < n
  · have hd : decide (0 ≤ n) = true := by simpa using hlo
    have hd2 : decide (n ≤ 32) = false := by simpa using hhi
    have hv := Lib.hid (vld_no (a := a) (Or.inr hhi))
    go_enter Tryd.func38, Tryd.ntmps38
    go_wp2
    go_quiet (fail)
    go_wp2
    go_ret
    exact ⟨ret_bool hv.out.symm, (by repeat' (first | (with_reducible exact Gr.refl _) | (with_reducible assumption) | (with_reducible refine Gr.drewN ?_ _) | (with_reducible refine Gr.drew ?_) | (with_reducible refine Gr.alloc ?_ _) | (with_reducible refine Gr.setCell ?_ ?_ _) | (with_reducible refine Gr.grow ?_ _ _) | (refine Gr.step ?_ (by with_reducible assumption)) | go_size))⟩
  · have g0 : 0 ≤ n := by omega
    have g1 : n ≤ 32 := by omega
    have hd : decide (0 ≤ n) = true := by simpa using hlo
    have hd2 : decide (n ≤ 32) = true := by simpa using hhi
    have hs := sz_pos n
    have hs1 := sz_le n
    have hv : (a % sz n == 0) = vld a n := by
      rw [Bool.eq_iff_iff, vld_iff, beq_iff_eq]; omega
    have Hv := Lib.hid hv; clear hv
    go_enter Tryd.func38, Tryd.ntmps38
    go_wp2
    go_quiet ((go_at_call 59; exact Calls.quiet_of_same ((size_any n _ g0 g1).mono fun e w' ⟨he, hw⟩ => ⟨he, hw.symm⟩)))
    go_wp2
    go_ret
    exact ⟨ret_bool Hv.out, (by repeat' (first | (with_reducible exact Gr.refl _) | (with_reducible assumption) | (with_reducible refine Gr.drewN ?_ _) | (with_reducible refine Gr.drew ?_) | (with_reducible refine Gr.alloc ?_ _) | (with_reducible refine Gr.setCell ?_ ?_ _) | (with_reducible refine Gr.grow ?_ _ _) | (refine Gr.step ?_ (by with_reducible assumption)) | go_size))⟩
theorem rvalid_yes (a n : Int) (w : World) (h0 : 0 ≤ a) (h1 : a < 4294967296) (hv : vld a n = true) :
    Calls Tryd.prog 38 #[.agg #[.int .u32 a, .int .i64 n]] w fun e w' => e = .returned (.bool true) ∧ Gr w w' := by
  rw [← hv]; exact rvalid_any a n w h0 h1
theorem rvalid_no (a n : Int) (w : World) (h0 : 0 ≤ a) (h1 : a < 4294967296) (hv : vld a n = false) :
    Calls Tryd.prog 38 #[.agg #[.int .u32 a, .int .i64 n]] w fun e w' => e = .returned (.bool false) ∧ Gr w w' := by
  rw [← hv]; exact rvalid_any a n w h0 h1

theorem cmpI_any (x y : Int) (w : World) :
    Calls Tryd.prog 55 #[.int .i64 x, .int .i64 y] w fun e w' => e = .returned (.int .i64 (ord x y)) ∧ w = w' := by
  rcases Int.lt_trichotomy x y with h | h | h
  · have E := Lib.hid (ord_lt h)
    go_enter Tryd.func55, Tryd.ntmps55
    go_wp2
    go_ret
    exact ⟨ret_int E.out.symm, rfl⟩
  · have E := Lib.hid (ord_eq h)
    have h1 : ¬ x < y := by omega
    have h2 : ¬ y < x := by omega
    clear h
    go_enter Tryd.func55, Tryd.ntmps55
    go_wp2
    go_ret
    exact ⟨ret_int E.out.symm, rfl⟩
  · have E := Lib.hid (ord_gt h)
    have h1 : ¬ x < y := by omega
    go_enter Tryd.func55, Tryd.ntmps55
    go_wp2
    go_ret
    exact ⟨ret_int E.out.symm, rfl⟩

end Go.Proofs.YtoaboflepfmkpaaDoor
