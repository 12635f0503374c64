/- The statement on all functions of fractions at parts or texts that are too long. -/
import Derived.Test.YtjpjnbgfodlkcaaGreatDoorGAL
import Derived.Test.YtjpjnbgfodlkcaaGreatDoorGAR
import Derived.Test.YtjpjnbgfodlkcaaGreatDoorHkM
import Derived.Test.YtjpjnbgfodlkcaaGreatDoorHgM
import Derived.WalkKit
import Derived.WalkSpells
import Derived.WalkLawsBesides
import Derived.WalkSmall
import Derived.Handy
import Derived.BigQuiet
import Derived.Deep.QuietTactic
import Derived.Deep.RegionHeld3
import Derived.Deep.DeepFit
import Derived.Below
import Derived.Lib.Hide
import Derived.Lib.QuietBelow
namespace Go.Proofs.YtjpjnbgfodlkcaaGreatDoor
open Go Go.RowKit Go.Sort
set_option maxRecDepth 100000
set_option linter.unusedVariables false
set_option maxHeartbeats 4000000 in
theorem exact_big (sv : Value) (rb : Bool) (an ad : Option Addr) (ln cn ld cd : Nat) (n d : Int) (l : List UInt8) (w : World) (ht : Tab w) (hbig : 100 < ln ∨ 100 < ld ∨ 300 < l.length) :
    Calls Tryz.prog 3 #[sv, .agg #[.bool rb, .slice an ln cn, .slice ad ld cd], .int .i64 n, .int .i64 d, .string (str l)] w fun e w' => e = .returned (.bool true) ∧ Gr w w' := by
  have hg0 : Gr w (w.alloc (.cells #[.bool rb, .slice an ln cn, .slice ad ld cd] 26)) := Gr.alloc (Gr.refl _) _
  have cR := C3.new w (.bool rb) (.slice an ln cn) (.slice ad ld cd) 26 w.heap.size rfl
  have HT := Lib.hid (ht.gr hg0)
  clear ht
  go_enter Tryz.func3, Tryz.ntmps3
  obtain ⟨r0, r1, r2, -, -, -, -, -⟩ := id cR
  by_cases h1 : 100 < ln
  · have u1 : decide ((100 : Int) < (ln : Int)) = true := by rw [decide_eq_true_eq]; omega
    go_wp2_with (go_at_call 4; refine (fawake_any _ HT.out).mono ?_; rintro e w1 ⟨rfl, hg1⟩; clear r0 r1 r2; have cR := cR.gr hg1; obtain ⟨r0, r1, r2, -, -, -, -, -⟩ := id cR)
    go_ret
    exact ⟨rfl, hg0.step hg1⟩
  · have u1 : decide ((100 : Int) < (ln : Int)) = false := by rw [decide_eq_false_iff_not]; omega
    by_cases h2 : 100 < ld
    · have u2 : decide ((100 : Int) < (ld : Int)) = true := by rw [decide_eq_true_eq]; omega
      go_wp2_with (go_at_call 4; refine (fawake_any _ HT.out).mono ?_; rintro e w1 ⟨rfl, hg1⟩; clear r0 r1 r2; have cR := cR.gr hg1; obtain ⟨r0, r1, r2, -, -, -, -, -⟩ := id cR)
      go_ret
      exact ⟨rfl, hg0.step hg1⟩
    · have u2 : decide ((100 : Int) < (ld : Int)) = false := by rw [decide_eq_false_iff_not]; omega
      have u3 : decide ((300 : Int) < ((str l).size : Int)) = true := by rw [decide_eq_true_eq, str_size]; omega
      go_wp2_with (go_at_call 4; refine (fawake_any _ HT.out).mono ?_; rintro e w1 ⟨rfl, hg1⟩; clear r0 r1 r2; have cR := cR.gr hg1; obtain ⟨r0, r1, r2, -, -, -, -, -⟩ := id cR)
      go_ret
      exact ⟨rfl, hg0.step hg1⟩
end Go.Proofs.YtjpjnbgfodlkcaaGreatDoor
