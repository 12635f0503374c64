/- The sanity check of chapter 4's statements, and how bytes come in. -/
import Derived.Test.YtikkobmccagdlaaWf
import Derived.WalkKit
import Derived.WalkSpells
import Derived.WalkLawsBesides
import Derived.WalkSmall
import Derived.Handy
import Derived.BigQuiet
import Derived.Deep.QuietTactic
import Derived.Deep.RegionHeld3
import Derived.Deep.DeepFit
import Derived.Below
import Derived.Lib.Hide
import Derived.Lib.QuietBelow
namespace Go.Proofs.Ytikkobmccagdlaa
open Go Go.RowKit Go.Sort
set_option maxRecDepth 100000
set_option linter.unusedVariables false
theorem rb_lit (w : World) (l : List Nat) (hl : l.length ≤ 1000) (hx : ∀ x ∈ l, x < 256) : Rb (fun b => w.heap.size ≤ b) (w.alloc (.cells (cellsB l).toArray 5)) (.slice (some ⟨w.heap.size, 0, none⟩) l.length l.length) l := by
  have h : OwB w.heap.size (w.alloc (.cells (cellsB l).toArray 5)) (.slice (some ⟨w.heap.size, 0, none⟩) l.length l.length) l :=
    ⟨World.ownsRow_lit w (cellsB l).toArray l.length (Nat.le_refl _) (by unfold maxLen; omega) (by simp [cellsB_len]), hx⟩
  exact h.rb
theorem wawake_any (w : World) :
    Calls Try.prog 6 #[] w fun e w' => e = .returned (.bool true) ∧ Gr w w' := by
  have HR := Lib.hid (rb_lit w [69, 0, 0, 28] (by decide) (by decide))
  have e : wsum false [69, 0, 0, 28] = 17692 := by decide
  have e2 : oc 17692 = 17692 := by decide
  have HC := Lib.hid (wchk_any _ HR.out (by decide))
  rw [e, e2] at HC
  have HA := Lib.hid (fun w => wadd_any 65535 1 w)
  have e3 : adR 65535 1 = 1 := by decide
  rw [e3] at HA
  clear e e2 e3
  go_enter Try.func6, Try.ntmps6
  go_wp2_with (first | (go_at_call 19; refine HC.out.mono ?_; rintro e w1 ⟨rfl, rfl⟩) | (go_at_call 15; refine (HA.out _).mono ?_; rintro e w1 ⟨rfl, rfl⟩))
  go_ret
  exact ⟨rfl, Gr.alloc (Gr.refl _) _⟩
end Go.Proofs.Ytikkobmccagdlaa
