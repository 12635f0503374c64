/- Cover, the document's: the same list. -/
import Derived.Test.YtoaboflepfmkpaaDoorCovLand
import Derived.WalkKit
import Derived.WalkSpells
import Derived.WalkLawsBesides
import Derived.WalkSmall
import Derived.Handy
import Derived.BigQuiet
import Derived.Deep.QuietTactic
import Derived.Deep.RegionHeld3
import Derived.Deep.DeepFit
import Derived.Below
import Derived.Lib.Hide
import Derived.Lib.QuietBelow
import Derived.Maps.AppendAt
import Derived.Laws.OwnMore
import Derived.Deep.DeepCutAuto
namespace Go.Proofs.YtoaboflepfmkpaaDoor
open Go Go.RowKit Go.Sort
set_option maxRecDepth 100000
set_option linter.unusedVariables false

theorem fits_sz (s hi : Nat) (n : Int) : fits s (hi + 1) (32 - n.toNat) ↔ (s : Int) % sz n = 0 ∧ (s : Int) + sz n ≤ (hi : Int) + 1 := by
  unfold fits sz
  rw [Nat.dvd_iff_mod_eq_zero, ← Int.natCast_emod]
  generalize 2 ^ (32 - n.toNat) = q
  omega
theorem best_sz (s hi : Nat) (n : Int) (n0 : 0 ≤ n) (n1 : n ≤ 32) (h : s < hi + 1) (hh : hi < 2 ^ 32) (hy : (s : Int) % sz n = 0 ∧ (s : Int) + sz n ≤ (hi : Int) + 1)
    (hn : n = 0 ∨ ¬ ((s : Int) % sz (n - 1) = 0 ∧ (s : Int) + sz (n - 1) ≤ (hi : Int) + 1)) : 32 - n.toNat = best s (hi + 1) := by
  refine best_unique h (by omega) ((fits_sz s hi n).2 hy) ?_
  rcases hn with rfl | hn
  · intro hc
    have := hc.2
    simp at this; omega
  · by_cases hz : n = 0
    · subst hz
      intro hc
      have := hc.2
      simp at this; omega
    · rw [← fits_sz s hi (n - 1)] at hn
      have e : 32 - (n - 1).toNat = 32 - n.toNat + 1 := by omega
      rwa [e] at hn
theorem ownsRow_base {w : World} {b b' : Nat} {e : TypeId} {size : Nat} {v : Value} {n : Nat} {xs : List Value} (hb : b' ≤ b) (h : w.ownsRow b e size v n xs) : w.ownsRow b' e size v n xs :=
  ⟨h.1, h.2.imp id fun ⟨g, cap, cur, h1, h2, h3⟩ => ⟨g, cap, cur, h1, by omega, h3⟩⟩
end Go.Proofs.YtoaboflepfmkpaaDoor
