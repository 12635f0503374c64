/- Several texts in one. -/
import Derived.Test.YtkpejaiigopmgaaGreatDoorGN
import Derived.WalkKit
import Derived.WalkSpells
import Derived.WalkLawsBesides
import Derived.WalkSmall
import Derived.Handy
import Derived.BigQuiet
import Derived.Deep.QuietTactic
import Derived.Deep.RegionHeld3
import Derived.Deep.DeepFit
import Derived.Below
import Derived.Lib.Hide
import Derived.Lib.QuietBelow
/- Probes: keys. -/
namespace Go.Proofs.YtkpejaiigopmgaaGreatDoor
open Go Go.RowKit Go.Sort
set_option maxRecDepth 100000
set_option linter.unusedVariables false
set_option linter.unusedSimpArgs false
theorem get_gN {p : Nat → Prop} {v : Value} {l : List Nat} (i k : Nat) (w : World) (h : Rb p w v l) (hk0 : 1 ≤ k) (hk1 : k ≤ 7) (hik : i + k ≤ l.length) (n : Nat) (hn : n = gN l i k) :
    Calls Tryz.prog 82 #[v, .int .i64 i, .int .i64 k] w fun e w' => e = .returned (.tuple #[.int .i64 (n : Nat), .int .i64 0]) ∧ w = w' := by
  subst hn; exact get_yes i k w h hk0 hk1 hik
def kyV (s d pr : Nat) (a b : Nat) : Value := .agg #[.int .u32 s, .int .u32 d, .int .i64 pr, .int .i64 a, .int .i64 b]
end Go.Proofs.YtkpejaiigopmgaaGreatDoor
/- Probes: Key and KeyOf. -/
namespace Go.Proofs.YtkpejaiigopmgaaGreatDoor
open Go Go.RowKit Go.Sort
set_option maxRecDepth 100000
set_option linter.unusedVariables false
set_option linter.unusedSimpArgs false
end Go.Proofs.YtkpejaiigopmgaaGreatDoor
/- Probes: KeyOf and Read. -/
namespace Go.Proofs.YtkpejaiigopmgaaGreatDoor
open Go Go.RowKit Go.Sort
set_option maxRecDepth 100000
set_option linter.unusedVariables false
set_option linter.unusedSimpArgs false
theorem region_cut1 {P : Program} {c : Code} {Q : Exit → Act → World → Prop} {a : Act} {w : World} (aF : Nat → Act) (R : Nat → World → Prop)
    (h : c.wp P (fun e a' w' => e = .normal ∧ ∃ x, a' = aF x ∧ R x w') a w) (k : ∀ x w', R x w' → Q .normal (aF x) w') : c.wp P Q a w := by
  refine Code.wp_mono (fun e a' w' h' => ?_) h
  obtain ⟨he, x, ha, hr⟩ := h'
  rw [he, ha]
  exact k _ _ hr
end Go.Proofs.YtkpejaiigopmgaaGreatDoor
