/- A piece of code that ends in one way but for some values, whatever its order. -/
import Derived.Test.YtcpaphehhjnemaaTk
namespace Go.Proofs.Ytcpaphehhjnemaa
open Go Go.RowKit
theorem region_cut9 {P : Program} {c : Code} {Q : Exit → Act → World → Prop} {a : Act} {w : World} (aF : Option Addr → Nat → Nat → Option Addr → Nat → Option Addr → Nat → Nat → Nat → Act) (R : Option Addr → Nat → Nat → Option Addr → Nat → Option Addr → Nat → Nat → Nat → World → Prop)
    (h : c.wp P (fun e a' w' => e = .normal ∧ ∃ x1 x2 x3 x4 x5 x6 x7 x8 x9, a' = aF x1 x2 x3 x4 x5 x6 x7 x8 x9 ∧ R x1 x2 x3 x4 x5 x6 x7 x8 x9 w') a w) (k : ∀ x1 x2 x3 x4 x5 x6 x7 x8 x9 w', R x1 x2 x3 x4 x5 x6 x7 x8 x9 w' → Q .normal (aF x1 x2 x3 x4 x5 x6 x7 x8 x9) w') : c.wp P Q a w := by
  refine Code.wp_mono (fun e a' w' h' => ?_) h
  obtain ⟨he, x1, x2, x3, x4, x5, x6, x7, x8, x9, ha, hr⟩ := h'
  rw [he, ha]
  exact k _ _ _ _ _ _ _ _ _ _ hr
end Go.Proofs.Ytcpaphehhjnemaa
