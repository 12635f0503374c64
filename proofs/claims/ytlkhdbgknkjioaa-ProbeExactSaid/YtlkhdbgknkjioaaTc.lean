/- A piece of code that ends in one way, whatever its order. -/
import Derived.Test.YtlkhdbgknkjioaaTk
namespace Go.Proofs.Ytlkhdbgknkjioaa
open Go Go.RowKit
theorem region_cut {P : Program} {c : Code} {Q : Exit → Act → World → Prop} {a : Act} {w : World} (aF : Act) (R : World → Prop) (h : c.wp P (fun e a' w' => e = .normal ∧ a' = aF ∧ R w') a w) (k : ∀ w', R w' → Q .normal aF w') : c.wp P Q a w := by
  refine Code.wp_mono (fun e a' w' h' => ?_) h
  obtain ⟨he, ha, hr⟩ := h'
  rw [he, ha]
  exact k _ hr
end Go.Proofs.Ytlkhdbgknkjioaa
