/- The document's Same on equal packets. -/
import Derived.Test.YtcpaphehhjnemaaWq
import Derived.Test.YtcpaphehhjnemaaIe
import Derived.WalkKit
import Derived.WalkSpells
import Derived.WalkLawsBesides
import Derived.WalkSmall
import Derived.Handy
import Derived.BigQuiet
import Derived.Deep.QuietTactic
import Derived.Deep.RegionHeld3
import Derived.Deep.DeepFit
import Derived.Below
import Derived.Lib.Hide
import Derived.Lib.QuietBelow
namespace Go.Proofs.Ytcpaphehhjnemaa
open Go Go.RowKit Go.Sort
set_option maxRecDepth 100000
set_option linter.unusedVariables false
set_option maxHeartbeats 1000000 in
theorem rsame_self {p q : Nat → Prop} {v1 v2 : Value} {l : List Nat} (a b c d : Int) (e : Bool) (f i : Int) (w : World) (h1 : Rb p w v1 l) (h2 : Rb q w v2 l) (hl : l.length ≤ 100000) :
    Calls Try.prog 21 #[pkV a b c d e f i v1, pkV a b c d e f i v2] w fun e w' => e = .returned (.bool true) ∧ Gr w w' := by
  have HE := Lib.hid (fun w' (k : Gr w w') => rweq_c w' (h1.gr k) (h2.gr k) hl hl true (by simp))
  obtain ⟨a1, c1, rfl, -, -⟩ := h1.form
  obtain ⟨a2, c2, rfl, -, -⟩ := h2.form
  unfold pkV
  clear h1 h2
  generalize l.length = n at *
  go_enter Try.func21, Try.ntmps21
  go_wp2_with fail
  refine (HE.out _ ((Gr.alloc (Gr.refl _) _).alloc _)).mono ?_
  rintro e w1 ⟨rfl, hg⟩
  go_wp2_with fail
  go_ret
  exact ⟨rfl, ((Gr.alloc (Gr.refl w) _).alloc _).step hg⟩
end Go.Proofs.Ytcpaphehhjnemaa
