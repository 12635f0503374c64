/- The document's Usable. -/
import Derived.Test.YtkpejaiigopmgaaDoorYs
import Derived.Test.YtkpejaiigopmgaaDoorYmM
import Derived.WalkKit
import Derived.WalkSpells
import Derived.WalkLawsBesides
import Derived.WalkSmall
import Derived.Handy
import Derived.BigQuiet
import Derived.Deep.QuietTactic
import Derived.Deep.RegionHeld3
import Derived.Deep.DeepFit
import Derived.Below
import Derived.Lib.Hide
import Derived.Lib.QuietBelow
namespace Go.Proofs.YtkpejaiigopmgaaDoor
open Go Go.RowKit Go.Sort
set_option maxRecDepth 100000
set_option linter.unusedVariables false
set_option linter.unusedSimpArgs false
theorem usable_any (a : Nat) (w : World) (ha : a < 4294967296) (c : Bool) (hc : c = true ↔ usb a) :
    Calls Tryd.prog 11 #[.int .u32 a] w fun e w' => e = .returned (.bool c) ∧ Gr w w' := by
  have HS := Lib.hid (fun w => rspecial_any (a : Int) w (by omega) (by omega))
  unfold usb at hc
  generalize knd ((a : Int) / 16777216) ((a : Int) / 65536 % 256) = K at *
  by_cases h0 : K = 0
  · have e0 : (K == 0) = true := by simpa using h0
    rw [show c = true from hc.2 (.inl h0)]
    clear hc h0
    go_enter Tryd.func11, Tryd.ntmps11
    go_wp2_with fail
    refine (HS.out _).mono ?_
    rintro e w1 ⟨rfl, hg⟩
    go_wp2_with fail
    go_ret
    exact ⟨rfl, hg⟩
  · have e0 : (K == 0) = false := by simpa using h0
    by_cases h3 : K = 3
    · have e3 : (K == 3) = true := by simpa using h3
      rw [show c = true from hc.2 (.inr h3)]
      clear hc h0 h3
      go_enter Tryd.func11, Tryd.ntmps11
      go_wp2_with fail
      refine (HS.out _).mono ?_
      rintro e w1 ⟨rfl, hg⟩
      go_wp2_with fail
      refine (HS.out _).mono ?_
      rintro e w2 ⟨rfl, hg2⟩
      go_wp2_with fail
      go_ret
      exact ⟨rfl, hg.step hg2⟩
    · have e3 : (K == 3) = false := by simpa using h3
      rw [show c = false from Bool.eq_false_iff.2 (fun h => (hc.1 h).elim h0 h3)]
      clear hc h0 h3
      go_enter Tryd.func11, Tryd.ntmps11
      go_wp2_with fail
      refine (HS.out _).mono ?_
      rintro e w1 ⟨rfl, hg⟩
      go_wp2_with fail
      refine (HS.out _).mono ?_
      rintro e w2 ⟨rfl, hg2⟩
      go_wp2_with fail
      go_ret
      exact ⟨rfl, hg.step hg2⟩
end Go.Proofs.YtkpejaiigopmgaaDoor
