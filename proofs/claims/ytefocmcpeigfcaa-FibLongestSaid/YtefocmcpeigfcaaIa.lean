/- Addresses from choices; a drawn header. -/
import Derived.Test.YtefocmcpeigfcaaDraw
import Derived.Test.YtefocmcpeigfcaaIm
import Derived.WalkKit
import Derived.WalkSpells
import Derived.WalkLawsBesides
import Derived.WalkSmall
import Derived.Handy
import Derived.BigQuiet
import Derived.Deep.QuietTactic
import Derived.Deep.RegionHeld3
import Derived.Deep.DeepFit
import Derived.Below
import Derived.Lib.Hide
import Derived.Lib.QuietBelow
namespace Go.Proofs.Ytefocmcpeigfcaa
open Go Go.RowKit Go.Sort
set_option maxRecDepth 100000
set_option linter.unusedVariables false
def AdPost (B b : Nat) (w : World) (e : Ending) (w' : World) : Prop := ∃ x : Nat, e = .returned (.int .u32 x) ∧ x < 4294967296 ∧ Cod B w' b ∧ Ex b w w'
/-- an address from choices -/
theorem address_any {B : Nat} (b : Nat) (w : World) (h : Cod B w b) :
    Calls Try.prog 14 #[.pointer (some ⟨b, 0, none⟩)] w (AdPost B b w) := by
  go_enter Try.func14, Try.ntmps14
  go_wp2_with fail
  refine (next_any b 12 _ (by omega) (by omega) h).mono ?_
  rintro e w1 ⟨x1, rfl, p0, p1, hc1, he1⟩
  go_wp2_with fail
  · refine (next_any b 65536 _ (by omega) (by omega) hc1).mono ?_
    rintro e w2 ⟨x2, rfl, q0, q1, hc2, he2⟩
    go_wp2_with fail
    refine (next_any b 65536 _ (by omega) (by omega) hc2).mono ?_
    rintro e w3 ⟨x3, rfl, r0, r1, hc3, he3⟩
    obtain ⟨X, hX⟩ := Int.eq_ofNat_of_zero_le (show 0 ≤ x2 * 65536 + x3 by omega)
    go_wp2_with fail
    go_ret
    exact ⟨X, rfl, by omega, hc3, (he1.trans he2).trans he3⟩
  · refine (next_any b 3 _ (by omega) (by omega) hc1).mono ?_
    rintro e w2 ⟨x2, rfl, q0, q1, hc2, he2⟩
    go_wp2_with fail
    refine (next_any b 8 _ (by omega) (by omega) hc2).mono ?_
    rintro e w3 ⟨x3, rfl, r0, r1, hc3, he3⟩
    obtain ⟨X, hX⟩ := Int.eq_ofNat_of_zero_le (show 0 ≤ 167772160 + x2 * 65536 + x3 by omega)
    go_wp2_with fail
    go_ret
    exact ⟨X, rfl, by omega, hc3, (he1.trans he2).trans he3⟩
/-- Next with its answer as a plain number -/
def NnPost (B b : Nat) (n : Nat) (w : World) (e : Ending) (w' : World) : Prop := ∃ x : Nat, e = .returned (.int .i64 x) ∧ x < n ∧ Cod B w' b ∧ Ex b w w'
theorem next_nat {B : Nat} (b n : Nat) (w : World) (n0 : 1 ≤ n) (n1 : n ≤ 1000000) (h : Cod B w b) :
    Calls Try.prog 11 #[.pointer (some ⟨b, 0, none⟩), .int .i64 n] w (NnPost B b n w) := by
  refine (next_any b n w (by omega) (by omega) h).mono ?_
  rintro e w' ⟨x, rfl, x0, x1, hc, he⟩
  obtain ⟨x, rfl⟩ := Int.eq_ofNat_of_zero_le x0
  exact ⟨x, rfl, by omega, hc, he⟩
end Go.Proofs.Ytefocmcpeigfcaa
