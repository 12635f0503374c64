/- Text of any number. -/
import Derived.Test.YtoaboflepfmkpaaGreatDoorNtx
import Derived.WalkKit
import Derived.WalkSpells
import Derived.WalkLawsBesides
import Derived.WalkSmall
import Derived.Handy
import Derived.BigQuiet
import Derived.Deep.QuietTactic
import Derived.Deep.RegionHeld3
import Derived.Deep.DeepFit
import Derived.Below
import Derived.Lib.Hide
import Derived.Lib.QuietBelow
namespace Go.Proofs.YtoaboflepfmkpaaGreatDoor
open Go Go.RowKit Go.Sort
set_option maxRecDepth 100000
set_option linter.unusedVariables false
theorem text_nought (v : Value) (w : World) (hN : Num w v 0) :
    Calls Tryz.prog 58 #[v] w fun e w' => e = .returned (.string (str (Lib.decDigits 0))) ∧ Gr w w' := by
  have hV := Lib.hid (num_valid hN (by rw [nd_zero]; simp))
  unfold Num at hN
  rw [nd_zero] at hN
  obtain ⟨a, c, rfl, -, -, -⟩ := hN
  have e0 : str (Lib.decDigits 0) = ⟨#[48]⟩ := by rw [dd_one (by omega)]; rfl
  rw [e0]
  go_enter Tryz.func58, Tryz.ntmps58
  go_wp2_with fail
  refine hV.out.mono ?_
  rintro e w' ⟨rfl, rfl⟩
  go_wp2_with fail
  go_ret
  exact ⟨rfl, Gr.refl _⟩
theorem text_full {N : Nat} (v : Value) (w : World) (hN : Num w v N) (hl : (nd N).length ≤ 256) (ht : Tab w) :
    Calls Tryz.prog 58 #[v] w fun e w' => e = .returned (.string (str (Lib.decDigits N))) ∧ Gr w w' := by
  rcases Nat.eq_zero_or_pos N with rfl | h0
  · exact text_nought v w hN
  · exact text_any v w hN h0 hl ht
theorem dd_pos (N : Nat) : 0 < (Lib.decDigits N).length := by rw [Lib.decDigits_length]; exact Lib.nDigits_pos N
theorem dd_short {N k : Nat} (hN : (nd N).length ≤ k) (hk : 0 < k) : (Lib.decDigits N).length ≤ 10 * k := by
  rw [nd_len] at hN
  have h2 : (1073741824 : Nat) ^ k ≤ (10 ^ 10) ^ k := Nat.pow_le_pow_left (by decide) k
  rw [← Nat.pow_mul] at h2
  rw [Lib.decDigits_length]
  exact (pd_digits (10 * k) N (Nat.lt_of_lt_of_le hN h2) (by omega)).1
end Go.Proofs.YtoaboflepfmkpaaGreatDoor
