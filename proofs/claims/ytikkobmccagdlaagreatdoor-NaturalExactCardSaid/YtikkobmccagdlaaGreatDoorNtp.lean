/- padded. -/
import Derived.Test.YtikkobmccagdlaaGreatDoorStr
import Derived.Test.YtikkobmccagdlaaGreatDoorNtm
import Derived.WalkKit
import Derived.WalkSpells
import Derived.WalkLawsBesides
import Derived.WalkSmall
import Derived.Handy
import Derived.BigQuiet
import Derived.Deep.QuietTactic
import Derived.Deep.RegionHeld3
import Derived.Deep.DeepFit
import Derived.Below
import Derived.Lib.Hide
import Derived.Lib.QuietBelow
namespace Go.Proofs.YtikkobmccagdlaaGreatDoor
open Go Go.RowKit Go.Sort
set_option maxRecDepth 100000
set_option linter.unusedVariables false
theorem repeat_zero (c : Int) (k : Nat) (w : World) (hc : c = k) (hk : k ≤ 9) :
    Calls Tryz.prog 114 #[.string ⟨#[48]⟩, .int .i64 c] w fun e w' => e = .returned (.string (str (Lib.repeatL [48] k))) ∧ Gr w w' := by
  subst hc
  exact Tryz.strings_Repeat ⟨#[48]⟩ k w (by omega) (by show 1 * k ≤ _; omega)
theorem padded_any (n : Nat) (w : World) (h : n < 1000000000) (ht : Tab w) :
    Calls Tryz.prog 82 #[.int .i64 (n : Nat)] w fun e w' => e = .returned (.string (str (pd 9 n))) ∧ Gr w w' := by
  obtain ⟨he, hl⟩ := padded_eq h
  have hi := itoa_any (n : Nat) w (by omega) (by omega) ht
  rw [Int.toNat_natCast] at hi
  generalize hd : Lib.decDigits n = d at *
  obtain ⟨k, hk⟩ : ∃ k, k = 9 - d.length := ⟨_, rfl⟩
  rw [← hk] at he
  have hs := add_str (Lib.repeatL [48] k) d (by rw [Lib.repeatL_length]; simp; omega)
  rw [he] at hs
  have HI := Lib.hid hi
  have dl : (d.length : Int) ≤ 9 := by omega
  have sz : (str d).size = d.length := str_size d
  have HK := Lib.hid hk
  clear hi hd he hk
  go_enter Tryz.func82, Tryz.ntmps82
  go_wp2_with fail
  refine HI.out.mono ?_
  rintro e w1 ⟨rfl, hg1⟩
  go_wp2_with fail
  refine (repeat_zero _ k _ (by have := HK.out; omega) (by have := HK.out; omega)).mono ?_
  rintro e w2 ⟨rfl, hg2⟩
  go_wp2_with fail
  go_ret
  exact ⟨rfl, hg1.step hg2⟩
end Go.Proofs.YtikkobmccagdlaaGreatDoor
