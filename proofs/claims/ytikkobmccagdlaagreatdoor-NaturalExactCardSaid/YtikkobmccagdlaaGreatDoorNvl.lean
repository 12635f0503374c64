/- Valid. -/
import Derived.Test.YtikkobmccagdlaaGreatDoorNk
import Derived.WalkKit
import Derived.WalkSpells
import Derived.WalkLawsBesides
import Derived.WalkSmall
import Derived.Handy
import Derived.BigQuiet
import Derived.Deep.QuietTactic
import Derived.Deep.RegionHeld3
import Derived.Deep.DeepFit
import Derived.Below
import Derived.Lib.Hide
import Derived.Lib.QuietBelow
namespace Go.Proofs.YtikkobmccagdlaaGreatDoor
open Go Go.RowKit Go.Sort
set_option maxRecDepth 100000
set_option linter.unusedVariables false

theorem valid_yes {p : Nat → Prop} {v : Value} {l : List Nat} (w : World) (h : Rd p w v l) (hL : Lim l) (hn : l.length ≤ 256) (hz : l = [] ∨ l.getD (l.length - 1) 0 ≠ 0) :
    Calls Tryz.prog 35 #[v] w fun e w' => e = .returned (.bool true) ∧ w = w' := by
  obtain ⟨a, cap, rfl, hl', hcap, H⟩ := h
  have HH := Lib.hid H
  have HL := Lib.hid hL
  have HZ := Lib.hid hz
  clear H hL hz
  have d : decide (256 < l.length) = false := by simpa using hn
  go_enter Tryz.func35, Tryz.ntmps35
  go_wp2
  go_loop [9] (fun s => ∃ k : Nat, k ≤ l.length ∧ s = .int .i64 k) (fun s => l.length - (intOf s).toNat)
  case atStart => exact ⟨0, Nat.zero_le _, rfl⟩
  case round =>
    obtain ⟨k, hk, rfl⟩ := hrel
    by_cases hlt : k < l.length
    · obtain ⟨b, off, rfl, -, hc⟩ := HH.out k hlt
      have hx := lim_getD HL.out k
      generalize l.getD k 0 = x at *
      have x1 : (x : Int) ≤ 1073741823 := by omega
      have x0 : (0 : Int) ≤ (x : Int) := by omega
      go_wp2
      go_round
      case rel => exact ⟨k + 1, by omega, by go_num⟩
      case measure => simp [intOf]; omega
    · obtain rfl : k = l.length := by omega
      by_cases h0 : l.length = 0
      · have d2 : ((l.length : Int) == 0) = true := by rw [beq_iff_eq]; omega
        go_wp2
        go_ret
        exact ⟨rfl, rfl⟩
      · obtain ⟨b, off, rfl, -, hc⟩ := HH.out (l.length - 1) (by omega)
        have hx : l.getD (l.length - 1) 0 ≠ 0 := HZ.out.resolve_left (fun e => h0 (by rw [e]; rfl))
        generalize l.getD (l.length - 1) 0 = x at *
        have d2 : ((l.length : Int) == 0) = false := by rw [beq_eq_false_iff_ne]; omega
        have d3 : ((x : Int) != 0) = true := by simp; omega
        have d4 : (l.length : Int) - 1 = ((l.length - 1 : Nat) : Int) := by omega
        go_wp2
        go_ret
        exact ⟨rfl, rfl⟩
theorem and30 (n : Int) : bits .and .i64 n 1073741823 = n % 1073741824 := by
  have h30 : (BitVec.ofInt 64 1073741823).toNat = 2 ^ 30 - 1 := by decide
  have key : (BitVec.ofInt 64 n &&& BitVec.ofInt 64 1073741823).toNat = (n % ((2 ^ 64 : Nat) : Int)).toNat % 2 ^ 30 := by
    rw [BitVec.toNat_and, BitVec.toNat_ofInt, h30, Nat.and_two_pow_sub_one_eq_mod]
  show IntKind.i64.wrap ((BitVec.ofInt 64 n &&& BitVec.ofInt 64 1073741823).toNat : Nat) = n % 1073741824
  rw [key, IntKind.wrap_i64]
  omega
end Go.Proofs.YtikkobmccagdlaaGreatDoor
