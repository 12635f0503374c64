/- isText. -/
import Derived.Test.YtgfgfgmdcicdcaaDoorStr
import Derived.Test.YtgfgfgmdcicdcaaDoorNtm
import Derived.WalkKit
import Derived.WalkSpells
import Derived.WalkLawsBesides
import Derived.WalkSmall
import Derived.Handy
import Derived.BigQuiet
import Derived.Deep.QuietTactic
import Derived.Deep.RegionHeld3
import Derived.Deep.DeepFit
import Derived.Below
import Derived.Lib.Hide
import Derived.Lib.QuietBelow
namespace Go.Proofs.YtgfgfgmdcicdcaaDoor
open Go Go.RowKit Go.Sort
set_option maxRecDepth 100000
theorem isText_yes (s : ByteArray) (w : World) (hd : digs s.data.toList) (h0 : 0 < s.size) (hs : s.size ≤ 9223372036854775807) (hl : (s[0].toNat : Int) ≠ 48) :
    Calls Tryd.prog 22 #[.string s] w fun e w' => e = .returned (.bool true) ∧ w = w' := by
  have t0 : s.toList.isEmpty = false := by
    rw [Lib.toList_data]
    cases h : s.data.toList with
    | nil => have := Lib.size_eq s; rw [h, List.length_nil] at this; omega
    | cons => rfl
  have d0 : ((s[0].toNat : Int) == 48) = false := by simpa using hl
  have HD := Lib.hid hd
  clear hd hl
  go_enter Tryd.func22, Tryd.ntmps22
  go_wp2
  go_loop [17] (fun i => ∃ k : Nat, k ≤ s.size ∧ i = .int .i64 k) (fun i => s.size - (intOf i).toNat)
  case atStart => exact ⟨0, Nat.zero_le _, rfl⟩
  case round =>
    obtain ⟨k, hk, rfl⟩ := hrel
    by_cases hlt : k < s.size
    · have hdk := HD.out s[k] (by
        have hL := Lib.size_eq s
        have e : s.data.toList[k]'(by omega) = s[k] := rfl
        rw [← e]; exact List.getElem_mem _)
      have u0 : 48 ≤ (s[k].toNat : Int) := by omega
      have u1 : (s[k].toNat : Int) ≤ 57 := by omega
      clear hdk
      go_wp2
      go_round
      case rel => exact ⟨k + 1, by omega, by go_num⟩
      case measure => simp [intOf]; omega
    · go_wp2
      go_ret
      exact ⟨rfl, rfl⟩
theorem isText_lead (s : ByteArray) (w : World) (h0 : 1 < s.size) (hs : s.size ≤ 9223372036854775807) (hl : (s[0].toNat : Int) = 48) :
    Calls Tryd.prog 22 #[.string s] w fun e w' => e = .returned (.bool false) ∧ w = w' := by
  have t0 : s.toList.isEmpty = false := by
    rw [Lib.toList_data]
    cases h : s.data.toList with
    | nil => have := Lib.size_eq s; rw [h, List.length_nil] at this; omega
    | cons => rfl
  have t1 : (s.toList == [48]) = false := by
    rw [beq_eq_false_iff_ne, Lib.toList_data]; intro e
    have := Lib.size_eq s
    rw [e] at this
    simp at this; omega
  have d0 : ((s[0].toNat : Int) == 48) = true := by simpa using hl
  clear hl
  go_enter Tryd.func22, Tryd.ntmps22
  go_wp2
  go_ret
  exact ⟨rfl, rfl⟩
theorem isText_nought (s : ByteArray) (w : World) (hl : s.data.toList = [48]) :
    Calls Tryd.prog 22 #[.string s] w fun e w' => e = .returned (.bool true) ∧ w = w' := by
  have h1 : s.size = 1 := by rw [Lib.size_eq, hl]; rfl
  have h0 : 0 < s.size := by omega
  have t0 : s.toList.isEmpty = false := by rw [Lib.toList_data, hl]; rfl
  have t1 : (s.toList == [48]) = true := by rw [Lib.toList_data, hl]; rfl
  have HD := Lib.hid (show digs s.data.toList by rw [hl]; intro c hc; rw [List.mem_singleton] at hc; subst hc; decide)
  have hs0 : (s[0].toNat : Int) = 48 := by
    have e : s.data.toList[0]'(by rw [hl]; simp) = s[0] := rfl
    rw [← e]; simp [hl]
  have d0 : ((s[0].toNat : Int) == 48) = true := by simpa using hs0
  clear hl
  go_enter Tryd.func22, Tryd.ntmps22
  go_wp2
  go_loop [17] (fun i => ∃ k : Nat, k ≤ s.size ∧ i = .int .i64 k) (fun i => s.size - (intOf i).toNat)
  case atStart => exact ⟨0, Nat.zero_le _, rfl⟩
  case round =>
    obtain ⟨k, hk, rfl⟩ := hrel
    by_cases hlt : k < s.size
    · have hdk := HD.out s[k] (by
        have hL := Lib.size_eq s
        have e : s.data.toList[k]'(by omega) = s[k] := rfl
        rw [← e]; exact List.getElem_mem _)
      have u0 : 48 ≤ (s[k].toNat : Int) := by omega
      have u1 : (s[k].toNat : Int) ≤ 57 := by omega
      clear hdk
      go_wp2
      go_round
      case rel => exact ⟨k + 1, by omega, by go_num⟩
      case measure => simp [intOf]; omega
    · go_wp2
      go_ret
      exact ⟨rfl, rfl⟩
end Go.Proofs.YtgfgfgmdcicdcaaDoor
