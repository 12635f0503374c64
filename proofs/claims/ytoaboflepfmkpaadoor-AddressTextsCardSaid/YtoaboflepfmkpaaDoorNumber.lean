/- Reading: number, strings.Cut at one byte, Parse. -/
import Derived.Test.YtoaboflepfmkpaaDoorLeaf
import Derived.Test.YtoaboflepfmkpaaDoorText
import Derived.Test.YtoaboflepfmkpaaDoorShelf
import Derived.WalkKit
import Derived.WalkSpells
import Derived.WalkLawsBesides
import Derived.WalkSmall
import Derived.Handy
import Derived.BigQuiet
import Derived.Deep.QuietTactic
import Derived.Deep.RegionHeld3
import Derived.Deep.DeepFit
import Derived.Below
import Derived.Lib.Hide
import Derived.Lib.QuietBelow
namespace Go.Proofs.YtoaboflepfmkpaaDoor
open Go Go.RowKit Go.Sort
set_option maxRecDepth 100000
set_option linter.unusedVariables false

theorem data_len (s : ByteArray) : s.data.toList.length = s.size := (Lib.size_eq s).symm
theorem getEl (s : ByteArray) (k : Nat) (h : k < s.size) : s.data.toList[k]'(by rw [data_len]; exact h) = s[k] := rfl
theorem u8_range (c : UInt8) : 0 ≤ (c.toNat : Int) ∧ (c.toNat : Int) < 256 := by have := c.toNat_lt; omega
theorem ret_num {l : List UInt8} {most v : Int} {b : Bool} (h : numOk l most = b) (hv : numV l most = v) : Ending.returned (.tuple #[.int .i64 v, .bool b]) = .returned (.tuple #[.int .i64 (numV l most), .bool (numOk l most)]) := by rw [h, hv]
/-- what holds at the head of number's loop -/
def NumRel (s : ByteArray) (most : Int) (n i : Value) : Prop := ∃ k : Nat, k ≤ s.size ∧ i = .int .i64 k ∧ n = .int .i64 (dval (s.data.toList.take k)) ∧ (s.data.toList.take k).all isDig = true ∧ dval (s.data.toList.take k) ≤ most

set_option maxHeartbeats 1000000 in
/-- the loop of number -/
theorem number_any (s : ByteArray) (most : Int) (w : World) (hs : s.size ≤ 9223372036854775807) (m0 : 0 ≤ most) (m1 : most ≤ 1000000) :
    Calls Tryd.prog 41 #[.string s, .int .i64 most] w fun e w' => e = .returned (.tuple #[.int .i64 (numV s.data.toList most), .bool (numOk s.data.toList most)]) ∧ w = w' := by
  by_cases z0 : s.size = 0
  · have E := Lib.hid (numOk_lead (most := most) (lead_zero (by rw [data_len]; exact z0)))
    have t0 : s.toList = [] := by rw [Lib.toList_data]; exact List.length_eq_zero_iff.1 (by rw [data_len]; exact z0)
    clear z0
    go_enter Tryd.func41, Tryd.ntmps41
    go_wp2
    go_ret2
    exact ⟨ret_num E.out (numV_no E.out), rfl⟩
  have t0 : s.toList.isEmpty = false := by
    rw [Lib.toList_data]
    cases h : s.data.toList with
    | nil => exact absurd (by rw [← data_len, h]; rfl) z0
    | cons => rfl
  by_cases z1 : s.size = 1
  · have HL := Lib.hid (lead_one (l := s.data.toList) (by rw [data_len]; exact z1))
    have z2 : ¬ (1 < (s.size : Int)) := by omega
    have z3 : 0 < s.size := by omega
    clear z0 z1
    go_enter Tryd.func41, Tryd.ntmps41
    go_wp2
    go_loop [6, 22] (fun n i => NumRel s most n i) (fun _ i => s.size - (intOf i).toNat)
    case atStart => exact ⟨0, Nat.zero_le _, rfl, rfl, by simp, by simp [dval]; omega⟩
    case round =>
      obtain ⟨k, hk, rfl, rfl, ha, hm⟩ := hrel
      have hd := dval_nonneg _ ha
      by_cases hlt : k < s.size
      · have hsn := Lib.hid (dval_snoc (s.data.toList.take k) s[k])
        have hts := Lib.hid (take_snoc s k hlt)
        have ⟨u0, u1⟩ := u8_range s[k]
        have Ha := Lib.hid ha
        clear ha
        by_cases c0 : (s[k].toNat : Int) < 48
        · have E := Lib.hid (numOk_bad s.data.toList most k (by rw [data_len]; exact hlt) (by rw [getEl s k hlt]; simp [isDig]; omega))
          go_wp2
          go_ret2
          exact ⟨ret_num E.out (numV_no E.out), rfl⟩
        by_cases c1 : 57 < (s[k].toNat : Int)
        · have E := Lib.hid (numOk_bad s.data.toList most k (by rw [data_len]; exact hlt) (by rw [getEl s k hlt]; simp [isDig]; omega))
          go_wp2
          go_ret2
          exact ⟨ret_num E.out (numV_no E.out), rfl⟩
        have c2 : 48 ≤ (s[k].toNat : Int) := by omega
        have c3 : (s[k].toNat : Int) ≤ 57 := by omega
        have cw : IntKind.u8.wrap ((s[k].toNat : Int) - 48) = (s[k].toNat : Int) - 48 := by go_arith
        have Hd := Lib.hid (isDig_of c2 c3)
        by_cases c4 : most < dval (s.data.toList.take k) * 10 + ((s[k].toNat : Int) - 48)
        · have E := Lib.hid (numOk_big s.data.toList most (k + 1) (by rw [hts.out, hsn.out]; exact c4))
          go_wp2
          go_ret2
          exact ⟨ret_num E.out (numV_no E.out), rfl⟩
        · have c5 : dval (s.data.toList.take k) * 10 + ((s[k].toNat : Int) - 48) ≤ most := by omega
          go_wp2
          go_round
          case rel => exact ⟨k + 1, by omega, by go_num, by rw [hts.out, hsn.out], all_take_succ s k hlt Ha.out Hd.out, by rw [hts.out, hsn.out]; exact c5⟩
          case measure => simp [intOf]; omega
      · have e : s.data.toList.take k = s.data.toList := List.take_of_length_le (by rw [data_len]; omega)
        rw [e] at ha hm
        have E := Lib.hid (numOk_good s.data.toList most HL.out ha hm)
        have Ee := Lib.hid e
        clear ha hm e
        go_wp2
        go_ret2
        exact ⟨ret_num E.out (by rw [numV_yes E.out, Ee.out]), rfl⟩
  · have z2 : 1 < (s.size : Int) := by omega
    have z3 : 0 < s.size := by omega
    have hl := lead_two (l := s.data.toList) (by rw [data_len]; omega)
    have hg : s.data.toList[0]'(by rw [data_len]; omega) = s[0] := rfl
    rw [hg] at hl
    cases c : (((s[0].toNat : Nat) : Int) == 48)
    · rw [c] at hl
      have HL := Lib.hid hl
      clear hl hg z0 z1
      go_enter Tryd.func41, Tryd.ntmps41
      go_wp2
      go_loop [6, 22] (fun n i => NumRel s most n i) (fun _ i => s.size - (intOf i).toNat)
      case atStart => exact ⟨0, Nat.zero_le _, rfl, rfl, by simp, by simp [dval]; omega⟩
      case round =>
        obtain ⟨k, hk, rfl, rfl, ha, hm⟩ := hrel
        have hd := dval_nonneg _ ha
        by_cases hlt : k < s.size
        · have hsn := Lib.hid (dval_snoc (s.data.toList.take k) s[k])
          have hts := Lib.hid (take_snoc s k hlt)
          have ⟨u0, u1⟩ := u8_range s[k]
          have Ha := Lib.hid ha
          clear ha
          by_cases c0 : (s[k].toNat : Int) < 48
          · have E := Lib.hid (numOk_bad s.data.toList most k (by rw [data_len]; exact hlt) (by rw [getEl s k hlt]; simp [isDig]; omega))
            go_wp2
            go_ret2
            exact ⟨ret_num E.out (numV_no E.out), rfl⟩
          by_cases c1 : 57 < (s[k].toNat : Int)
          · have E := Lib.hid (numOk_bad s.data.toList most k (by rw [data_len]; exact hlt) (by rw [getEl s k hlt]; simp [isDig]; omega))
            go_wp2
            go_ret2
            exact ⟨ret_num E.out (numV_no E.out), rfl⟩
          have c2 : 48 ≤ (s[k].toNat : Int) := by omega
          have c3 : (s[k].toNat : Int) ≤ 57 := by omega
          have cw : IntKind.u8.wrap ((s[k].toNat : Int) - 48) = (s[k].toNat : Int) - 48 := by go_arith
          have Hd := Lib.hid (isDig_of c2 c3)
          by_cases c4 : most < dval (s.data.toList.take k) * 10 + ((s[k].toNat : Int) - 48)
          · have E := Lib.hid (numOk_big s.data.toList most (k + 1) (by rw [hts.out, hsn.out]; exact c4))
            go_wp2
            go_ret2
            exact ⟨ret_num E.out (numV_no E.out), rfl⟩
          · have c5 : dval (s.data.toList.take k) * 10 + ((s[k].toNat : Int) - 48) ≤ most := by omega
            go_wp2
            go_round
            case rel => exact ⟨k + 1, by omega, by go_num, by rw [hts.out, hsn.out], all_take_succ s k hlt Ha.out Hd.out, by rw [hts.out, hsn.out]; exact c5⟩
            case measure => simp [intOf]; omega
        · have e : s.data.toList.take k = s.data.toList := List.take_of_length_le (by rw [data_len]; omega)
          rw [e] at ha hm
          have E := Lib.hid (numOk_good s.data.toList most HL.out ha hm)
          have Ee := Lib.hid e
          clear ha hm e
          go_wp2
          go_ret2
          exact ⟨ret_num E.out (by rw [numV_yes E.out, Ee.out]), rfl⟩
    · rw [c] at hl
      have E := Lib.hid (numOk_lead (most := most) hl)
      clear hl hg z0 z1
      go_enter Tryd.func41, Tryd.ntmps41
      go_wp2
      go_ret2
      exact ⟨ret_num E.out (numV_no E.out), rfl⟩
end Go.Proofs.YtoaboflepfmkpaaDoor
