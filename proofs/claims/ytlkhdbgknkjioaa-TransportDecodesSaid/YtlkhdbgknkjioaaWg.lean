/- The package wire: Get. -/
import Derived.Test.YtlkhdbgknkjioaaWf
import Derived.WalkKit
import Derived.WalkSpells
import Derived.WalkLawsBesides
import Derived.WalkSmall
import Derived.Handy
import Derived.BigQuiet
import Derived.Deep.QuietTactic
import Derived.Deep.RegionHeld3
import Derived.Deep.DeepFit
import Derived.Below
import Derived.Lib.Hide
import Derived.Lib.QuietBelow
namespace Go.Proofs.Ytlkhdbgknkjioaa
open Go Go.RowKit Go.Sort
set_option maxRecDepth 100000
set_option linter.unusedVariables false
theorem or_low (n x : Nat) (hn : n < 36028797018963968) (hx : x < 256) : bits .or .i64 ((n : Int) * 256) (x : Int) = ((n * 256 + x : Nat) : Int) := by
  have e1 : (BitVec.ofInt 64 ((n : Int) * 256)).toNat = n * 256 := by rw [BitVec.toNat_ofInt]; omega
  have e2 : (BitVec.ofInt 64 (x : Int)).toNat = x := by rw [BitVec.toNat_ofInt]; omega
  have e3 : n * 256 ||| x = n * 256 + x := by
    have := Nat.shiftLeft_add_eq_or_of_lt (a := n) (b := x) (i := 8) (by omega)
    rw [Nat.shiftLeft_eq] at this
    exact this.symm
  show IntKind.i64.wrap ((BitVec.ofInt 64 ((n : Int) * 256) ||| BitVec.ofInt 64 (x : Int)).toNat : Nat) = _
  rw [BitVec.toNat_or, e1, e2, e3, IntWalk.i64_in _ (by omega)]
def wOk (k : Int) : Prop := 1 ≤ k ∧ k ≤ 7
theorem vw_any (k : Int) (w : World) (c : Bool) (hc : c = decide (1 ≤ k ∧ k ≤ 7)) :
    Calls Try.prog 79 #[.int .i64 k] w fun e w' => e = .returned (.bool c) ∧ w = w' := by
  have HC := Lib.hid hc
  clear hc
  by_cases h0 : 1 ≤ k
  · have d1 : decide (1 ≤ k) = true := by simpa using h0
    by_cases h1 : k ≤ 7
    · have d2 : decide (k ≤ 7) = true := by simpa using h1
      have H := Lib.hid (show c = true from HC.out.trans (by simp; omega))
      go_enter Try.func79, Try.ntmps79
      go_wp2
      go_ret
      first | exact ⟨ret_bool H.out.symm, rfl⟩ | (rw [H.out]; exact ⟨rfl, rfl⟩)
    · have d2 : decide (k ≤ 7) = false := by simpa using h1
      have H := Lib.hid (show c = false from HC.out.trans (by simp; omega))
      go_enter Try.func79, Try.ntmps79
      go_wp2
      go_ret
      first | exact ⟨ret_bool H.out.symm, rfl⟩ | (rw [H.out]; exact ⟨rfl, rfl⟩)
  · have d1 : decide (1 ≤ k) = false := by simpa using h0
    have H := Lib.hid (show c = false from HC.out.trans (by simp; omega))
    go_enter Try.func79, Try.ntmps79
    go_wp2
    go_ret
    first | exact ⟨ret_bool H.out.symm, rfl⟩ | (rw [H.out]; exact ⟨rfl, rfl⟩)
theorem vw_yes (k : Int) (w : World) (h : 1 ≤ k ∧ k ≤ 7) :
    Calls Try.prog 79 #[.int .i64 k] w fun e w' => e = .returned (.bool true) ∧ w = w' := vw_any k w true (by simpa using h)
theorem vw_no (k : Int) (w : World) (h : ¬ (1 ≤ k ∧ k ≤ 7)) :
    Calls Try.prog 79 #[.int .i64 k] w fun e w' => e = .returned (.bool false) ∧ w = w' := vw_any k w false (by simpa using h)
/-- what Get answers -/
def gtN (l : List Nat) (i k : Int) : Int := if (1 ≤ k ∧ k ≤ 7) ∧ 0 ≤ i ∧ i + k ≤ l.length then (bnum ((l.drop i.toNat).take k.toNat) : Nat) else 0
def gtE (l : List Nat) (i k : Int) : Int := if (1 ≤ k ∧ k ≤ 7) ∧ 0 ≤ i then (if i + k ≤ l.length then 0 else 3) else 1
theorem get_yes {p : Nat → Prop} {v : Value} {l : List Nat} (i k : Nat) (w : World) (h : Rb p w v l) (hk0 : 1 ≤ k) (hk1 : k ≤ 7) (hik : i + k ≤ l.length) :
    Calls Try.prog 45 #[v, .int .i64 i, .int .i64 k] w fun e w' => e = .returned (.tuple #[.int .i64 (bnum ((l.drop i).take k) : Nat), .int .i64 0]) ∧ w = w' := by
  have hb := h.bytes
  obtain ⟨a, cap, rfl, hcap, hmx⟩ := h.form
  obtain ⟨b, off, rfl, -, -⟩ := h.at' (i := i) (by omega)
  have HP := Lib.hid (h.part (k := i) (m := k) hik)
  have hlen : ((l.drop i).take k).length = k := by simp; omega
  have HB := Lib.hid (HP.out.bytes)
  have HV := Lib.hid (fun w => vw_yes (k : Int) w (by omega))
  clear h hb
  generalize (l.drop i).take k = m at *
  have HM := Lib.hid hlen
  clear hlen
  have d1 : decide ((i : Int) < 0) = false := by simp
  have d2 : decide ((l.length : Int) - (k : Int) < (i : Int)) = false := by simp; omega
  have u1 : ¬ cap = i := by omega
  have u2 : (i : Int) + (k : Int) ≤ (cap : Int) := by omega
  have u3 : (i : Int) + (k : Int) ≤ 9223372036854775807 := by omega
  have u4 : (l.length : Int) ≤ 9223372036854775807 := by omega
  go_enter Try.func45, Try.ntmps45
  go_wp2_with (go_at_call 79; refine (HV.out _).mono ?_; rintro e w1 ⟨rfl, rfl⟩)
  go_loop [8, 31] (fun n j => ∃ t : Nat, t ≤ k ∧ j = .int .i64 t ∧ n = .int .i64 (bnum (m.take t) : Nat)) (fun _ j => k - (intOf j).toNat)
  case atStart => exact ⟨0, Nat.zero_le _, rfl, rfl⟩
  case round =>
    obtain ⟨t, ht, rfl, rfl⟩ := hrel
    by_cases hlt : t < k
    · obtain ⟨b', off', eb, -, hc⟩ := HP.out.at' (i := t) (by rw [HM.out]; exact hlt)
      cases eb
      have hx := getD_lt HB.out t
      have HS := Lib.hid (bnum_take (l := m) (k := t) (by rw [HM.out]; exact hlt))
      have hN : bnum (m.take t) < 281474976710656 := by
        have h1 := bnum_lt HB.out t
        have h2 : 256 ^ t ≤ 256 ^ 6 := Nat.pow_le_pow_right (by omega) (by omega)
        omega
      have e1 := or_low (bnum (m.take t)) (m.getD t 0) (by omega) hx
      have d3 : (t : Int) < (k : Int) := by omega
      have u5 : t < i + k - i := by omega
      generalize m.getD t 0 = x at *
      generalize bnum (m.take t) = N at *
      go_wp2
      go_round
      case rel => exact ⟨t + 1, by omega, by go_num, by rw [HS.out]; go_num⟩
      case measure => simp [intOf]; omega
    · obtain rfl : t = k := by omega
      have e : m.take t = m := List.take_of_length_le (by rw [HM.out]; exact Nat.le_refl _)
      rw [e]
      go_wp2
      exact bodyPost_ret (v := .tuple #[.int .i64 (bnum m : Nat), .int .i64 0]) (by simp [results, Try.results45, go_sem]) rfl ⟨rfl, rfl⟩
theorem get_range {p : Nat → Prop} {v : Value} {l : List Nat} (i k : Int) (w : World) (h : Rb p w v l) (hr : ¬ ((1 ≤ k ∧ k ≤ 7) ∧ 0 ≤ i)) :
    Calls Try.prog 45 #[v, .int .i64 i, .int .i64 k] w fun e w' => e = .returned (.tuple #[.int .i64 0, .int .i64 1]) ∧ w = w' := by
  obtain ⟨a, cap, rfl, hcap, hmx⟩ := h.form
  clear h
  have u4 : (l.length : Int) ≤ 9223372036854775807 := by omega
  by_cases hk : 1 ≤ k ∧ k ≤ 7
  · have hi : i < 0 := by omega
    have d1 : decide (i < 0) = true := by simpa using hi
    have HV := Lib.hid (fun w => vw_yes k w hk)
    clear hr hk
    go_enter Try.func45, Try.ntmps45
    go_wp2_with (go_at_call 79; refine (HV.out _).mono ?_; rintro e w1 ⟨rfl, rfl⟩)
    go_ret2
    exact ⟨rfl, rfl⟩
  · have HV := Lib.hid (fun w => vw_no k w hk)
    clear hr hk
    go_enter Try.func45, Try.ntmps45
    go_wp2_with (go_at_call 79; refine (HV.out _).mono ?_; rintro e w1 ⟨rfl, rfl⟩)
    go_ret2
    exact ⟨rfl, rfl⟩
theorem get_short {p : Nat → Prop} {v : Value} {l : List Nat} (i k : Int) (w : World) (h : Rb p w v l) (hk : 1 ≤ k ∧ k ≤ 7) (hi : 0 ≤ i) (hs : ¬ i + k ≤ l.length) :
    Calls Try.prog 45 #[v, .int .i64 i, .int .i64 k] w fun e w' => e = .returned (.tuple #[.int .i64 0, .int .i64 3]) ∧ w = w' := by
  obtain ⟨a, cap, rfl, hcap, hmx⟩ := h.form
  clear h
  have u4 : (l.length : Int) ≤ 9223372036854775807 := by omega
  have HV := Lib.hid (fun w => vw_yes k w hk)
  have k0 := hk.1
  have k1 := hk.2
  have d1 : decide (i < 0) = false := by simp; omega
  have d2 : decide ((l.length : Int) - k < i) = true := by simp; omega
  clear hk
  go_enter Try.func45, Try.ntmps45
  go_wp2_with (go_at_call 79; refine (HV.out _).mono ?_; rintro e w1 ⟨rfl, rfl⟩)
  go_ret2
  exact ⟨rfl, rfl⟩
theorem get_any {p : Nat → Prop} {v : Value} {l : List Nat} (i k : Int) (w : World) (h : Rb p w v l) :
    Calls Try.prog 45 #[v, .int .i64 i, .int .i64 k] w fun e w' => e = .returned (.tuple #[.int .i64 (gtN l i k), .int .i64 (gtE l i k)]) ∧ w = w' := by
  by_cases hr : (1 ≤ k ∧ k ≤ 7) ∧ 0 ≤ i
  · by_cases hs : i + k ≤ l.length
    · obtain ⟨i, rfl⟩ := Int.eq_ofNat_of_zero_le hr.2
      obtain ⟨k, rfl⟩ := Int.eq_ofNat_of_zero_le (show 0 ≤ k by omega)
      have h1 : gtN l (i : Int) (k : Int) = (bnum ((l.drop i).take k) : Nat) := if_pos ⟨hr.1, hr.2, hs⟩
      have h2 : gtE l (i : Int) (k : Int) = 0 := (if_pos hr).trans (if_pos hs)
      rw [h1, h2]
      exact get_yes i k w h (by omega) (by omega) (by omega)
    · have h1 : gtN l i k = 0 := if_neg fun c => hs c.2.2
      have h2 : gtE l i k = 3 := (if_pos hr).trans (if_neg hs)
      rw [h1, h2]
      exact get_short i k w h hr.1 hr.2 hs
  · have h1 : gtN l i k = 0 := if_neg fun c => hr ⟨c.1, c.2.1⟩
    have h2 : gtE l i k = 1 := if_neg hr
    rw [h1, h2]
    exact get_range i k w h hr
end Go.Proofs.Ytlkhdbgknkjioaa
