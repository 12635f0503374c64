/- The package wire: sums. -/
import Derived.Test.YtlkhdbgknkjioaaWb
import Derived.WalkKit
import Derived.WalkSpells
import Derived.WalkLawsBesides
import Derived.WalkSmall
import Derived.Handy
import Derived.BigQuiet
import Derived.Deep.QuietTactic
import Derived.Deep.RegionHeld3
import Derived.Deep.DeepFit
import Derived.Below
import Derived.Lib.Hide
import Derived.Lib.QuietBelow
namespace Go.Proofs.Ytlkhdbgknkjioaa
open Go Go.RowKit Go.Sort
set_option maxRecDepth 100000
set_option linter.unusedVariables false

theorem and_mask16 (n : Int) : bits .and .i64 n 65535 = n % 65536 := by
  have h255 : (BitVec.ofInt 64 65535).toNat = 2 ^ 16 - 1 := by decide
  have key : (BitVec.ofInt 64 n &&& BitVec.ofInt 64 65535).toNat = (n % ((2 ^ 64 : Nat) : Int)).toNat % 2 ^ 16 := by
    rw [BitVec.toNat_and, BitVec.toNat_ofInt, h255, Nat.and_two_pow_sub_one_eq_mod]
  show IntKind.i64.wrap ((BitVec.ofInt 64 n &&& BitVec.ofInt 64 65535).toNat : Nat) = n % 65536
  rw [key, IntKind.wrap_i64]
  omega
theorem wfold_any (s : Nat) (w : World) (hs : s ≤ 4611686018427387904) :
    Calls Try.prog 106 #[.int .i64 s] w fun e w' => e = .returned (.int .i64 (oc s : Nat)) ∧ w = w' := by
  go_enter Try.func106, Try.ntmps106
  go_wp2
  go_loop [0] (fun v => ∃ t : Nat, t ≤ s ∧ oc t = oc s ∧ v = .int .i64 t) (fun v => (intOf v).toNat)
  case atStart => exact ⟨s, Nat.le_refl _, rfl, rfl⟩
  case round =>
    obtain ⟨t, ht, ho, rfl⟩ := hrel
    have HO := Lib.hid ho
    clear ho
    by_cases h : 65535 < t
    · have d : (65535 : Int) < (t : Int) := by omega
      have d2 : decide ((65535 : Int) < (t : Int)) = true := by simpa using d
      have e1 := and_mask16 (t : Int)
      go_wp2
      go_round
      case rel => exact ⟨t / 65536 + t % 65536, by omega, by rw [oc_fold h]; exact HO.out, by go_num⟩
      case measure => simp [intOf]; omega
    · have d : ¬ (65535 : Int) < (t : Int) := by omega
      have d2 : decide ((65535 : Int) < (t : Int)) = false := by simpa using d
      go_wp2
      go_ret
      exact ⟨ret_int (by rw [← HO.out, oc_small (by omega)]), rfl⟩
theorem inPair_any (n : Int) (w : World) :
    Calls Try.prog 110 #[.int .i64 n] w fun e w' => e = .returned (.bool (decide (0 ≤ n ∧ n ≤ 65535))) ∧ w = w' := by
  by_cases h0 : 0 ≤ n
  · by_cases h1 : n ≤ 65535
    · have d1 : decide (0 ≤ n) = true := by simpa using h0
      have d2 : decide (n ≤ 65535) = true := by simpa using h1
      have H := Lib.hid (show decide (0 ≤ n ∧ n ≤ 65535) = true from by simp; omega)
      go_enter Try.func110, Try.ntmps110
      go_wp2
      go_ret
      first | exact ⟨ret_bool H.out.symm, rfl⟩ | exact ⟨rfl, rfl⟩
    · have d1 : decide (0 ≤ n) = true := by simpa using h0
      have d2 : decide (n ≤ 65535) = false := by simpa using h1
      have H := Lib.hid (show decide (0 ≤ n ∧ n ≤ 65535) = false from by simp; omega)
      go_enter Try.func110, Try.ntmps110
      go_wp2
      go_ret
      first | exact ⟨ret_bool H.out.symm, rfl⟩ | exact ⟨rfl, rfl⟩
  · have d1 : decide (0 ≤ n) = false := by simpa using h0
    have H := Lib.hid (show decide (0 ≤ n ∧ n ≤ 65535) = false from by simp; omega)
    go_enter Try.func110, Try.ntmps110
    go_wp2
    go_ret
    first | exact ⟨ret_bool H.out.symm, rfl⟩ | exact ⟨rfl, rfl⟩
theorem inPair_yes (n : Int) (w : World) (h : 0 ≤ n ∧ n ≤ 65535) :
    Calls Try.prog 110 #[.int .i64 n] w fun e w' => e = .returned (.bool true) ∧ w = w' := by
  rw [← show decide (0 ≤ n ∧ n ≤ 65535) = true from by simpa using h]; exact inPair_any n w
theorem inPair_no (n : Int) (w : World) (h : ¬ (0 ≤ n ∧ n ≤ 65535)) :
    Calls Try.prog 110 #[.int .i64 n] w fun e w' => e = .returned (.bool false) ∧ w = w' := by
  rw [← show decide (0 ≤ n ∧ n ≤ 65535) = false from by simpa using h]; exact inPair_any n w
/-- what Add answers -/
def adR (x y : Int) : Int := if (0 ≤ x ∧ x ≤ 65535) ∧ 0 ≤ y ∧ y ≤ 65535 then (oc (x + y).toNat : Nat) else 0
theorem adR_yes {x y : Int} (hx : 0 ≤ x ∧ x ≤ 65535) (hy : 0 ≤ y ∧ y ≤ 65535) : adR x y = (oc (x + y).toNat : Nat) := if_pos ⟨hx, hy⟩
theorem adR_nox {x y : Int} (hx : ¬ (0 ≤ x ∧ x ≤ 65535)) : adR x y = 0 := if_neg fun h => hx h.1
theorem adR_noy {x y : Int} (hy : ¬ (0 ≤ y ∧ y ≤ 65535)) : adR x y = 0 := if_neg fun h => hy h.2
theorem adR_nat {x y : Nat} (hx : x ≤ 65535) (hy : y ≤ 65535) : adR x y = (oc (x + y) : Nat) := by
  rw [adR_yes (by omega) (by omega)]; congr 2
theorem wadd_any (x y : Int) (w : World) :
    Calls Try.prog 108 #[.int .i64 x, .int .i64 y] w fun e w' => e = .returned (.int .i64 (adR x y)) ∧ w = w' := by
  by_cases hx : 0 ≤ x ∧ x ≤ 65535
  · by_cases hy : 0 ≤ y ∧ y ≤ 65535
    · have H := Lib.hid (adR_yes hx hy)
      have HX := Lib.hid hx
      have HY := Lib.hid hy
      obtain ⟨x, rfl⟩ := Int.eq_ofNat_of_zero_le hx.1
      obtain ⟨y, rfl⟩ := Int.eq_ofNat_of_zero_le hy.1
      have hxx := hx.2
      have hyy := hy.2
      clear hx hy
      have HF := Lib.hid (fun w => wfold_any (x + y) w (by omega))
      go_enter Try.func108, Try.ntmps108
      go_wp2_with (first | (go_at_call 110; refine (inPair_yes _ _ (by omega)).mono ?_; rintro e w1 ⟨rfl, rfl⟩) | (go_at_call 106; refine (HF.out _).mono ?_; rintro e w1 ⟨rfl, rfl⟩))
      go_ret
      exact ⟨ret_int (by rw [H.out]; congr 2), rfl⟩
    · have H := Lib.hid (adR_noy (x := x) hy)
      have HX := Lib.hid hx
      have HY := Lib.hid hy
      clear hx hy
      go_enter Try.func108, Try.ntmps108
      go_wp2_with fail
      refine (inPair_yes _ _ HX.out).mono ?_
      rintro e w1 ⟨rfl, rfl⟩
      go_wp2_with fail
      refine (inPair_no _ _ HY.out).mono ?_
      rintro e w1 ⟨rfl, rfl⟩
      go_wp2_with fail
      go_ret
      exact ⟨ret_int H.out.symm, rfl⟩
  · have H := Lib.hid (adR_nox (y := y) hx)
    have HX := Lib.hid hx
    clear hx
    go_enter Try.func108, Try.ntmps108
    go_wp2_with fail
    refine (inPair_no _ _ HX.out).mono ?_
    rintro e w1 ⟨rfl, rfl⟩
    go_wp2_with fail
    go_ret
    exact ⟨ret_int H.out.symm, rfl⟩
/-- what Update answers -/
def upR (s o n : Int) : Int := if (0 ≤ s ∧ s ≤ 65535) ∧ (0 ≤ o ∧ o ≤ 65535) ∧ 0 ≤ n ∧ n ≤ 65535 then 65535 - (oc (65535 - s + 65535 - o + n).toNat : Nat) else 0
theorem upR_yes {s o n : Int} (hs : 0 ≤ s ∧ s ≤ 65535) (ho : 0 ≤ o ∧ o ≤ 65535) (hn : 0 ≤ n ∧ n ≤ 65535) : upR s o n = 65535 - (oc (65535 - s + 65535 - o + n).toNat : Nat) := if_pos ⟨hs, ho, hn⟩
theorem upR_nos {s o n : Int} (h : ¬ (0 ≤ s ∧ s ≤ 65535)) : upR s o n = 0 := if_neg fun k => h k.1
theorem upR_noo {s o n : Int} (h : ¬ (0 ≤ o ∧ o ≤ 65535)) : upR s o n = 0 := if_neg fun k => h k.2.1
theorem upR_non {s o n : Int} (h : ¬ (0 ≤ n ∧ n ≤ 65535)) : upR s o n = 0 := if_neg fun k => h k.2.2
theorem wsum_any {p : Nat → Prop} {v : Value} {l : List Nat} (w : World) (h : Rb p w v l) (hl : l.length ≤ 100000) :
    Calls Try.prog 89 #[v] w fun e w' => e = .returned (.int .i64 (oc (wsum false l) : Nat)) ∧ w = w' := by
  have hb := h.bytes
  obtain ⟨a, cap, rfl, hcap, hmx⟩ := h.form
  have H := Lib.hid h
  have HL := Lib.hid (wsum_le false l hb)
  have HB := Lib.hid (fun i => getD_lt hb i)
  have HF := Lib.hid (fun w => wfold_any (wsum false l) w (by have := wsum_le false l hb; omega))
  clear h hb
  go_enter Try.func89, Try.ntmps89
  go_wp2
  go_loop [3, 8] (fun s i => ∃ k : Nat, k ≤ l.length ∧ i = .int .i64 k ∧ s = .int .i64 (wsum false (l.take k) : Nat)) (fun _ i => l.length - (intOf i).toNat)
  case atStart => exact ⟨0, Nat.zero_le _, rfl, rfl⟩
  case round =>
    obtain ⟨k, hk, rfl, rfl⟩ := hrel
    by_cases hlt : k < l.length
    · obtain ⟨b, off, rfl, -, hc⟩ := H.out.at' hlt
      have hx := HB.out k
      have hbd : wsum false (l.take k) ≤ 65280 * 100000 := by
        have := wsum_le false (l.take k) (fun x hm => H.out.bytes x (List.mem_of_mem_take hm))
        have : (l.take k).length ≤ l.length := List.length_take_le' _ _
        omega
      have d1 : (k : Int) < (l.length : Int) := by omega
      rcases Nat.mod_two_eq_zero_or_one k with he | he
      · have HS := Lib.hid (wsum_take_even hlt he)
        have d2 : (((k : Int) % 2) == 0) = true := by simp; omega
        generalize l.getD k 0 = x at *
        generalize wsum false (l.take k) = S at *
        have HE := Lib.hid he
        clear he
        go_wp2
        go_round
        case rel => exact ⟨k + 1, by omega, by go_num, by rw [HS.out]; go_num⟩
        case measure => simp [intOf]; omega
      · have HS := Lib.hid (wsum_take_odd hlt he)
        have d2 : (((k : Int) % 2) == 0) = false := by simp; omega
        generalize l.getD k 0 = x at *
        generalize wsum false (l.take k) = S at *
        have HE := Lib.hid he
        clear he
        go_wp2
        go_round
        case rel => exact ⟨k + 1, by omega, by go_num, by rw [HS.out]; go_num⟩
        case measure => simp [intOf]; omega
    · obtain rfl : k = l.length := by omega
      rw [List.take_length]
      go_wp2_with (go_at_call 106; refine (HF.out _).mono ?_; rintro e w1 ⟨rfl, rfl⟩)
      go_ret
      exact ⟨rfl, rfl⟩
theorem wchk_any {p : Nat → Prop} {v : Value} {l : List Nat} (w : World) (h : Rb p w v l) (hl : l.length ≤ 100000) :
    Calls Try.prog 59 #[v] w fun e w' => e = .returned (.int .i64 (65535 - (oc (wsum false l) : Nat))) ∧ w = w' := by
  have HF := Lib.hid (wsum_any w h hl)
  have hR := oc_le (wsum false l)
  obtain ⟨a, cap, rfl, -, -⟩ := h.form
  clear h
  generalize oc (wsum false l) = R at *
  go_enter Try.func59, Try.ntmps59
  go_wp2_with (go_at_call 89; refine HF.out.mono ?_; rintro e w1 ⟨rfl, rfl⟩)
  go_ret
  exact ⟨rfl, rfl⟩
end Go.Proofs.Ytlkhdbgknkjioaa
