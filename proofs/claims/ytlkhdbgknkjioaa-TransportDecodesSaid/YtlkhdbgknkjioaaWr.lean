/- The document's package wire, by the same plain functions. -/
import Derived.Test.YtlkhdbgknkjioaaWp
import Derived.Test.YtlkhdbgknkjioaaWe
import Derived.WalkKit
import Derived.WalkSpells
import Derived.WalkLawsBesides
import Derived.WalkSmall
import Derived.Handy
import Derived.BigQuiet
import Derived.Deep.QuietTactic
import Derived.Deep.RegionHeld3
import Derived.Deep.DeepFit
import Derived.Below
import Derived.Lib.Hide
import Derived.Lib.QuietBelow
namespace Go.Proofs.Ytlkhdbgknkjioaa
open Go Go.RowKit Go.Sort
set_option maxRecDepth 100000
set_option linter.unusedVariables false
theorem rword_any (n : Int) (w : World) (c : Bool) (hc : c = decide (0 ≤ n ∧ n ≤ 65535)) :
    Calls Try.prog 111 #[.int .i64 n] w fun e w' => e = .returned (.bool c) ∧ w = w' := by
  have HC := Lib.hid hc
  clear hc
  by_cases h0 : 0 ≤ n
  · have d1 : decide (0 ≤ n) = true := by simpa using h0
    by_cases h1 : n ≤ 65535
    · have d2 : decide (n ≤ 65535) = true := by simpa using h1
      have H := Lib.hid (show c = true from HC.out.trans (by simp; omega))
      go_enter Try.func111, Try.ntmps111
      go_wp2
      go_ret
      first | exact ⟨ret_bool H.out.symm, rfl⟩ | (rw [H.out]; exact ⟨rfl, rfl⟩)
    · have d2 : decide (n ≤ 65535) = false := by simpa using h1
      have H := Lib.hid (show c = false from HC.out.trans (by simp; omega))
      go_enter Try.func111, Try.ntmps111
      go_wp2
      go_ret
      first | exact ⟨ret_bool H.out.symm, rfl⟩ | (rw [H.out]; exact ⟨rfl, rfl⟩)
  · have d1 : decide (0 ≤ n) = false := by simpa using h0
    have H := Lib.hid (show c = false from HC.out.trans (by simp; omega))
    go_enter Try.func111, Try.ntmps111
    go_wp2
    go_ret
    first | exact ⟨ret_bool H.out.symm, rfl⟩ | (rw [H.out]; exact ⟨rfl, rfl⟩)
theorem rword_yes (n : Int) (w : World) (h : 0 ≤ n ∧ n ≤ 65535) :
    Calls Try.prog 111 #[.int .i64 n] w fun e w' => e = .returned (.bool true) ∧ w = w' := rword_any n w true (by simpa using h)
theorem rword_no (n : Int) (w : World) (h : ¬ (0 ≤ n ∧ n ≤ 65535)) :
    Calls Try.prog 111 #[.int .i64 n] w fun e w' => e = .returned (.bool false) ∧ w = w' := rword_any n w false (by simpa using h)
theorem rwadd_any (x y : Int) (w : World) :
    Calls Try.prog 109 #[.int .i64 x, .int .i64 y] w fun e w' => e = .returned (.int .i64 (adR x y)) ∧ w = w' := by
  by_cases hx : 0 ≤ x ∧ x ≤ 65535
  · by_cases hy : 0 ≤ y ∧ y ≤ 65535
    · obtain ⟨x, rfl⟩ := Int.eq_ofNat_of_zero_le hx.1
      obtain ⟨y, rfl⟩ := Int.eq_ofNat_of_zero_le hy.1
      have hxx := hx.2
      have hyy := hy.2
      have H := Lib.hid (adR_nat (x := x) (y := y) (by omega) (by omega))
      have HT := Lib.hid (oc_two (a := x) (b := y) (by omega) (by omega))
      have e1 := and_mask16 ((x : Int) + (y : Int))
      clear hx hy
      go_enter Try.func109, Try.ntmps109
      go_wp2_with (go_at_call 111; refine (rword_yes _ _ (by omega)).mono ?_; rintro e w1 ⟨rfl, rfl⟩)
      go_ret
      exact ⟨ret_int (by rw [H.out, ← HT.out]; omega), rfl⟩
    · have H := Lib.hid (adR_noy (x := x) hy)
      have HX := Lib.hid hx
      have HY := Lib.hid hy
      clear hx hy
      go_enter Try.func109, Try.ntmps109
      go_wp2_with fail
      refine (rword_yes _ _ HX.out).mono ?_
      rintro e w1 ⟨rfl, rfl⟩
      go_wp2_with fail
      refine (rword_no _ _ HY.out).mono ?_
      rintro e w1 ⟨rfl, rfl⟩
      go_wp2_with fail
      go_ret
      exact ⟨ret_int H.out.symm, rfl⟩
  · have H := Lib.hid (adR_nox (y := y) hx)
    have HX := Lib.hid hx
    clear hx
    go_enter Try.func109, Try.ntmps109
    go_wp2_with fail
    refine (rword_no _ _ HX.out).mono ?_
    rintro e w1 ⟨rfl, rfl⟩
    go_wp2_with fail
    go_ret
    exact ⟨ret_int H.out.symm, rfl⟩
theorem rwadd_nat (x y : Nat) (w : World) (hx : x ≤ 65535) (hy : y ≤ 65535) :
    Calls Try.prog 109 #[.int .i64 x, .int .i64 y] w fun e w' => e = .returned (.int .i64 (oc (x + y) : Nat)) ∧ w = w' := by
  rw [← adR_nat hx hy]; exact rwadd_any x y w
theorem up_two {s o n : Nat} (hs : s ≤ 65535) (ho : o ≤ 65535) (hn : n ≤ 65535) : upR s o n = 65535 - (oc (oc (65535 - s + (65535 - o)) + n) : Nat) := by
  rw [upR_yes (by omega) (by omega) (by omega), oc_add]
  congr 3
  omega
theorem wsum_two {l : List Nat} {k : Nat} (h : k + 1 < l.length) (he : k % 2 = 0) : wsum false (l.take (k + 2)) = wsum false (l.take k) + (256 * l.getD k 0 + l.getD (k + 1) 0) := by
  rw [wsum_take_odd (i := k + 1) h (by omega), wsum_take_even (by omega) he]; omega
theorem rwsum_any {p : Nat → Prop} {v : Value} {l : List Nat} (w : World) (h : Rb p w v l) (hl : l.length ≤ 100000) :
    Calls Try.prog 105 #[v] w fun e w' => e = .returned (.int .i64 (oc (wsum false l) : Nat)) ∧ w = w' := by
  have hb := h.bytes
  obtain ⟨a, cap, rfl, hcap, hmx⟩ := h.form
  have H := Lib.hid h
  have HB := Lib.hid (fun i => getD_lt hb i)
  clear h hb
  go_enter Try.func105, Try.ntmps105
  go_wp2
  go_loop [3, 4, 5] (fun s i _ => ∃ k : Nat, k ≤ l.length + 1 ∧ k % 2 = 0 ∧ i = .int .i64 k ∧ s = .int .i64 (oc (wsum false (l.take k)) : Nat)) (fun _ i _ => l.length + 2 - (intOf i).toNat)
  case atStart => exact ⟨0, Nat.zero_le _, rfl, rfl, rfl⟩
  case round =>
    obtain ⟨k, hk, he, rfl, rfl⟩ := hrel
    have HE := Lib.hid he
    clear he
    by_cases hlt : k < l.length
    · obtain ⟨b, off, rfl, -, hc⟩ := H.out.at' hlt
      have hx := HB.out k
      have hS := oc_le (wsum false (l.take k))
      have d1 : (k : Int) < (l.length : Int) := by omega
      by_cases hlt2 : k + 1 < l.length
      · obtain ⟨b', off', eb, -, hc2⟩ := H.out.at' hlt2
        cases eb
        have hy := HB.out (k + 1)
        have d2 : decide ((k : Int) + 1 < (l.length : Int)) = true := by rw [decide_eq_true_eq]; omega
        have d3 : (k : Int) + 1 < (l.length : Int) := by omega
        have HS := Lib.hid (wsum_two hlt2 HE.out)
        have HT := Lib.hid (oc_add (wsum false (l.take k)) (256 * l.getD k 0 + l.getD (k + 1) 0))
        have HA := Lib.hid (fun w => rwadd_nat (oc (wsum false (l.take k))) (256 * l.getD k 0 + l.getD (k + 1) 0) w hS (by omega))
        have e5 : (l.getD k 0 : Int) * 256 + (l.getD (k + 1) 0 : Int) = ((256 * l.getD k 0 + l.getD (k + 1) 0 : Nat) : Int) := by omega
        rw [HT.out] at HA
        rw [← HS.out] at HA
        clear HS HT
        generalize 256 * l.getD k 0 + l.getD (k + 1) 0 = X at *
        generalize l.getD k 0 = x at *
        generalize l.getD (k + 1) 0 = y at *
        generalize oc (wsum false (l.take k)) = S at *
        go_wp2_with fail
        refine (HA.out _).mono ?_
        rintro e w1 ⟨rfl, rfl⟩
        go_wp2_with fail
        go_round
        case rel => exact ⟨k + 2, by omega, by have := HE.out; omega, by go_num, rfl⟩
        case measure => simp [intOf]; omega
      · have d2 : decide ((k : Int) + 1 < (l.length : Int)) = false := by rw [decide_eq_false_iff_not]; omega
        have HS := Lib.hid (wsum_take_even hlt HE.out)
        have HK := Lib.hid (show l.take (k + 2) = l.take (k + 1) by rw [List.take_of_length_le (by omega), List.take_of_length_le (by omega)])
        have HT := Lib.hid (oc_add (wsum false (l.take k)) (256 * l.getD k 0))
        have HA := Lib.hid (fun w => rwadd_nat (oc (wsum false (l.take k))) (256 * l.getD k 0) w hS (by omega))
        have e5 : (l.getD k 0 : Int) * 256 = ((256 * l.getD k 0 : Nat) : Int) := by omega
        rw [HT.out] at HA
        rw [← HS.out, ← HK.out] at HA
        clear HS HT HK
        generalize 256 * l.getD k 0 = X at *
        generalize l.getD k 0 = x at *
        generalize oc (wsum false (l.take k)) = S at *
        go_wp2_with fail
        refine (HA.out _).mono ?_
        rintro e w1 ⟨rfl, rfl⟩
        go_wp2_with fail
        go_round
        case rel => exact ⟨k + 2, by omega, by have := HE.out; omega, by go_num, rfl⟩
        case measure => simp [intOf]; omega
    · have e : l.take k = l := List.take_of_length_le (by omega)
      rw [e]
      have d1 : ¬ (k : Int) < (l.length : Int) := by omega
      go_wp2_with fail
      go_ret
      exact ⟨rfl, rfl⟩
theorem rwchk_any {p : Nat → Prop} {v : Value} {l : List Nat} (w : World) (h : Rb p w v l) (hl : l.length ≤ 100000) :
    Calls Try.prog 83 #[v] w fun e w' => e = .returned (.int .i64 (65535 - (oc (wsum false l) : Nat))) ∧ w = w' := by
  have HF := Lib.hid (rwsum_any w h hl)
  have hR := oc_le (wsum false l)
  obtain ⟨a, cap, rfl, -, -⟩ := h.form
  clear h
  generalize oc (wsum false l) = R at *
  go_enter Try.func83, Try.ntmps83
  go_wp2_with (go_at_call 105; refine HF.out.mono ?_; rintro e w1 ⟨rfl, rfl⟩)
  go_ret
  exact ⟨rfl, rfl⟩
end Go.Proofs.Ytlkhdbgknkjioaa
