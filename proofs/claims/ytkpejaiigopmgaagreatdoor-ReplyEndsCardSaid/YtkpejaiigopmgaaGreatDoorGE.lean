/- Several texts in one. -/
import Derived.Test.YtkpejaiigopmgaaGreatDoorGA
import Derived.Test.YtkpejaiigopmgaaGreatDoorGD
import Derived.WalkKit
import Derived.WalkSpells
import Derived.WalkLawsBesides
import Derived.WalkSmall
import Derived.Handy
import Derived.BigQuiet
import Derived.Deep.QuietTactic
import Derived.Deep.RegionHeld3
import Derived.Deep.DeepFit
import Derived.Below
import Derived.Lib.Hide
import Derived.Lib.QuietBelow
import Derived.Test.YtkpejaiigopmgaaGreatDoorGH
import Derived.Test.YtkpejaiigopmgaaGreatDoorKhM
/- The document's package wire, by the same plain functions. -/
namespace Go.Proofs.YtkpejaiigopmgaaGreatDoor
open Go Go.RowKit Go.Sort
set_option maxRecDepth 100000
set_option linter.unusedVariables false
theorem rword_any (n : Int) (w : World) (c : Bool) (hc : c = decide (0 ≤ n ∧ n ≤ 65535)) :
    Calls Tryz.prog 105 #[.int .i64 n] w fun e w' => e = .returned (.bool c) ∧ w = w' := by
  have HC := Lib.hid hc
  clear hc
  by_cases h0 : 0 ≤ n
  · have d1 : decide (0 ≤ n) = true := by simpa using h0
    by_cases h1 : n ≤ 65535
    · have d2 : decide (n ≤ 65535) = true := by simpa using h1
      have H := Lib.hid (show c = true from HC.out.trans (by simp; omega))
      go_enter Tryz.func105, Tryz.ntmps105
      go_wp2
      go_ret
      first | exact ⟨ret_bool H.out.symm, rfl⟩ | (rw [H.out]; exact ⟨rfl, rfl⟩)
    · have d2 : decide (n ≤ 65535) = false := by simpa using h1
      have H := Lib.hid (show c = false from HC.out.trans (by simp; omega))
      go_enter Tryz.func105, Tryz.ntmps105
      go_wp2
      go_ret
      first | exact ⟨ret_bool H.out.symm, rfl⟩ | (rw [H.out]; exact ⟨rfl, rfl⟩)
  · have d1 : decide (0 ≤ n) = false := by simpa using h0
    have H := Lib.hid (show c = false from HC.out.trans (by simp; omega))
    go_enter Tryz.func105, Tryz.ntmps105
    go_wp2
    go_ret
    first | exact ⟨ret_bool H.out.symm, rfl⟩ | (rw [H.out]; exact ⟨rfl, rfl⟩)
theorem rword_yes (n : Int) (w : World) (h : 0 ≤ n ∧ n ≤ 65535) :
    Calls Tryz.prog 105 #[.int .i64 n] w fun e w' => e = .returned (.bool true) ∧ w = w' := rword_any n w true (by simpa using h)
theorem rword_no (n : Int) (w : World) (h : ¬ (0 ≤ n ∧ n ≤ 65535)) :
    Calls Tryz.prog 105 #[.int .i64 n] w fun e w' => e = .returned (.bool false) ∧ w = w' := rword_any n w false (by simpa using h)
theorem rwadd_any (x y : Int) (w : World) :
    Calls Tryz.prog 94 #[.int .i64 x, .int .i64 y] w fun e w' => e = .returned (.int .i64 (adR x y)) ∧ w = w' := by
  by_cases hx : 0 ≤ x ∧ x ≤ 65535
  · by_cases hy : 0 ≤ y ∧ y ≤ 65535
    · obtain ⟨x, rfl⟩ := Int.eq_ofNat_of_zero_le hx.1
      obtain ⟨y, rfl⟩ := Int.eq_ofNat_of_zero_le hy.1
      have hxx := hx.2
      have hyy := hy.2
      have H := Lib.hid (adR_nat (x := x) (y := y) (by omega) (by omega))
      have HT := Lib.hid (oc_two (a := x) (b := y) (by omega) (by omega))
      have e1 := and_mask16 ((x : Int) + (y : Int))
      clear hx hy
      go_enter Tryz.func94, Tryz.ntmps94
      go_wp2_with (go_at_call 105; refine (rword_yes _ _ (by omega)).mono ?_; rintro e w1 ⟨rfl, rfl⟩)
      go_ret
      exact ⟨ret_int (by rw [H.out, ← HT.out]; omega), rfl⟩
    · have H := Lib.hid (adR_noy (x := x) hy)
      have HX := Lib.hid hx
      have HY := Lib.hid hy
      clear hx hy
      go_enter Tryz.func94, Tryz.ntmps94
      go_wp2_with fail
      refine (rword_yes _ _ HX.out).mono ?_
      rintro e w1 ⟨rfl, rfl⟩
      go_wp2_with fail
      refine (rword_no _ _ HY.out).mono ?_
      rintro e w1 ⟨rfl, rfl⟩
      go_wp2_with fail
      go_ret
      exact ⟨ret_int H.out.symm, rfl⟩
  · have H := Lib.hid (adR_nox (y := y) hx)
    have HX := Lib.hid hx
    clear hx
    go_enter Tryz.func94, Tryz.ntmps94
    go_wp2_with fail
    refine (rword_no _ _ HX.out).mono ?_
    rintro e w1 ⟨rfl, rfl⟩
    go_wp2_with fail
    go_ret
    exact ⟨ret_int H.out.symm, rfl⟩
theorem rwadd_nat (x y : Nat) (w : World) (hx : x ≤ 65535) (hy : y ≤ 65535) :
    Calls Tryz.prog 94 #[.int .i64 x, .int .i64 y] w fun e w' => e = .returned (.int .i64 (oc (x + y) : Nat)) ∧ w = w' := by
  rw [← adR_nat hx hy]; exact rwadd_any x y w
theorem up_two {s o n : Nat} (hs : s ≤ 65535) (ho : o ≤ 65535) (hn : n ≤ 65535) : upR s o n = 65535 - (oc (oc (65535 - s + (65535 - o)) + n) : Nat) := by
  rw [upR_yes (by omega) (by omega) (by omega), oc_add]
  congr 3
  omega
theorem wsum_two {l : List Nat} {k : Nat} (h : k + 1 < l.length) (he : k % 2 = 0) : wsum false (l.take (k + 2)) = wsum false (l.take k) + (256 * l.getD k 0 + l.getD (k + 1) 0) := by
  rw [wsum_take_odd (i := k + 1) h (by omega), wsum_take_even (by omega) he]; omega
theorem rwsum_any {p : Nat → Prop} {v : Value} {l : List Nat} (w : World) (h : Rb p w v l) (hl : l.length ≤ 100000) :
    Calls Tryz.prog 97 #[v] w fun e w' => e = .returned (.int .i64 (oc (wsum false l) : Nat)) ∧ w = w' := by
  have hb := h.bytes
  obtain ⟨a, cap, rfl, hcap, hmx⟩ := h.form
  have H := Lib.hid h
  have HB := Lib.hid (fun i => getD_lt hb i)
  clear h hb
  go_enter Tryz.func97, Tryz.ntmps97
  go_wp2
  go_loop [3, 4, 5] (fun s i _ => ∃ k : Nat, k ≤ l.length + 1 ∧ k % 2 = 0 ∧ i = .int .i64 k ∧ s = .int .i64 (oc (wsum false (l.take k)) : Nat)) (fun _ i _ => l.length + 2 - (intOf i).toNat)
  case atStart => exact ⟨0, Nat.zero_le _, rfl, rfl, rfl⟩
  case round =>
    obtain ⟨k, hk, he, rfl, rfl⟩ := hrel
    have HE := Lib.hid he
    clear he
    by_cases hlt : k < l.length
    · obtain ⟨b, off, rfl, -, hc⟩ := H.out.at' hlt
      have hx := HB.out k
      have hS := oc_le (wsum false (l.take k))
      have d1 : (k : Int) < (l.length : Int) := by omega
      by_cases hlt2 : k + 1 < l.length
      · obtain ⟨b', off', eb, -, hc2⟩ := H.out.at' hlt2
        cases eb
        have hy := HB.out (k + 1)
        have d2 : decide ((k : Int) + 1 < (l.length : Int)) = true := by rw [decide_eq_true_eq]; omega
        have d3 : (k : Int) + 1 < (l.length : Int) := by omega
        have HS := Lib.hid (wsum_two hlt2 HE.out)
        have HT := Lib.hid (oc_add (wsum false (l.take k)) (256 * l.getD k 0 + l.getD (k + 1) 0))
        have HA := Lib.hid (fun w => rwadd_nat (oc (wsum false (l.take k))) (256 * l.getD k 0 + l.getD (k + 1) 0) w hS (by omega))
        have e5 : (l.getD k 0 : Int) * 256 + (l.getD (k + 1) 0 : Int) = ((256 * l.getD k 0 + l.getD (k + 1) 0 : Nat) : Int) := by omega
        rw [HT.out] at HA
        rw [← HS.out] at HA
        clear HS HT
        generalize 256 * l.getD k 0 + l.getD (k + 1) 0 = X at *
        generalize l.getD k 0 = x at *
        generalize l.getD (k + 1) 0 = y at *
        generalize oc (wsum false (l.take k)) = S at *
        go_wp2_with fail
        refine (HA.out _).mono ?_
        rintro e w1 ⟨rfl, rfl⟩
        go_wp2_with fail
        go_round
        case rel => exact ⟨k + 2, by omega, by have := HE.out; omega, by go_num, rfl⟩
        case measure => simp [intOf]; omega
      · have d2 : decide ((k : Int) + 1 < (l.length : Int)) = false := by rw [decide_eq_false_iff_not]; omega
        have HS := Lib.hid (wsum_take_even hlt HE.out)
        have HK := Lib.hid (show l.take (k + 2) = l.take (k + 1) by rw [List.take_of_length_le (by omega), List.take_of_length_le (by omega)])
        have HT := Lib.hid (oc_add (wsum false (l.take k)) (256 * l.getD k 0))
        have HA := Lib.hid (fun w => rwadd_nat (oc (wsum false (l.take k))) (256 * l.getD k 0) w hS (by omega))
        have e5 : (l.getD k 0 : Int) * 256 = ((256 * l.getD k 0 : Nat) : Int) := by omega
        rw [HT.out] at HA
        rw [← HS.out, ← HK.out] at HA
        clear HS HT HK
        generalize 256 * l.getD k 0 = X at *
        generalize l.getD k 0 = x at *
        generalize oc (wsum false (l.take k)) = S at *
        go_wp2_with fail
        refine (HA.out _).mono ?_
        rintro e w1 ⟨rfl, rfl⟩
        go_wp2_with fail
        go_round
        case rel => exact ⟨k + 2, by omega, by have := HE.out; omega, by go_num, rfl⟩
        case measure => simp [intOf]; omega
    · have e : l.take k = l := List.take_of_length_le (by omega)
      rw [e]
      have d1 : ¬ (k : Int) < (l.length : Int) := by omega
      go_wp2_with fail
      go_ret
      exact ⟨rfl, rfl⟩
theorem rwchk_any {p : Nat → Prop} {v : Value} {l : List Nat} (w : World) (h : Rb p w v l) (hl : l.length ≤ 100000) :
    Calls Tryz.prog 78 #[v] w fun e w' => e = .returned (.int .i64 (65535 - (oc (wsum false l) : Nat))) ∧ w = w' := by
  have HF := Lib.hid (rwsum_any w h hl)
  have hR := oc_le (wsum false l)
  obtain ⟨a, cap, rfl, -, -⟩ := h.form
  clear h
  generalize oc (wsum false l) = R at *
  go_enter Tryz.func78, Tryz.ntmps78
  go_wp2_with (go_at_call 97; refine HF.out.mono ?_; rintro e w1 ⟨rfl, rfl⟩)
  go_ret
  exact ⟨rfl, rfl⟩
end Go.Proofs.YtkpejaiigopmgaaGreatDoor
/- The document's package wire: Get, Put, Equal. -/
namespace Go.Proofs.YtkpejaiigopmgaaGreatDoor
open Go Go.RowKit Go.Sort
set_option maxRecDepth 100000
set_option linter.unusedVariables false
theorem rget_yes {p : Nat → Prop} {v : Value} {l : List Nat} (i k : Nat) (w : World) (h : Rb p w v l) (hk0 : 1 ≤ k) (hk1 : k ≤ 7) (hik : i + k ≤ l.length) (hl : l.length ≤ 100000) :
    Calls Tryz.prog 95 #[v, .int .i64 i, .int .i64 k] w fun e w' => e = .returned (.tuple #[.int .i64 (bnum ((l.drop i).take k) : Nat), .int .i64 0]) ∧ w = w' := by
  have hb := h.bytes
  obtain ⟨a, cap, rfl, hcap, hmx⟩ := h.form
  have H := Lib.hid h
  have hlen : ((l.drop i).take k).length = k := by simp; omega
  have hat : ∀ t, t < k → ((l.drop i).take k).getD t 0 = l.getD (i + t) 0 := by
    intro t ht
    rw [List.getD_eq_getElem?_getD, List.getElem?_take_of_lt ht, List.getElem?_drop, ← List.getD_eq_getElem?_getD]
  have HAT := Lib.hid hat
  have HB := Lib.hid (show ∀ x ∈ (l.drop i).take k, x < 256 from fun x hm => hb x (List.mem_of_mem_drop (List.mem_of_mem_take hm)))
  clear h hb hat
  generalize (l.drop i).take k = m at *
  have HM := Lib.hid hlen
  clear hlen
  have d1 : decide ((k : Int) < 1) = false := by rw [decide_eq_false_iff_not]; omega
  have d2 : decide ((7 : Int) < (k : Int)) = false := by rw [decide_eq_false_iff_not]; omega
  have d3 : decide ((i : Int) < 0) = false := by rw [decide_eq_false_iff_not]; omega
  have d4 : decide ((l.length : Int) < (i : Int)) = false := by rw [decide_eq_false_iff_not]; omega
  have d4b : decide (l.length < i) = false := by rw [decide_eq_false_iff_not]; omega
  have d5 : decide ((l.length : Int) - (i : Int) < (k : Int)) = false := by rw [decide_eq_false_iff_not]; omega
  go_enter Tryz.func95, Tryz.ntmps95
  go_wp2
  go_loop [8, 9] (fun n j => ∃ t : Nat, t ≤ k ∧ j = .int .i64 t ∧ n = .int .i64 (bnum (m.take t) : Nat)) (fun _ j => k - (intOf j).toNat)
  case atStart => exact ⟨0, Nat.zero_le _, rfl, rfl⟩
  case round =>
    obtain ⟨t, ht, rfl, rfl⟩ := hrel
    by_cases hlt : t < k
    · obtain ⟨b', off', rfl, -, hc⟩ := H.out.at' (i := i + t) (by omega)
      rw [← HAT.out t hlt] at hc
      obtain ⟨I, hI⟩ : ∃ I, I = i + t := ⟨_, rfl⟩
      rw [← hI] at hc
      have hx := getD_lt HB.out t
      have HS := Lib.hid (bnum_take (l := m) (k := t) (by rw [HM.out]; exact hlt))
      have hN : bnum (m.take t) < 281474976710656 := by
        have h1 := bnum_lt HB.out t
        have h2 : 256 ^ t ≤ 256 ^ 6 := Nat.pow_le_pow_right (by omega) (by omega)
        omega
      have e1 := or_low (bnum (m.take t)) (m.getD t 0) (by omega) hx
      have d6 : (t : Int) < (k : Int) := by omega
      have e2 : (i : Int) + (t : Int) = (I : Int) := by omega
      have u5 : I < l.length := by omega
      clear hI d1 d2 d3 d4 d4b d5
      generalize m.getD t 0 = x at *
      generalize bnum (m.take t) = N at *
      go_wp2
      go_round
      case rel => exact ⟨t + 1, by omega, by go_num, by rw [HS.out]; go_num⟩
      case measure => simp [intOf]; omega
    · obtain rfl : t = k := by omega
      have e : m.take t = m := List.take_of_length_le (by rw [HM.out]; exact Nat.le_refl _)
      rw [e]
      go_wp2
      exact bodyPost_ret (v := .tuple #[.int .i64 (bnum m : Nat), .int .i64 0]) (by simp [results, Tryz.results95, go_sem]) rfl ⟨rfl, rfl⟩
theorem rget_range {v : Value} (a : Option Addr) (len cap : Nat) (i k : Int) (w : World) (hv : v = .slice a len cap) (hr : ¬ ((1 ≤ k ∧ k ≤ 7) ∧ 0 ≤ i)) :
    Calls Tryz.prog 95 #[v, .int .i64 i, .int .i64 k] w fun e w' => e = .returned (.tuple #[.int .i64 0, .int .i64 1]) ∧ w = w' := by
  subst hv
  by_cases h1 : k < 1
  · have d1 : decide (k < 1) = true := by simpa using h1
    clear hr
    go_enter Tryz.func95, Tryz.ntmps95
    go_wp2
    go_ret2
    exact ⟨rfl, rfl⟩
  have d1 : decide (k < 1) = false := by simpa using h1
  by_cases h2 : 7 < k
  · have d2 : decide (7 < k) = true := by simpa using h2
    clear hr
    go_enter Tryz.func95, Tryz.ntmps95
    go_wp2
    go_ret2
    exact ⟨rfl, rfl⟩
  have d2 : decide (7 < k) = false := by simpa using h2
  have h3 : i < 0 := by omega
  have d3 : decide (i < 0) = true := by simpa using h3
  clear hr
  go_enter Tryz.func95, Tryz.ntmps95
  go_wp2
  go_ret2
  exact ⟨rfl, rfl⟩
theorem rget_short {v : Value} (a : Option Addr) (len cap : Nat) (i k : Int) (w : World) (hv : v = .slice a len cap) (hm : len ≤ 100000) (hi1 : i ≤ 9223372036854775807) (hk : 1 ≤ k ∧ k ≤ 7) (hi : 0 ≤ i) (hs : ¬ i + k ≤ len) :
    Calls Tryz.prog 95 #[v, .int .i64 i, .int .i64 k] w fun e w' => e = .returned (.tuple #[.int .i64 0, .int .i64 3]) ∧ w = w' := by
  subst hv
  obtain ⟨i, rfl⟩ := Int.eq_ofNat_of_zero_le hi
  have d1 : decide (k < 1) = false := by rw [decide_eq_false_iff_not]; omega
  have d2 : decide (7 < k) = false := by rw [decide_eq_false_iff_not]; omega
  have d3 : decide ((i : Int) < 0) = false := by rw [decide_eq_false_iff_not]; omega
  have k0 := hk.1
  have k1 := hk.2
  clear hk
  by_cases h4 : len < i
  · have d4 : decide ((len : Int) < (i : Int)) = true := by rw [decide_eq_true_eq]; omega
    have d4b : decide (len < i) = true := by rw [decide_eq_true_eq]; omega
    go_enter Tryz.func95, Tryz.ntmps95
    go_wp2
    go_ret2
    exact ⟨rfl, rfl⟩
  · have d4 : decide ((len : Int) < (i : Int)) = false := by rw [decide_eq_false_iff_not]; omega
    have d4b : decide (len < i) = false := by rw [decide_eq_false_iff_not]; omega
    have d5 : decide ((len : Int) - (i : Int) < k) = true := by rw [decide_eq_true_eq]; omega
    go_enter Tryz.func95, Tryz.ntmps95
    go_wp2
    go_ret2
    exact ⟨rfl, rfl⟩
theorem rget_any {p : Nat → Prop} {v : Value} {l : List Nat} (i k : Int) (w : World) (h : Rb p w v l) (hl : l.length ≤ 100000) (hi : i ≤ 9223372036854775807) :
    Calls Tryz.prog 95 #[v, .int .i64 i, .int .i64 k] w fun e w' => e = .returned (.tuple #[.int .i64 (gtN l i k), .int .i64 (gtE l i k)]) ∧ w = w' := by
  obtain ⟨a, cap, ev, -, -⟩ := h.form
  by_cases hr : (1 ≤ k ∧ k ≤ 7) ∧ 0 ≤ i
  · by_cases hs : i + k ≤ l.length
    · obtain ⟨i, rfl⟩ := Int.eq_ofNat_of_zero_le hr.2
      obtain ⟨k, rfl⟩ := Int.eq_ofNat_of_zero_le (show 0 ≤ k by omega)
      have h1 : gtN l (i : Int) (k : Int) = (bnum ((l.drop i).take k) : Nat) := if_pos ⟨hr.1, hr.2, hs⟩
      have h2 : gtE l (i : Int) (k : Int) = 0 := (if_pos hr).trans (if_pos hs)
      rw [h1, h2]
      exact rget_yes i k w h (by omega) (by omega) (by omega) hl
    · have h1 : gtN l i k = 0 := if_neg fun c => hs c.2.2
      have h2 : gtE l i k = 3 := (if_pos hr).trans (if_neg hs)
      rw [h1, h2]
      exact rget_short a _ cap i k w ev hl hi hr.1 hr.2 hs
  · have h1 : gtN l i k = 0 := if_neg fun c => hr ⟨c.1, c.2.1⟩
    have h2 : gtE l i k = 1 := if_neg hr
    rw [h1, h2]
    exact rget_range a _ cap i k w ev hr
theorem rweq_c {p q : Nat → Prop} {va vb : Value} {l m : List Nat} (w : World) (ha : Rb p w va l) (hb : Rb q w vb m) (hl : l.length ≤ 100000) (hm : m.length ≤ 100000) (c : Bool) (hc : c = decide (l = m)) :
    Calls Tryz.prog 75 #[va, vb] w fun e w' => e = .returned (.bool c) ∧ Gr w w' := by
  have HCC := Lib.hid hc
  clear hc
  obtain ⟨a, ca, rfl, -, -⟩ := ha.form
  obtain ⟨b, cb, rfl, -, -⟩ := hb.form
  have HA := Lib.hid ha
  have HB := Lib.hid hb
  clear ha hb
  by_cases he : l.length = m.length
  · have HE := Lib.hid he
    obtain ⟨n, hn⟩ : ∃ n, n = l.length := ⟨_, rfl⟩
    rw [← he, ← hn]
    have HN := Lib.hid hn
    have d1 : ((n : Int) == (n : Int)) = true := by simp
    have hn1 : n ≤ 100000 := by omega
    clear he hn hl hm
    go_enter Tryz.func75, Tryz.ntmps75
    go_wp2
    go_loopw [5] (fun i wr => ∃ t : Nat, t ≤ n ∧ i = .int .i64 t ∧ (∀ j, j < t → l.getD j 0 = m.getD j 0) ∧ Gr w wr) (fun i _ => n - (intOf i).toNat)
    case atStart => exact ⟨0, Nat.zero_le _, rfl, fun j h => by omega, Gr.refl _⟩
    case round =>
      obtain ⟨t, ht, rfl, hj, hgr⟩ := hrel
      have HJ := Lib.hid hj
      clear hj
      by_cases hlt : t < n
      · obtain ⟨b1, o1, rfl, -, hc1⟩ := (HA.out.gr hgr).at' (i := t) (by rw [← HN.out]; exact hlt)
        obtain ⟨b2, o2, rfl, -, hc2⟩ := (HB.out.gr hgr).at' (i := t) (by rw [← HE.out, ← HN.out]; exact hlt)
        have d2 : (t : Int) < (n : Int) := by omega
        by_cases hx : l.getD t 0 = m.getD t 0
        · have HX := Lib.hid hx
          rw [← hx] at hc2
          have HX2 := Lib.hid (show ∀ j, j < t + 1 → l.getD j 0 = m.getD j 0 from fun j hj => by
            by_cases e : j = t
            · subst e; exact hx
            · exact HJ.out j (by omega))
          clear hx
          generalize l.getD t 0 = x at *
          go_wp2_with fail
          go_quiet (fail)
          go_wp2_with fail
          go_roundw
          case rel =>
            refine ⟨t + 1, by omega, by go_num, HX2.out, (by repeat' (first | (with_reducible exact Gr.refl _) | (with_reducible assumption) | (with_reducible refine Gr.drewN ?_ _) | (with_reducible refine Gr.drew ?_) | (with_reducible refine Gr.alloc ?_ _) | (with_reducible refine Gr.setCell ?_ ?_ _) | (with_reducible refine Gr.grow ?_ _ _) | (refine Gr.step ?_ (by with_reducible assumption)) | go_size))⟩
          case measure => simp [intOf]; omega
        · have hx2 : (((l.getD t 0 : Nat) : Int) == ((m.getD t 0 : Nat) : Int)) = false := by rw [beq_eq_false_iff_ne]; omega
          have HX := Lib.hid (show c = false by rw [HCC.out]; rw [decide_eq_false_iff_not]; intro c; rw [c] at hx; exact hx rfl)
          clear hx
          generalize l.getD t 0 = x at *
          generalize m.getD t 0 = y at *
          go_wp2_with fail
          go_quiet (fail)
          go_wp2_with fail
          go_ret
          exact ⟨ret_bool HX.out.symm, (by repeat' (first | (with_reducible exact Gr.refl _) | (with_reducible assumption) | (with_reducible refine Gr.drewN ?_ _) | (with_reducible refine Gr.drew ?_) | (with_reducible refine Gr.alloc ?_ _) | (with_reducible refine Gr.setCell ?_ ?_ _) | (with_reducible refine Gr.grow ?_ _ _) | (refine Gr.step ?_ (by with_reducible assumption)) | go_size))⟩
      · obtain rfl : t = n := by omega
        have HX := Lib.hid (show c = true by rw [HCC.out]; rw [decide_eq_true_eq]; exact ext_getD HE.out (fun i hi => HJ.out i (by rw [HN.out]; exact hi)))
        go_wp2_with fail
        go_ret
        exact ⟨ret_bool HX.out.symm, hgr⟩
  · have HX := Lib.hid (show c = false by rw [HCC.out]; rw [decide_eq_false_iff_not]; intro c; rw [c] at he; exact he rfl)
    have d1 : ((l.length : Int) == (m.length : Int)) = false := by rw [beq_eq_false_iff_ne]; omega
    clear he
    go_enter Tryz.func75, Tryz.ntmps75
    go_wp2
    go_ret
    exact ⟨ret_bool HX.out.symm, Gr.refl _⟩
theorem rweq_any {p q : Nat → Prop} {va vb : Value} {l m : List Nat} (w : World) (ha : Rb p w va l) (hb : Rb q w vb m) (hl : l.length ≤ 100000) (hm : m.length ≤ 100000) :
    Calls Tryz.prog 75 #[va, vb] w fun e w' => e = .returned (.bool (decide (l = m))) ∧ Gr w w' := rweq_c w ha hb hl hm _ rfl
end Go.Proofs.YtkpejaiigopmgaaGreatDoor
/- Encodings of transport decoded; what is compared; the sanity check. -/
namespace Go.Proofs.YtkpejaiigopmgaaGreatDoor
open Go Go.RowKit Go.Sort
set_option maxRecDepth 100000
set_option linter.unusedVariables false
def kind (r : Bool) : Nat := if r then 0 else 8
theorem echo_len (r : Bool) (a b : Nat) (d : List Nat) : (echoL r a b d).length = 8 + d.length := by
  unfold echoL; rw [msg_len]; simp [echoA, echoZ, bput_len]; omega
theorem note_len (t c : Nat) (d : List Nat) : (noteL t c d).length = 8 + d.length := by
  unfold noteL; rw [msg_len]; simp [noteA, noteZ, bput_len]; omega
theorem udp_len (src dst sp dp : Nat) (d : List Nat) : (udpL src dst sp dp d).length = 8 + d.length := by
  unfold udpL; rw [msg_len]; simp [udpA, bputs, bput_len]
theorem tcp_len (src dst sp dp sq ak fl wi : Nat) (d : List Nat) : (tcpL src dst sp dp sq ak fl wi d).length = 20 + d.length := by
  unfold tcpL; rw [msg_len]; simp [tcpA, tcpZ, bput_len]; omega
theorem echo_dc (r : Bool) {a b : Nat} {d : List Nat} (ha : a < 65536) (hb : b < 65536) (hl : d.length ≤ 1472) :
    dcEcho (echoL r a b d) = 0 ∧ gN (echoL r a b d) 0 1 = kind r ∧ gN (echoL r a b d) 4 2 = a ∧ gN (echoL r a b d) 6 2 = b ∧ (echoL r a b d).drop 8 = d := by
  have hv : vE s0 2 (echoL r a b d) = 0 := vE_msg (S := s0) (a := echoA r) (z := echoZ a b d) (by simp [echoA, echoZ, bput_len]; omega)
  have hlen := echo_len r a b d
  have e : echoL r a b d = bput (kind r) 1 ++ (bput 0 1 ++ (bput (s0 (echoA r ++ bput 0 2 ++ echoZ a b d)) 2 ++ (bput a 2 ++ (bput b 2 ++ d)))) := by
    simp only [echoL, msg, List.append_assoc]
    simp only [echoA, echoZ, kind, List.append_assoc]
  have h0 : gN (echoL r a b d) 0 1 = kind r := gN_of (a := []) (by rw [e]; rfl) rfl (by unfold kind; split <;> decide)
  have h1 : gN (echoL r a b d) 1 1 = 0 := gN_of (a := bput (kind r) 1) (by rw [e]) (bput_len _ _) (by decide)
  have h4 : gN (echoL r a b d) 4 2 = a := gN_of (a := bput (kind r) 1 ++ bput 0 1 ++ bput (s0 (echoA r ++ bput 0 2 ++ echoZ a b d)) 2) (by rw [e]; (try simp only [List.append_assoc]); (try with_reducible rfl)) (by simp [bput_len]) ha
  have h6 : gN (echoL r a b d) 6 2 = b := gN_of (a := bput (kind r) 1 ++ bput 0 1 ++ bput (s0 (echoA r ++ bput 0 2 ++ echoZ a b d)) 2 ++ bput a 2) (by rw [e]; (try simp only [List.append_assoc]); (try with_reducible rfl)) (by simp [bput_len]) hb
  have hk : kind r = 8 ∨ kind r = 0 := by cases r <;> simp [kind]
  refine ⟨?_, h0, h4, h6, ?_⟩
  · unfold dcEcho
    rw [if_neg (by omega), if_neg (by omega)]
    exact hv
  · rw [e]
    rw [show bput (kind r) 1 ++ (bput 0 1 ++ (bput (s0 (echoA r ++ bput 0 2 ++ echoZ a b d)) 2 ++ (bput a 2 ++ (bput b 2 ++ d)))) = (bput (kind r) 1 ++ bput 0 1 ++ bput (s0 (echoA r ++ bput 0 2 ++ echoZ a b d)) 2 ++ bput a 2 ++ bput b 2) ++ d by simp only [List.append_assoc]]
    exact List.drop_left' (by simp [bput_len])
theorem note_dc {t c : Nat} {d : List Nat} (ht : t = 3 ∨ t = 11) (hc : c < 256) (h28 : 28 ≤ d.length) (hl : d.length ≤ 1472) :
    dcNote (noteL t c d) = 0 ∧ gN (noteL t c d) 0 1 = t ∧ gN (noteL t c d) 1 1 = c ∧ (noteL t c d).drop 8 = d := by
  have hv : vE s0 2 (noteL t c d) = 0 := vE_msg (S := s0) (a := noteA t c) (z := noteZ d) (by simp [noteA, noteZ, bput_len]; omega)
  have hlen := note_len t c d
  have e : noteL t c d = bput t 1 ++ (bput c 1 ++ (bput (s0 (noteA t c ++ bput 0 2 ++ noteZ d)) 2 ++ (bput 0 4 ++ d))) := by
    simp only [noteL, msg, List.append_assoc]
    simp only [noteA, noteZ, List.append_assoc]
  have h0 : gN (noteL t c d) 0 1 = t := gN_of (a := []) (by rw [e]; rfl) rfl (by show t < 256; omega)
  have h1 : gN (noteL t c d) 1 1 = c := gN_of (a := bput t 1) (by rw [e]) (bput_len _ _) hc
  have h4 : gN (noteL t c d) 4 4 = 0 := gN_of (a := bput t 1 ++ bput c 1 ++ bput (s0 (noteA t c ++ bput 0 2 ++ noteZ d)) 2) (by rw [e]; (try simp only [List.append_assoc]); (try with_reducible rfl)) (by simp [bput_len]) (by decide)
  refine ⟨?_, h0, h1, ?_⟩
  · unfold dcNote
    rw [if_neg (by omega), if_neg (by omega)]
    exact hv
  · rw [e]
    rw [show bput t 1 ++ (bput c 1 ++ (bput (s0 (noteA t c ++ bput 0 2 ++ noteZ d)) 2 ++ (bput 0 4 ++ d))) = (bput t 1 ++ bput c 1 ++ bput (s0 (noteA t c ++ bput 0 2 ++ noteZ d)) 2 ++ bput 0 4) ++ d by simp only [List.append_assoc]]
    exact List.drop_left' (by simp [bput_len])
theorem udp_dc {src dst sp dp : Nat} {d : List Nat} (ha : sp < 65536) (hb : dp < 65536) (hl : d.length ≤ 1472) :
    dcUDP src dst (udpL src dst sp dp d) = 0 ∧ gN (udpL src dst sp dp d) 0 2 = sp ∧ gN (udpL src dst sp dp d) 2 2 = dp ∧ (udpL src dst sp dp d).drop 8 = d := by
  have hv : vE (sU src dst) 6 (udpL src dst sp dp d) = 0 := by
    have := vE_msg (S := sU src dst) (a := udpA sp dp d.length) (z := d) (by simp [udpA, bputs, bput_len]; omega)
    rw [show (udpA sp dp d.length).length = 6 by simp [udpA, bputs, bput_len]] at this
    exact this
  have hlen := udp_len src dst sp dp d
  obtain ⟨S, hS⟩ : ∃ S, S = sU src dst (udpA sp dp d.length ++ bput 0 2 ++ d) := ⟨_, rfl⟩
  have e : udpL src dst sp dp d = bput sp 2 ++ (bput dp 2 ++ (bput (8 + d.length) 2 ++ (bput S 2 ++ d))) := by
    rw [hS]
    simp only [udpL, msg, List.append_assoc]
    simp only [udpA, bputs, List.flatMap_cons, List.flatMap_nil, List.append_nil, List.append_assoc]
  have h0 : gN (udpL src dst sp dp d) 0 2 = sp := gN_of (a := []) (by rw [e]; rfl) rfl ha
  have h2 : gN (udpL src dst sp dp d) 2 2 = dp := gN_of (a := bput sp 2) (by rw [e]) (bput_len _ _) hb
  have h4 : gN (udpL src dst sp dp d) 4 2 = 8 + d.length := gN_of (a := bput sp 2 ++ bput dp 2) (by rw [e]; (try simp only [List.append_assoc]); (try with_reducible rfl)) (by simp [bput_len]) (by show 8 + d.length < 65536; omega)
  refine ⟨?_, h0, h2, ?_⟩
  · unfold dcUDP
    rw [if_neg (by omega), if_neg (by omega)]
    exact hv
  · rw [e]
    rw [show bput sp 2 ++ (bput dp 2 ++ (bput (8 + d.length) 2 ++ (bput S 2 ++ d))) = (bput sp 2 ++ bput dp 2 ++ bput (8 + d.length) 2 ++ bput S 2) ++ d by simp only [List.append_assoc]]
    exact List.drop_left' (by simp [bput_len])
theorem tcp_dc {src dst sp dp sq ak fl wi : Nat} {d : List Nat} (ha : sp < 65536) (hb : dp < 65536) (hq : sq < 4294967296) (hk : ak < 4294967296) (hf : fl < 256) (hw : wi < 65536) (hl : d.length ≤ 1460) :
    dcTCP src dst (tcpL src dst sp dp sq ak fl wi d) = 0 ∧ gN (tcpL src dst sp dp sq ak fl wi d) 0 2 = sp ∧ gN (tcpL src dst sp dp sq ak fl wi d) 2 2 = dp ∧ gN (tcpL src dst sp dp sq ak fl wi d) 4 4 = sq ∧ gN (tcpL src dst sp dp sq ak fl wi d) 8 4 = ak ∧
      gN (tcpL src dst sp dp sq ak fl wi d) 13 1 = fl ∧ gN (tcpL src dst sp dp sq ak fl wi d) 14 2 = wi ∧ (tcpL src dst sp dp sq ak fl wi d).drop 20 = d := by
  have hv : vE (sP src dst 6) 16 (tcpL src dst sp dp sq ak fl wi d) = 0 := by
    have := vE_msg (S := sP src dst 6) (a := tcpA sp dp sq ak fl wi) (z := tcpZ d) (by simp [tcpA, tcpZ, bput_len]; omega)
    rw [show (tcpA sp dp sq ak fl wi).length = 16 by simp [tcpA, bput_len]] at this
    exact this
  have hlen := tcp_len src dst sp dp sq ak fl wi d
  obtain ⟨S, hS⟩ : ∃ S, S = sP src dst 6 (tcpA sp dp sq ak fl wi ++ bput 0 2 ++ tcpZ d) := ⟨_, rfl⟩
  have e : tcpL src dst sp dp sq ak fl wi d = bput sp 2 ++ (bput dp 2 ++ (bput sq 4 ++ (bput ak 4 ++ (bput 80 1 ++ (bput fl 1 ++ (bput wi 2 ++ (bput S 2 ++ (bput 0 2 ++ d)))))))) := by
    rw [hS]
    simp only [tcpL, msg, List.append_assoc]
    simp only [tcpA, tcpZ, List.append_assoc]
  have k0 := gN_of (l := tcpL src dst sp dp sq ak fl wi d) (a := []) (i := 0) (by rw [e]; rfl) rfl (show sp < 256 ^ 2 from ha)
  have k2 := gN_of (l := tcpL src dst sp dp sq ak fl wi d) (a := bput sp 2) (i := 2) (by rw [e]) (bput_len _ _) (show dp < 256 ^ 2 from hb)
  have k4 := gN_of (l := tcpL src dst sp dp sq ak fl wi d) (a := bput sp 2 ++ bput dp 2) (i := 4) (by rw [e]; (try simp only [List.append_assoc]); (try with_reducible rfl)) (by simp [bput_len]) (show sq < 256 ^ 4 from hq)
  have k8 := gN_of (l := tcpL src dst sp dp sq ak fl wi d) (a := bput sp 2 ++ bput dp 2 ++ bput sq 4) (i := 8) (by rw [e]; (try simp only [List.append_assoc]); (try with_reducible rfl)) (by simp [bput_len]) (show ak < 256 ^ 4 from hk)
  have k12 := gN_of (l := tcpL src dst sp dp sq ak fl wi d) (a := bput sp 2 ++ bput dp 2 ++ bput sq 4 ++ bput ak 4) (i := 12) (by rw [e]; (try simp only [List.append_assoc]); (try with_reducible rfl)) (by simp [bput_len]) (show 80 < 256 ^ 1 by decide)
  have k13 := gN_of (l := tcpL src dst sp dp sq ak fl wi d) (a := bput sp 2 ++ bput dp 2 ++ bput sq 4 ++ bput ak 4 ++ bput 80 1) (i := 13) (by rw [e]; (try simp only [List.append_assoc]); (try with_reducible rfl)) (by simp [bput_len]) (show fl < 256 ^ 1 from hf)
  have k14 := gN_of (l := tcpL src dst sp dp sq ak fl wi d) (a := bput sp 2 ++ bput dp 2 ++ bput sq 4 ++ bput ak 4 ++ bput 80 1 ++ bput fl 1) (i := 14) (by rw [e]; (try simp only [List.append_assoc]); (try with_reducible rfl)) (by simp [bput_len]) (show wi < 256 ^ 2 from hw)
  have k18 := gN_of (l := tcpL src dst sp dp sq ak fl wi d) (a := bput sp 2 ++ bput dp 2 ++ bput sq 4 ++ bput ak 4 ++ bput 80 1 ++ bput fl 1 ++ bput wi 2 ++ bput S 2) (i := 18) (by rw [e]; (try simp only [List.append_assoc]); (try with_reducible rfl)) (by simp [bput_len]) (show 0 < 256 ^ 2 by decide)
  refine ⟨?_, k0, k2, k4, k8, k13, k14, ?_⟩
  · unfold dcTCP
    rw [if_neg (by omega), if_neg (by omega)]
    exact hv
  · rw [e]
    rw [show bput sp 2 ++ (bput dp 2 ++ (bput sq 4 ++ (bput ak 4 ++ (bput 80 1 ++ (bput fl 1 ++ (bput wi 2 ++ (bput S 2 ++ (bput 0 2 ++ d)))))))) = (bput sp 2 ++ bput dp 2 ++ bput sq 4 ++ bput ak 4 ++ bput 80 1 ++ bput fl 1 ++ bput wi 2 ++ bput S 2 ++ bput 0 2) ++ d by simp only [List.append_assoc]]
    exact List.drop_left' (by simp [bput_len])
/-- decoding an encoding -/
theorem echo_dec {p : Nat → Prop} {v : Value} {r : Bool} {a b : Nat} {d : List Nat} (w : World) (hr : Rb p w v (echoL r a b d)) (ha : a < 65536) (hb : b < 65536) (hl : d.length ≤ 1472) :
    Calls Tryz.prog 46 #[v] w fun e w' => ∃ v', e = .returned (.tuple #[.agg #[.bool r, .int .i64 a, .int .i64 b, v'], .int .i64 0]) ∧ OwB w.heap.size w' v' d ∧ Gr w w' := by
  obtain ⟨h0, h1, h2, h3, h4⟩ := echo_dc r (a := a) (b := b) (d := d) ha hb hl
  have := decho_ok w hr (by rw [echo_len]; omega) h0
  rw [h1, h2, h3, h4, show decide (kind r = 0) = r by cases r <;> rfl] at this
  exact this
theorem note_dec {p : Nat → Prop} {v : Value} {t c : Nat} {d : List Nat} (w : World) (hr : Rb p w v (noteL t c d)) (ht : t = 3 ∨ t = 11) (hc : c < 256) (h28 : 28 ≤ d.length) (hl : d.length ≤ 1472) :
    Calls Tryz.prog 62 #[v] w fun e w' => ∃ v', e = .returned (.tuple #[.agg #[.int .i64 t, .int .i64 c, v'], .int .i64 0]) ∧ OwB w.heap.size w' v' d ∧ Gr w w' := by
  obtain ⟨h0, h1, h2, h3⟩ := note_dc (t := t) (c := c) (d := d) ht hc h28 hl
  have := dnote_ok w hr (by rw [note_len]; omega) h0
  rw [h1, h2, h3] at this
  exact this
theorem udp_dec {p : Nat → Prop} {v : Value} {src dst sp dp : Nat} {d : List Nat} (w : World) (hr : Rb p w v (udpL src dst sp dp d)) (hs : src < 4294967296) (hd : dst < 4294967296) (ha : sp < 65536) (hb : dp < 65536) (hl : d.length ≤ 1472) :
    Calls Tryz.prog 24 #[.int .u32 src, .int .u32 dst, v] w fun e w' => ∃ v', e = .returned (.tuple #[.agg #[.int .i64 sp, .int .i64 dp, v'], .int .i64 0]) ∧ OwB w.heap.size w' v' d ∧ Gr w w' := by
  obtain ⟨h0, h1, h2, h3⟩ := udp_dc (src := src) (dst := dst) (sp := sp) (dp := dp) (d := d) ha hb hl
  have := dudp_ok src dst w hr hs hd (by rw [udp_len]; omega) h0
  rw [h1, h2, h3] at this
  exact this
theorem tcp_dec {p : Nat → Prop} {v : Value} {src dst sp dp sq ak fl wi : Nat} {d : List Nat} (w : World) (hr : Rb p w v (tcpL src dst sp dp sq ak fl wi d)) (hs : src < 4294967296) (hd : dst < 4294967296) (ha : sp < 65536) (hb : dp < 65536) (hq : sq < 4294967296) (hk : ak < 4294967296) (hf : fl < 256) (hw : wi < 65536) (hl : d.length ≤ 1460) :
    Calls Tryz.prog 52 #[.int .u32 src, .int .u32 dst, v] w fun e w' => ∃ v', e = .returned (.tuple #[.agg #[.int .i64 sp, .int .i64 dp, .int .i64 sq, .int .i64 ak, .int .i64 fl, .int .i64 wi, v'], .int .i64 0]) ∧ OwB w.heap.size w' v' d ∧ Gr w w' := by
  obtain ⟨h0, h1, h2, h3, h4, h5, h6, h7⟩ := tcp_dc (src := src) (dst := dst) (sp := sp) (dp := dp) (sq := sq) (ak := ak) (fl := fl) (wi := wi) (d := d) ha hb hq hk hf hw hl
  have := dtcp_ok src dst w hr hs hd (by rw [tcp_len]; omega) h0
  rw [h1, h2, h3, h4, h5, h6, h7] at this
  exact this
theorem udp_swap (src dst sp dp : Nat) (d : List Nat) : udpL src dst sp dp d = udpL dst src sp dp d := by
  unfold udpL
  rw [show sU src dst = sU dst src from funext fun l => sU_swap src dst l]
theorem tcp_swap (src dst sp dp sq ak fl wi : Nat) (d : List Nat) : tcpL src dst sp dp sq ak fl wi d = tcpL dst src sp dp sq ak fl wi d := by
  unfold tcpL
  rw [show sP src dst 6 = sP dst src 6 from funext fun l => sP_swap src dst 6 l]
/-- one byte is replaced -/
theorem echo_damage {l : List Nat} (hb : ∀ x ∈ l, x < 256) (h : dcEcho l = 0) {j x : Nat} (hj : j < l.length) (hx : x < 256) (hne : x ≠ l.getD j 0) : dcEcho (l.set j x) ≠ 0 := by
  unfold dcEcho at h ⊢
  rw [List.length_set]
  split at h
  · omega
  · split at h
    · omega
    · next h1 h2 =>
      rw [if_neg h1]
      split
      · omega
      · exact vE_damage lin0 s0_le (by omega) (by omega) hb h hj hx hne
theorem note_damage {l : List Nat} (hb : ∀ x ∈ l, x < 256) (h : dcNote l = 0) {j x : Nat} (hj : j < l.length) (hx : x < 256) (hne : x ≠ l.getD j 0) : dcNote (l.set j x) ≠ 0 := by
  unfold dcNote at h ⊢
  rw [List.length_set]
  split at h
  · omega
  · split at h
    · omega
    · next h1 h2 =>
      rw [if_neg h1]
      split
      · omega
      · exact vE_damage lin0 s0_le (by omega) (by omega) hb h hj hx hne
theorem udp_damage {src dst : Nat} {l : List Nat} (hb : ∀ x ∈ l, x < 256) (h : dcUDP src dst l = 0) {j x : Nat} (hj : j < l.length) (hx : x < 256) (hne : x ≠ l.getD j 0) : dcUDP src dst (l.set j x) ≠ 0 := by
  unfold dcUDP at h ⊢
  rw [List.length_set]
  split at h
  · omega
  · split at h
    · omega
    · next h1 h2 =>
      rw [if_neg h1]
      split
      · omega
      · exact vE_damage (linU src dst) (sU_le src dst) (by omega) (by omega) hb h hj hx hne
theorem tcp_damage {src dst : Nat} {l : List Nat} (hb : ∀ x ∈ l, x < 256) (h : dcTCP src dst l = 0) {j x : Nat} (hj : j < l.length) (hx : x < 256) (hne : x ≠ l.getD j 0) : dcTCP src dst (l.set j x) ≠ 0 := by
  unfold dcTCP at h ⊢
  rw [List.length_set]
  split at h
  · omega
  · split at h
    · omega
    · next h1 h2 =>
      rw [if_neg h1]
      split
      · omega
      · exact vE_damage (linP src dst 6) (sP_le src dst 6) (by omega) (by omega) hb h hj hx hne
end Go.Proofs.YtkpejaiigopmgaaGreatDoor
