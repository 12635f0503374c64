/- The document's package wire: Get, Put, Equal. -/
import Derived.Test.YtlkhdbgknkjioaaWr
import Derived.WalkKit
import Derived.WalkSpells
import Derived.WalkLawsBesides
import Derived.WalkSmall
import Derived.Handy
import Derived.BigQuiet
import Derived.Deep.QuietTactic
import Derived.Deep.RegionHeld3
import Derived.Deep.DeepFit
import Derived.Below
import Derived.Lib.Hide
import Derived.Lib.QuietBelow
namespace Go.Proofs.Ytlkhdbgknkjioaa
open Go Go.RowKit Go.Sort
set_option maxRecDepth 100000
set_option linter.unusedVariables false
theorem rget_yes {p : Nat → Prop} {v : Value} {l : List Nat} (i k : Nat) (w : World) (h : Rb p w v l) (hk0 : 1 ≤ k) (hk1 : k ≤ 7) (hik : i + k ≤ l.length) (hl : l.length ≤ 100000) :
    Calls Try.prog 102 #[v, .int .i64 i, .int .i64 k] w fun e w' => e = .returned (.tuple #[.int .i64 (bnum ((l.drop i).take k) : Nat), .int .i64 0]) ∧ w = w' := by
  have hb := h.bytes
  obtain ⟨a, cap, rfl, hcap, hmx⟩ := h.form
  have H := Lib.hid h
  have hlen : ((l.drop i).take k).length = k := by simp; omega
  have hat : ∀ t, t < k → ((l.drop i).take k).getD t 0 = l.getD (i + t) 0 := by
    intro t ht
    rw [List.getD_eq_getElem?_getD, List.getElem?_take_of_lt ht, List.getElem?_drop, ← List.getD_eq_getElem?_getD]
  have HAT := Lib.hid hat
  have HB := Lib.hid (show ∀ x ∈ (l.drop i).take k, x < 256 from fun x hm => hb x (List.mem_of_mem_drop (List.mem_of_mem_take hm)))
  clear h hb hat
  generalize (l.drop i).take k = m at *
  have HM := Lib.hid hlen
  clear hlen
  have d1 : decide ((k : Int) < 1) = false := by rw [decide_eq_false_iff_not]; omega
  have d2 : decide ((7 : Int) < (k : Int)) = false := by rw [decide_eq_false_iff_not]; omega
  have d3 : decide ((i : Int) < 0) = false := by rw [decide_eq_false_iff_not]; omega
  have d4 : decide ((l.length : Int) < (i : Int)) = false := by rw [decide_eq_false_iff_not]; omega
  have d4b : decide (l.length < i) = false := by rw [decide_eq_false_iff_not]; omega
  have d5 : decide ((l.length : Int) - (i : Int) < (k : Int)) = false := by rw [decide_eq_false_iff_not]; omega
  go_enter Try.func102, Try.ntmps102
  go_wp2
  go_loop [8, 9] (fun n j => ∃ t : Nat, t ≤ k ∧ j = .int .i64 t ∧ n = .int .i64 (bnum (m.take t) : Nat)) (fun _ j => k - (intOf j).toNat)
  case atStart => exact ⟨0, Nat.zero_le _, rfl, rfl⟩
  case round =>
    obtain ⟨t, ht, rfl, rfl⟩ := hrel
    by_cases hlt : t < k
    · obtain ⟨b', off', rfl, -, hc⟩ := H.out.at' (i := i + t) (by omega)
      rw [← HAT.out t hlt] at hc
      obtain ⟨I, hI⟩ : ∃ I, I = i + t := ⟨_, rfl⟩
      rw [← hI] at hc
      have hx := getD_lt HB.out t
      have HS := Lib.hid (bnum_take (l := m) (k := t) (by rw [HM.out]; exact hlt))
      have hN : bnum (m.take t) < 281474976710656 := by
        have h1 := bnum_lt HB.out t
        have h2 : 256 ^ t ≤ 256 ^ 6 := Nat.pow_le_pow_right (by omega) (by omega)
        omega
      have e1 := or_low (bnum (m.take t)) (m.getD t 0) (by omega) hx
      have d6 : (t : Int) < (k : Int) := by omega
      have e2 : (i : Int) + (t : Int) = (I : Int) := by omega
      have u5 : I < l.length := by omega
      clear hI d1 d2 d3 d4 d4b d5
      generalize m.getD t 0 = x at *
      generalize bnum (m.take t) = N at *
      go_wp2
      go_round
      case rel => exact ⟨t + 1, by omega, by go_num, by rw [HS.out]; go_num⟩
      case measure => simp [intOf]; omega
    · obtain rfl : t = k := by omega
      have e : m.take t = m := List.take_of_length_le (by rw [HM.out]; exact Nat.le_refl _)
      rw [e]
      go_wp2
      exact bodyPost_ret (v := .tuple #[.int .i64 (bnum m : Nat), .int .i64 0]) (by simp [results, Try.results102, go_sem]) rfl ⟨rfl, rfl⟩
theorem rget_range {v : Value} (a : Option Addr) (len cap : Nat) (i k : Int) (w : World) (hv : v = .slice a len cap) (hr : ¬ ((1 ≤ k ∧ k ≤ 7) ∧ 0 ≤ i)) :
    Calls Try.prog 102 #[v, .int .i64 i, .int .i64 k] w fun e w' => e = .returned (.tuple #[.int .i64 0, .int .i64 1]) ∧ w = w' := by
  subst hv
  by_cases h1 : k < 1
  · have d1 : decide (k < 1) = true := by simpa using h1
    clear hr
    go_enter Try.func102, Try.ntmps102
    go_wp2
    go_ret2
    exact ⟨rfl, rfl⟩
  have d1 : decide (k < 1) = false := by simpa using h1
  by_cases h2 : 7 < k
  · have d2 : decide (7 < k) = true := by simpa using h2
    clear hr
    go_enter Try.func102, Try.ntmps102
    go_wp2
    go_ret2
    exact ⟨rfl, rfl⟩
  have d2 : decide (7 < k) = false := by simpa using h2
  have h3 : i < 0 := by omega
  have d3 : decide (i < 0) = true := by simpa using h3
  clear hr
  go_enter Try.func102, Try.ntmps102
  go_wp2
  go_ret2
  exact ⟨rfl, rfl⟩
theorem rget_short {v : Value} (a : Option Addr) (len cap : Nat) (i k : Int) (w : World) (hv : v = .slice a len cap) (hm : len ≤ 100000) (hi1 : i ≤ 9223372036854775807) (hk : 1 ≤ k ∧ k ≤ 7) (hi : 0 ≤ i) (hs : ¬ i + k ≤ len) :
    Calls Try.prog 102 #[v, .int .i64 i, .int .i64 k] w fun e w' => e = .returned (.tuple #[.int .i64 0, .int .i64 3]) ∧ w = w' := by
  subst hv
  obtain ⟨i, rfl⟩ := Int.eq_ofNat_of_zero_le hi
  have d1 : decide (k < 1) = false := by rw [decide_eq_false_iff_not]; omega
  have d2 : decide (7 < k) = false := by rw [decide_eq_false_iff_not]; omega
  have d3 : decide ((i : Int) < 0) = false := by rw [decide_eq_false_iff_not]; omega
  have k0 := hk.1
  have k1 := hk.2
  clear hk
  by_cases h4 : len < i
  · have d4 : decide ((len : Int) < (i : Int)) = true := by rw [decide_eq_true_eq]; omega
    have d4b : decide (len < i) = true := by rw [decide_eq_true_eq]; omega
    go_enter Try.func102, Try.ntmps102
    go_wp2
    go_ret2
    exact ⟨rfl, rfl⟩
  · have d4 : decide ((len : Int) < (i : Int)) = false := by rw [decide_eq_false_iff_not]; omega
    have d4b : decide (len < i) = false := by rw [decide_eq_false_iff_not]; omega
    have d5 : decide ((len : Int) - (i : Int) < k) = true := by rw [decide_eq_true_eq]; omega
    go_enter Try.func102, Try.ntmps102
    go_wp2
    go_ret2
    exact ⟨rfl, rfl⟩
theorem rget_any {p : Nat → Prop} {v : Value} {l : List Nat} (i k : Int) (w : World) (h : Rb p w v l) (hl : l.length ≤ 100000) (hi : i ≤ 9223372036854775807) :
    Calls Try.prog 102 #[v, .int .i64 i, .int .i64 k] w fun e w' => e = .returned (.tuple #[.int .i64 (gtN l i k), .int .i64 (gtE l i k)]) ∧ w = w' := by
  obtain ⟨a, cap, ev, -, -⟩ := h.form
  by_cases hr : (1 ≤ k ∧ k ≤ 7) ∧ 0 ≤ i
  · by_cases hs : i + k ≤ l.length
    · obtain ⟨i, rfl⟩ := Int.eq_ofNat_of_zero_le hr.2
      obtain ⟨k, rfl⟩ := Int.eq_ofNat_of_zero_le (show 0 ≤ k by omega)
      have h1 : gtN l (i : Int) (k : Int) = (bnum ((l.drop i).take k) : Nat) := if_pos ⟨hr.1, hr.2, hs⟩
      have h2 : gtE l (i : Int) (k : Int) = 0 := (if_pos hr).trans (if_pos hs)
      rw [h1, h2]
      exact rget_yes i k w h (by omega) (by omega) (by omega) hl
    · have h1 : gtN l i k = 0 := if_neg fun c => hs c.2.2
      have h2 : gtE l i k = 3 := (if_pos hr).trans (if_neg hs)
      rw [h1, h2]
      exact rget_short a _ cap i k w ev hl hi hr.1 hr.2 hs
  · have h1 : gtN l i k = 0 := if_neg fun c => hr ⟨c.1, c.2.1⟩
    have h2 : gtE l i k = 1 := if_neg hr
    rw [h1, h2]
    exact rget_range a _ cap i k w ev hr
theorem rweq_c {p q : Nat → Prop} {va vb : Value} {l m : List Nat} (w : World) (ha : Rb p w va l) (hb : Rb q w vb m) (hl : l.length ≤ 100000) (hm : m.length ≤ 100000) (c : Bool) (hc : c = decide (l = m)) :
    Calls Try.prog 37 #[va, vb] w fun e w' => e = .returned (.bool c) ∧ Gr w w' := by
  have HCC := Lib.hid hc
  clear hc
  obtain ⟨a, ca, rfl, -, -⟩ := ha.form
  obtain ⟨b, cb, rfl, -, -⟩ := hb.form
  have HA := Lib.hid ha
  have HB := Lib.hid hb
  clear ha hb
  by_cases he : l.length = m.length
  · have HE := Lib.hid he
    obtain ⟨n, hn⟩ : ∃ n, n = l.length := ⟨_, rfl⟩
    rw [← he, ← hn]
    have HN := Lib.hid hn
    have d1 : ((n : Int) == (n : Int)) = true := by simp
    have hn1 : n ≤ 100000 := by omega
    clear he hn hl hm
    go_enter Try.func37, Try.ntmps37
    go_wp2
    go_loopw [5] (fun i wr => ∃ t : Nat, t ≤ n ∧ i = .int .i64 t ∧ (∀ j, j < t → l.getD j 0 = m.getD j 0) ∧ Gr w wr) (fun i _ => n - (intOf i).toNat)
    case atStart => exact ⟨0, Nat.zero_le _, rfl, fun j h => by omega, Gr.refl _⟩
    case round =>
      obtain ⟨t, ht, rfl, hj, hgr⟩ := hrel
      have HJ := Lib.hid hj
      clear hj
      by_cases hlt : t < n
      · obtain ⟨b1, o1, rfl, -, hc1⟩ := (HA.out.gr hgr).at' (i := t) (by rw [← HN.out]; exact hlt)
        obtain ⟨b2, o2, rfl, -, hc2⟩ := (HB.out.gr hgr).at' (i := t) (by rw [← HE.out, ← HN.out]; exact hlt)
        have d2 : (t : Int) < (n : Int) := by omega
        by_cases hx : l.getD t 0 = m.getD t 0
        · have HX := Lib.hid hx
          rw [← hx] at hc2
          have HX2 := Lib.hid (show ∀ j, j < t + 1 → l.getD j 0 = m.getD j 0 from fun j hj => by
            by_cases e : j = t
            · subst e; exact hx
            · exact HJ.out j (by omega))
          clear hx
          generalize l.getD t 0 = x at *
          go_wp2_with fail
          go_quiet (fail)
          go_wp2_with fail
          go_roundw
          case rel =>
            refine ⟨t + 1, by omega, by go_num, HX2.out, (by repeat' (first | (with_reducible exact Gr.refl _) | (with_reducible assumption) | (with_reducible refine Gr.drewN ?_ _) | (with_reducible refine Gr.drew ?_) | (with_reducible refine Gr.alloc ?_ _) | (with_reducible refine Gr.setCell ?_ ?_ _) | (with_reducible refine Gr.grow ?_ _ _) | (refine Gr.step ?_ (by with_reducible assumption)) | go_size))⟩
          case measure => simp [intOf]; omega
        · have hx2 : (((l.getD t 0 : Nat) : Int) == ((m.getD t 0 : Nat) : Int)) = false := by rw [beq_eq_false_iff_ne]; omega
          have HX := Lib.hid (show c = false by rw [HCC.out]; rw [decide_eq_false_iff_not]; intro c; rw [c] at hx; exact hx rfl)
          clear hx
          generalize l.getD t 0 = x at *
          generalize m.getD t 0 = y at *
          go_wp2_with fail
          go_quiet (fail)
          go_wp2_with fail
          go_ret
          exact ⟨ret_bool HX.out.symm, (by repeat' (first | (with_reducible exact Gr.refl _) | (with_reducible assumption) | (with_reducible refine Gr.drewN ?_ _) | (with_reducible refine Gr.drew ?_) | (with_reducible refine Gr.alloc ?_ _) | (with_reducible refine Gr.setCell ?_ ?_ _) | (with_reducible refine Gr.grow ?_ _ _) | (refine Gr.step ?_ (by with_reducible assumption)) | go_size))⟩
      · obtain rfl : t = n := by omega
        have HX := Lib.hid (show c = true by rw [HCC.out]; rw [decide_eq_true_eq]; exact ext_getD HE.out (fun i hi => HJ.out i (by rw [HN.out]; exact hi)))
        go_wp2_with fail
        go_ret
        exact ⟨ret_bool HX.out.symm, hgr⟩
  · have HX := Lib.hid (show c = false by rw [HCC.out]; rw [decide_eq_false_iff_not]; intro c; rw [c] at he; exact he rfl)
    have d1 : ((l.length : Int) == (m.length : Int)) = false := by rw [beq_eq_false_iff_ne]; omega
    clear he
    go_enter Try.func37, Try.ntmps37
    go_wp2
    go_ret
    exact ⟨ret_bool HX.out.symm, Gr.refl _⟩
theorem rweq_any {p q : Nat → Prop} {va vb : Value} {l m : List Nat} (w : World) (ha : Rb p w va l) (hb : Rb q w vb m) (hl : l.length ≤ 100000) (hm : m.length ≤ 100000) :
    Calls Try.prog 37 #[va, vb] w fun e w' => e = .returned (.bool (decide (l = m))) ∧ Gr w w' := rweq_c w ha hb hl hm _ rfl
end Go.Proofs.Ytlkhdbgknkjioaa
