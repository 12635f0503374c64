/- The document's package wire: Put. -/
import Derived.Test.YtlkhdbgknkjioaaWq
import Derived.WalkKit
import Derived.WalkSpells
import Derived.WalkLawsBesides
import Derived.WalkSmall
import Derived.Handy
import Derived.BigQuiet
import Derived.Deep.QuietTactic
import Derived.Deep.RegionHeld3
import Derived.Deep.DeepFit
import Derived.Below
import Derived.Lib.Hide
import Derived.Lib.QuietBelow
namespace Go.Proofs.Ytlkhdbgknkjioaa
open Go Go.RowKit Go.Sort
set_option maxRecDepth 100000
set_option linter.unusedVariables false
theorem bput_step (n k t : Nat) (h : t < k) : (bput n k).take (t + 1) = (bput n k).take t ++ [n / 256 ^ (k - 1 - t) % 256] := by
  rw [take_add_one _ (by rw [bput_len]; exact h)]
  have := bput_at n k (k - 1 - t) (by omega)
  rw [show k - 1 - (k - 1 - t) = t by omega] at this
  rw [this]
theorem owb_one (w : World) (x : Nat) (hx : x < 256) : OwB w.heap.size (w.alloc (.cells #[.int .u8 (x : Int)] 5)) (.slice (some ⟨w.heap.size, 0, none⟩) 1 1) [x] := by
  have h := World.ownsRow_lit (base := w.heap.size) (e := 5) (size := 1) w #[.int .u8 (x : Int)] 1 (Nat.le_refl _) (by unfold maxLen; omega) (by simp)
  exact ⟨h, fun y hy => by rw [List.mem_singleton] at hy; subst hy; exact hx⟩
set_option maxHeartbeats 2000000 in
theorem rput_own {p : Nat → Prop} {v : Value} {l : List Nat} (n k : Nat) (w : World) (h : Rb p w v l) (hl : l.length ≤ 90000) (hk0 : 1 ≤ k) (hk1 : k ≤ 7) (hn : n < 256 ^ k) :
    Calls Try.prog 104 #[v, .int .i64 n, .int .i64 k] w fun e w' => ∃ v', e = .returned (.tuple #[v', .int .i64 0]) ∧ OwB w.heap.size w' v' (l ++ bput n k) ∧ Gr w w' := by
  have H := Lib.hid h
  obtain ⟨a, cap, rfl, hcap, hmx⟩ := h.form
  have hp7 := pow_256_le hk1
  have hsh := wrap_pow hk1
  have d0 : decide ((k : Int) < 1) = false := by rw [decide_eq_false_iff_not]; omega
  have d0b : decide ((7 : Int) < (k : Int)) = false := by rw [decide_eq_false_iff_not]; omega
  have d1 : decide ((n : Int) < 0) = false := by rw [decide_eq_false_iff_not]; omega
  have d2 : decide (((256 ^ k : Nat) : Int) ≤ (n : Int)) = false := by simp; exact_mod_cast hn
  have d3 : decide (256 ^ k ≤ n) = false := by simp; exact hn
  clear h hn
  generalize 256 ^ k = P at *
  go_enter Try.func104, Try.ntmps104
  go_wp2_with (at_builtin; refine wpList_app (base := w.heap.size) rfl (.const (.slice none 0 0)) (.tmp 27) rfl rfl (OwB.nil _ _) rfl H.out (by simp; omega) (Nat.le_refl _) ?_; intro v1 w1 ho1 g1; have hG1 : Gr w w1 := Gr.grownNew (Gr.refl _) g1 (fun _ h => by cases h); rw [List.nil_append] at ho1; clear g1)
  have HO1 := Lib.hid ho1
  have HG1 := Lib.hid hG1
  clear ho1 hG1 d0 d0b d1 d2 d3 hsh
  go_loopw [8, 9] (fun s i wr => ∃ t : Nat, t ≤ k ∧ i = .int .i64 ((k : Int) - 1 - (t : Int)) ∧ OwB w.heap.size wr s (l ++ (bput n k).take t) ∧ Gr w wr) (fun _ i _ => (intOf i + 1).toNat)
  case atStart => exact ⟨0, Nat.zero_le _, by simp, by rw [List.take_zero, List.append_nil]; exact HO1.out, HG1.out⟩
  case round =>
    obtain ⟨t, ht, rfl, ho, hgr⟩ := hrel
    have HO := Lib.hid ho
    clear ho
    by_cases hlt : t < k
    · obtain ⟨j, hj⟩ : ∃ j, j = k - 1 - t := ⟨_, rfl⟩
      have e0 : (k : Int) - 1 - (t : Int) = (j : Int) := by omega
      have hj7 : j ≤ 7 := by omega
      have HB := Lib.hid (bput_step n k t hlt)
      rw [← hj] at HB
      have HJ := Lib.hid (show (j : Int) - 1 = (k : Int) - 1 - ((t + 1 : Nat) : Int) by omega)
      have e5 : (n : Int) / 2 ^ (8 * j) = ((n / 256 ^ j : Nat) : Int) := by rw [pow_256, ← Int.natCast_ediv]
      rw [e0]
      generalize n / 256 ^ j = M at *
      have e6 : (M : Int) % 256 = ((M % 256 : Nat) : Int) := by omega
      have e7 := wrap_byte M
      have hB256 : M % 256 < 256 := Nat.mod_lt _ (by omega)
      generalize M % 256 = B at *
      have HL := Lib.hid (show (l ++ (bput n k).take t).length + [B].length ≤ 100000 by rw [List.length_append, List.length_take, bput_len, List.length_singleton]; omega)
      have hsz := Gr.size hgr
      clear hj e0
      go_wp2_with (at_builtin; refine wpList_app (base := w.heap.size) rfl (.tmp 35) (.tmp 41) rfl rfl (HO.out.gr (Gr.alloc (Gr.refl _) _)) rfl (owb_one wr B hB256).rb HL.out (by simp; omega) ?_; intro v2 w2 ho2 g2)
      have hG2 : Gr w w2 := (hgr.alloc _).grownNew g2 HO.out.above
      go_roundw
      case rel => exact ⟨t + 1, by omega, by rw [← HJ.out], by rw [HB.out, ← List.append_assoc]; exact ho2, hG2⟩
      case measure => simp [intOf]
    · obtain rfl : t = k := by omega
      have e : (bput n t).take t = bput n t := List.take_of_length_le (by rw [bput_len]; exact Nat.le_refl _)
      rw [e] at HO
      have R := Lib.hid HO.out
      obtain ⟨a2, c2, hv2, -, -⟩ := HO.out.rb.form
      subst hv2
      go_wp2
      exact bodyPost_ret (v := .tuple #[.slice a2 (l ++ bput n t).length c2, .int .i64 0]) (by simp [results, Try.results104, go_sem]) rfl ⟨_, rfl, R.out, hgr⟩
theorem rput_yes {p : Nat → Prop} {v : Value} {l : List Nat} (n k : Nat) (w : World) (h : Rb p w v l) (hl : l.length ≤ 90000) (hk0 : 1 ≤ k) (hk1 : k ≤ 7) (hn : n < 256 ^ k) :
    Calls Try.prog 104 #[v, .int .i64 n, .int .i64 k] w fun e w' => ∃ v', e = .returned (.tuple #[v', .int .i64 0]) ∧ Rb (fun _ => True) w' v' (l ++ bput n k) ∧ Gr w w' := by
  refine (rput_own n k w h hl hk0 hk1 hn).mono ?_
  rintro e w' ⟨v', rfl, ho, hg⟩
  exact ⟨v', rfl, ho.rb.any, hg⟩
theorem rput_no (a : Option Addr) (len cap : Nat) (n k : Int) (w : World) (h : ¬ ((1 ≤ k ∧ k ≤ 7) ∧ 0 ≤ n ∧ n < (256 ^ k.toNat : Nat))) :
    Calls Try.prog 104 #[.slice a len cap, .int .i64 n, .int .i64 k] w fun e w' => e = .returned (.tuple #[.slice none 0 0, .int .i64 1]) ∧ w = w' := by
  by_cases h1 : k < 1
  · have d1 : decide (k < 1) = true := by simpa using h1
    clear h
    go_enter Try.func104, Try.ntmps104
    go_wp2
    go_ret2
    exact ⟨rfl, rfl⟩
  have d1 : decide (k < 1) = false := by simpa using h1
  by_cases h2 : 7 < k
  · have d2 : decide (7 < k) = true := by simpa using h2
    clear h
    go_enter Try.func104, Try.ntmps104
    go_wp2
    go_ret2
    exact ⟨rfl, rfl⟩
  have d2 : decide (7 < k) = false := by simpa using h2
  by_cases hn : n < 0
  · have d3 : decide (n < 0) = true := by simpa using hn
    clear h
    go_enter Try.func104, Try.ntmps104
    go_wp2
    go_ret2
    exact ⟨rfl, rfl⟩
  have d3 : decide (n < 0) = false := by simpa using hn
  obtain ⟨n, rfl⟩ := Int.eq_ofNat_of_zero_le (show 0 ≤ n by omega)
  obtain ⟨k, rfl⟩ := Int.eq_ofNat_of_zero_le (show 0 ≤ k by omega)
  have hp7 := pow_256_le (k := k) (by omega)
  have hsh := wrap_pow (k := k) (by omega)
  have hge : 256 ^ k ≤ n := by
    rcases Nat.lt_or_ge n (256 ^ k) with h2 | h2
    · exact absurd ⟨⟨by omega, by omega⟩, by omega, by simpa using (by exact_mod_cast h2)⟩ h
    · exact h2
  clear h
  generalize 256 ^ k = P at *
  have d4 : decide ((P : Int) ≤ (n : Int)) = true := by rw [decide_eq_true_eq]; omega
  have d5 : decide (P ≤ n) = true := by simpa using hge
  go_enter Try.func104, Try.ntmps104
  go_wp2
  go_ret2
  exact ⟨rfl, rfl⟩
theorem rput_any {p : Nat → Prop} {v : Value} {l : List Nat} (n k : Int) (w : World) (h : Rb p w v l) (hl : l.length ≤ 90000) :
    Calls Try.prog 104 #[v, .int .i64 n, .int .i64 k] w (PtPost w l n k) := by
  by_cases hr : (1 ≤ k ∧ k ≤ 7) ∧ 0 ≤ n ∧ n < (256 ^ k.toNat : Nat)
  · obtain ⟨n, rfl⟩ := Int.eq_ofNat_of_zero_le hr.2.1
    obtain ⟨k, rfl⟩ := Int.eq_ofNat_of_zero_le (show 0 ≤ k by omega)
    refine (rput_yes n k w h hl (by omega) (by omega) (by have := hr.2.2; rw [Int.toNat_natCast] at this; omega)).mono ?_
    rintro e w' ⟨v', rfl, hv, hg⟩
    exact ⟨v', 0, rfl, .inl ⟨hr, rfl, hv⟩, hg⟩
  · obtain ⟨a, cap, rfl, -, -⟩ := h.form
    refine (rput_no a _ cap n k w hr).mono ?_
    rintro e w' ⟨rfl, rfl⟩
    exact ⟨_, 1, rfl, .inr ⟨hr, rfl, rfl⟩, Gr.refl _⟩
end Go.Proofs.Ytlkhdbgknkjioaa
