/- The walk of the statement on binomial coefficients. -/
import Derived.Test.YtgfgfgmdcicdcaaNch
import Derived.Test.YtgfgfgmdcicdcaaNring
import Derived.WalkKit
import Derived.WalkSpells
import Derived.WalkLawsBesides
import Derived.WalkSmall
import Derived.Handy
import Derived.BigQuiet
import Derived.Deep.QuietTactic
import Derived.Deep.RegionHeld3
import Derived.Deep.DeepFit
import Derived.Below
import Derived.Lib.Hide
import Derived.Lib.QuietBelow
import Derived.Deep.DeepCutAuto
namespace Go.Proofs.Ytgfgfgmdcicdcaa
open Go Go.RowKit Go.Sort
set_option maxRecDepth 100000

theorem choose_int (n k : Int) (N K : Nat) (w : World) (hn : n = N) (hk : k = K) (hN : N ≤ 1024) (hK : K ≤ 1024) : Calls Try.prog 19 #[.int .i64 n, .int .i64 k] w (ChPost w (bin N K)) := by
  subst hn hk; exact choose_any N K w hN hK
set_option maxHeartbeats 4000000 in
theorem pascal_walk (a b : Nat) (w : World) (ha : a < 65536) (hb : b < 65536) :
    Calls Try.prog 6 #[.int .u16 a, .int .u16 b] w fun e w' => e = .returned (.bool true) ∧ Gr w w' := by
  obtain ⟨I, hI⟩ : ∃ I : Nat, I = a % 300 := ⟨_, rfl⟩
  obtain ⟨J, hJ⟩ : ∃ J : Nat, J = b % 301 := ⟨_, rfl⟩
  have e1 : (a : Int) % 300 = (I : Int) := by omega
  have e2 : (b : Int) % 301 = (J : Int) := by omega
  have hI1 : I < 300 := by omega
  have hJ1 : J < 301 := by omega
  have a1 : (a : Int) < 65536 := by omega
  have b1 : (b : Int) < 65536 := by omega
  have i1 : (I : Int) < 300 := by omega
  have j1 : (J : Int) < 301 := by omega
  clear hI hJ
  have l1 := bin_len (n := I) J (by omega)
  have l2 := bin_len (n := I) (J - 1) (by omega)
  have l3 := bin_len (n := I + 1) J (by omega)
  by_cases hj : 0 < J
  · have dj : decide (0 < J) = true := by simpa using hj
    have E : bin I J + bin I (J - 1) = bin (I + 1) J := by
      obtain ⟨k, rfl⟩ : ∃ k, J = k + 1 := ⟨J - 1, by omega⟩
      rw [bin_succ, Nat.add_comm]; rfl
    have HE := Lib.hid E
    clear E
    go_enter Try.func6, Try.ntmps6
    go_wp2_with (go_at_call 8; refine (awake_any _).mono ?_; rintro e w1 ⟨rfl, hg1⟩)
    have hG := hg1
    have hN := Nums.nil w1
    clear hg1
    go_wp2_with fail
    refine (choose_int _ _ (I+1) J _ (by omega) (by omega) (by omega) (by omega)).mono ?_
    rintro e ws ⟨vx, rfl, hn, hg⟩
    have hN := (hN.gr hg).cons hn
    have hG := hG.step hg
    clear hn hg
    go_wp2_with fail
    refine (choose_int _ _ I J _ (by omega) (by omega) (by omega) (by omega)).mono ?_
    rintro e ws ⟨vy, rfl, hn, hg⟩
    have hN := (hN.gr hg).cons hn
    have hG := hG.step hg
    clear hn hg
    go_wp2_with fail
    refine (choose_int _ _ I (J-1) _ (by omega) (by omega) (by omega) (by omega)).mono ?_
    rintro e ws ⟨vz, rfl, hn, hg⟩
    have hN := (hN.gr hg).cons hn
    have hG := hG.step hg
    clear hn hg
    go_wp2_with fail
    refine (add_ok (A := bin I J) (B := (bin I (J - 1))) vy vz _ (hN.get vy (bin I J) (by simp)) (hN.get vz (bin I (J - 1)) (by simp)) (by omega) (by omega)).mono ?_
    rintro e ws ⟨vs, rfl, hn, hg⟩
    have hN := (hN.gr hg).cons hn
    have hG := hG.step hg
    clear hn hg
    go_wp2_with fail
    refine (num_same (A := bin I J + (bin I (J - 1))) (B := bin (I + 1) J) vs vx _ (hN.get vs (bin I J + (bin I (J - 1))) (by simp)) (hN.get vx (bin (I + 1) J) (by simp)) HE.out (by rw [HE.out]; omega)).mono ?_
    rintro e ws ⟨rfl, hg⟩
    have hN := hN.gr hg
    have hG := hG.step hg
    clear hg
    by_cases hji : I + 1 < J
    · have d2 : (1 : Int) + (I : Int) < (J : Int) := by omega
      have hx := hN.get vx (bin (I + 1) J) (by simp)
      rw [bin_gt hji] at hx
      unfold Num at hx
      rw [nd_zero] at hx
      obtain ⟨ax, xcap, rfl, -, -, -⟩ := hx
      go_wp2_with fail
      go_ret
      exact ⟨rfl, hG⟩
    · have d2 : decide ((1 : Int) + (I : Int) < (J : Int)) = false := by rw [decide_eq_false_iff_not]; omega
      have Hji := Lib.hid hji
      clear hji
      have hJI : J ≤ I + 1 := by have := Hji.out; omega
      go_wp2_with fail
      refine (choose_int _ _ (I+1) (I+1-J) _ (by omega) (by omega) (by omega) (by omega)).mono ?_
      rintro e ws ⟨vm, rfl, hn, hg⟩
      have hN := (hN.gr hg).cons hn
      have hG := hG.step hg
      clear hn hg
      go_wp2_with fail
      refine (num_same (A := bin (I + 1) (I + 1 - J)) (B := bin (I + 1) J) vm vx _ (hN.get vm (bin (I + 1) (I + 1 - J)) (by simp)) (hN.get vx (bin (I + 1) J) (by simp)) (bin_symm (I + 1) J (by omega)).symm (by have := bin_len (n := I + 1) (I + 1 - J) (by omega); omega)).mono ?_
      rintro e ws ⟨rfl, hg⟩
      go_wp2_with fail
      go_ret
      exact ⟨rfl, hG.step hg⟩
  · have dj : decide (0 < J) = false := by simpa using hj
    have E : bin I J + 0 = bin (I + 1) J := by
      obtain rfl : J = 0 := by omega
      rw [bin_zero, bin_zero]
    have HE := Lib.hid E
    clear E
    go_enter Try.func6, Try.ntmps6
    go_wp2_with (go_at_call 8; refine (awake_any _).mono ?_; rintro e w1 ⟨rfl, hg1⟩)
    have hG := hg1
    have hN := Nums.nil w1
    clear hg1
    go_wp2_with fail
    refine (choose_int _ _ (I+1) J _ (by omega) (by omega) (by omega) (by omega)).mono ?_
    rintro e ws ⟨vx, rfl, hn, hg⟩
    have hN := (hN.gr hg).cons hn
    have hG := hG.step hg
    clear hn hg
    go_wp2_with fail
    refine (choose_int _ _ I J _ (by omega) (by omega) (by omega) (by omega)).mono ?_
    rintro e ws ⟨vy, rfl, hn, hg⟩
    have hN := (hN.gr hg).cons hn
    have hG := hG.step hg
    clear hn hg
    go_wp2_with fail
    refine (add_ok (A := bin I J) (B := 0) vy (.slice none 0 0) _ (hN.get vy (bin I J) (by simp)) (Num.nil _) (by omega) (by rw [nd_zero]; simp)).mono ?_
    rintro e ws ⟨vs, rfl, hn, hg⟩
    have hN := (hN.gr hg).cons hn
    have hG := hG.step hg
    clear hn hg
    go_wp2_with fail
    refine (num_same (A := bin I J + 0) (B := bin (I + 1) J) vs vx _ (hN.get vs (bin I J + 0) (by simp)) (hN.get vx (bin (I + 1) J) (by simp)) HE.out (by rw [HE.out]; omega)).mono ?_
    rintro e ws ⟨rfl, hg⟩
    have hN := hN.gr hg
    have hG := hG.step hg
    clear hg
    by_cases hji : I + 1 < J
    · have d2 : (1 : Int) + (I : Int) < (J : Int) := by omega
      have hx := hN.get vx (bin (I + 1) J) (by simp)
      rw [bin_gt hji] at hx
      unfold Num at hx
      rw [nd_zero] at hx
      obtain ⟨ax, xcap, rfl, -, -, -⟩ := hx
      go_wp2_with fail
      go_ret
      exact ⟨rfl, hG⟩
    · have d2 : decide ((1 : Int) + (I : Int) < (J : Int)) = false := by rw [decide_eq_false_iff_not]; omega
      have Hji := Lib.hid hji
      clear hji
      have hJI : J ≤ I + 1 := by have := Hji.out; omega
      go_wp2_with fail
      refine (choose_int _ _ (I+1) (I+1-J) _ (by omega) (by omega) (by omega) (by omega)).mono ?_
      rintro e ws ⟨vm, rfl, hn, hg⟩
      have hN := (hN.gr hg).cons hn
      have hG := hG.step hg
      clear hn hg
      go_wp2_with fail
      refine (num_same (A := bin (I + 1) (I + 1 - J)) (B := bin (I + 1) J) vm vx _ (hN.get vm (bin (I + 1) (I + 1 - J)) (by simp)) (hN.get vx (bin (I + 1) J) (by simp)) (bin_symm (I + 1) J (by omega)).symm (by have := bin_len (n := I + 1) (I + 1 - J) (by omega); omega)).mono ?_
      rintro e ws ⟨rfl, hg⟩
      go_wp2_with fail
      go_ret
      exact ⟨rfl, hG.step hg⟩
end Go.Proofs.Ytgfgfgmdcicdcaa
