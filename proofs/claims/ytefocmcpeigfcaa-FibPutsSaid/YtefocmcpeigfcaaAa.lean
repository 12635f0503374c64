/- Chapter 1's numbers: prefixes that are valid, contain an address, and compare, both sides. -/
import Derived.Test.YtefocmcpeigfcaaGr
import Derived.WalkKit
import Derived.WalkSpells
import Derived.WalkLawsBesides
import Derived.WalkSmall
import Derived.Handy
import Derived.BigQuiet
import Derived.Deep.QuietTactic
import Derived.Deep.RegionHeld3
import Derived.Deep.DeepFit
import Derived.Below
import Derived.Lib.Hide
import Derived.Lib.QuietBelow
import Derived.Laws.Rows
import Derived.Laws.BitsAllLaws
import Derived.Lib.BitFns
import Derived.StillTailTactics
namespace Go.Proofs.Ytefocmcpeigfcaa
open Go Go.RowKit Go.Sort
set_option maxRecDepth 100000
set_option linter.unusedVariables false
/-- The number of addresses of a prefix of n bits. -/
def sz (n : Int) : Int := ((2 ^ (32 - n.toNat) : Nat) : Int)
theorem sz_pos (n : Int) : 1 ≤ sz n := by unfold sz; have := Nat.pow_pos (n := 32 - n.toNat) (show 0 < 2 by omega); omega
theorem sz_le (n : Int) : sz n ≤ 4294967296 := by
  unfold sz
  have := Nat.pow_le_pow_right (show 0 < 2 by omega) (show 32 - n.toNat ≤ 32 by omega)
  omega
theorem after_eq (n : Int) (h0 : 0 ≤ n) (h1 : n ≤ 32) : (4294967295 : Int) / 2 ^ n.toNat = sz n - 1 := by
  obtain ⟨k, rfl⟩ := Int.eq_ofNat_of_zero_le h0
  have hk : k ≤ 32 := by omega
  have H : ∀ k : Nat, k ≤ 32 → (4294967295 : Int) / 2 ^ (k : Int).toNat = sz k - 1 := by decide +kernel
  exact H k hk
theorem size_eq (n : Int) (h0 : 0 ≤ n) (h1 : n ≤ 32) : (1 : Int) * 2 ^ (32 - n).toNat = sz n := by
  obtain ⟨k, rfl⟩ := Int.eq_ofNat_of_zero_le h0
  have H : ∀ k : Nat, k ≤ 32 → (1 : Int) * 2 ^ (32 - (k : Int)).toNat = sz k := by decide +kernel
  exact H k (by omega)
/-- a prefix of n bits that begins at a is valid. -/
def vld (a n : Int) : Bool := decide (0 ≤ n ∧ n ≤ 32 ∧ a % sz n = 0)
theorem vld_iff {a n : Int} : vld a n = true ↔ 0 ≤ n ∧ n ≤ 32 ∧ a % sz n = 0 := by simp [vld]
theorem vld_no {a n : Int} (h : n < 0 ∨ 32 < n) : vld a n = false := by
  simp only [vld, decide_eq_false_iff_not]; omega
theorem and_after (a n : Int) (ha : 0 ≤ a) (ha1 : a < 4294967296) : bits .and .u32 a (sz n - 1) = a % sz n := by
  have h1 := sz_pos n
  have h2 := sz_le n
  rw [u32_and a (sz n - 1) ha ha1 (by omega) (by omega)]
  have e : (sz n - 1).toNat = 2 ^ (32 - n.toNat) - 1 := by unfold sz; have := Nat.pow_pos (n := 32 - n.toNat) (show 0 < 2 by omega); omega
  rw [e, Nat.and_two_pow_sub_one_eq_mod]
  have : ((a.toNat % 2 ^ (32 - n.toNat) : Nat) : Int) = (a.toNat : Int) % ((2 ^ (32 - n.toNat) : Nat) : Int) := by simp
  rw [this, Int.toNat_of_nonneg ha]; rfl
theorem nat_andNot (x : Nat) : ∀ (k m : Nat), k ≤ m → x < 2 ^ m → x &&& (2 ^ m - 1 - (2 ^ k - 1)) = x - x % 2 ^ k := by
  intro k m hk hx
  apply Nat.eq_of_testBit_eq
  intro i
  have e : 2 ^ m - 1 - (2 ^ k - 1) = 2 ^ m - ((2 ^ k - 1) + 1) := by omega
  have hp := Nat.pow_pos (n := k) (show 0 < 2 by omega)
  have hle := Nat.pow_le_pow_right (show 0 < 2 by omega) hk
  have e2 : x - x % 2 ^ k = (x / 2 ^ k) * 2 ^ k := by have := Nat.div_add_mod x (2 ^ k); rw [Nat.mul_comm] at this; omega
  rw [e, e2, Nat.testBit_and, Nat.testBit_two_pow_sub_succ (by omega), Nat.testBit_two_pow_sub_one, Nat.testBit_mul_two_pow, Nat.testBit_div_two_pow]
  by_cases hik : k ≤ i
  · have : ¬ i < k := by omega
    have e3 : i - k + k = i := by omega
    simp only [hik, this, decide_true, decide_false, Bool.not_false, Bool.and_true, Bool.true_and]
    rw [e3]
    by_cases him : i < m
    · simp [him]
    · have hxi : x.testBit i = false := Nat.testBit_lt_two_pow (Nat.lt_of_lt_of_le hx (Nat.pow_le_pow_right (by omega) (by omega)))
      simp [hxi]
  · have : i < k := by omega
    simp [hik, this]
theorem andNot_after (a n : Int) (ha : 0 ≤ a) (ha1 : a < 4294967296) : bits .andNot .u32 a (sz n - 1) = a - a % sz n := by
  have h1 := sz_pos n
  have h2 := sz_le n
  rw [u32_andNot a (sz n - 1) ha ha1 (by omega) (by omega)]
  have e : (sz n - 1).toNat = 2 ^ (32 - n.toNat) - 1 := by unfold sz; have := Nat.pow_pos (n := 32 - n.toNat) (show 0 < 2 by omega); omega
  have := nat_andNot a.toNat (32 - n.toNat) 32 (by omega) (by omega)
  rw [e]
  simp only [show (2 : Nat) ^ 32 - 1 = 4294967295 by decide] at this
  rw [this]
  have hm : ((a.toNat % 2 ^ (32 - n.toNat) : Nat) : Int) = a % sz n := by
    have : ((a.toNat % 2 ^ (32 - n.toNat) : Nat) : Int) = (a.toNat : Int) % ((2 ^ (32 - n.toNat) : Nat) : Int) := by simp
    rw [this, Int.toNat_of_nonneg ha]; rfl
  have hl := Nat.mod_le a.toNat (2 ^ (32 - n.toNat))
  omega
theorem valid_room (a n : Int) (ha1 : a < 4294967296) (h : a % sz n = 0) : a + sz n ≤ 4294967296 := by
  -- both are multiples of sz n
  have h1 := sz_pos n
  have hd : (4294967296 : Int) % sz n = 0 := by
    unfold sz
    have : (2 : Nat) ^ 32 % 2 ^ (32 - n.toNat) = 0 := Nat.mod_eq_zero_of_dvd (Nat.pow_dvd_pow 2 (by omega))
    have e : ((2 ^ 32 % 2 ^ (32 - n.toNat) : Nat) : Int) = (4294967296 : Int) % ((2 ^ (32 - n.toNat) : Nat) : Int) := by simp
    rw [← e, this]; rfl
  have hq := Int.mul_ediv_add_emod a (sz n)
  have hq2 := Int.mul_ediv_add_emod 4294967296 (sz n)
  rw [h] at hq; rw [hd] at hq2
  generalize sz n = s at *
  generalize a / s = x at *
  generalize (4294967296 : Int) / s = y at *
  have hxy : x < y := by
    apply Decidable.byContradiction; intro hc
    have : s * y ≤ s * x := Int.mul_le_mul_of_nonneg_left (by omega) (by omega)
    omega
  have : s * (x + 1) ≤ s * y := Int.mul_le_mul_of_nonneg_left (by omega) (by omega)
  rw [Int.mul_add] at this
  omega
/-- the prefix of n bits at a contains x. -/
def ctn (a n x : Int) : Bool := vld a n && decide (a ≤ x ∧ x < a + sz n)
theorem ctn_iff {a n x : Int} : ctn a n x = true ↔ vld a n = true ∧ a ≤ x ∧ x < a + sz n := by simp [ctn]
theorem ctn_no {a n x : Int} (h : vld a n = false) : ctn a n x = false := by simp [ctn, h]
theorem ctn_mask {a n x : Int} (h : vld a n = true) : (x - x % sz n == a) = ctn a n x := by
  rw [Bool.eq_iff_iff, ctn_iff, beq_iff_eq]
  have ⟨_, _, hm⟩ := vld_iff.1 h
  have h1 := sz_pos n
  have hq := Int.mul_ediv_add_emod a (sz n)
  have hqx := Int.mul_ediv_add_emod x (sz n)
  have hx0 := Int.emod_nonneg x (show sz n ≠ 0 by omega)
  have hx1 := Int.emod_lt_of_pos x (show 0 < sz n by omega)
  rw [hm] at hq
  constructor
  · intro e; exact ⟨h, by omega, by omega⟩
  · rintro ⟨_, h2, h3⟩
    generalize sz n = s at *
    generalize a / s = u at *
    generalize x / s = v at *
    have : u = v := by
      rcases Int.lt_trichotomy u v with hlt | he | hgt
      · have : s * (u + 1) ≤ s * v := Int.mul_le_mul_of_nonneg_left (by omega) (by omega)
        rw [Int.mul_add] at this; omega
      · exact he
      · have : s * (v + 1) ≤ s * u := Int.mul_le_mul_of_nonneg_left (by omega) (by omega)
        rw [Int.mul_add] at this; omega
    subst this; omega
/-- p covers q -/
def cvs (a n b m : Int) : Bool := vld b m && (ctn a n b && decide (n ≤ m))
/-- the order of two numbers, and of two prefixes. -/
def ord (x y : Int) : Int := if x < y then -1 else if y < x then 1 else 0
def cmpp (a n b m : Int) : Int := if a = b then ord n m else ord a b
theorem ord_lt {x y : Int} (h : x < y) : ord x y = -1 := by simp [ord, h]
theorem ord_gt {x y : Int} (h : y < x) : ord x y = 1 := by unfold ord; rw [if_neg (by omega), if_pos h]
theorem ord_eq {x y : Int} (h : x = y) : ord x y = 0 := by unfold ord; rw [if_neg (by omega), if_neg (by omega)]
theorem sz_mono {n m : Int} (h : n ≤ m) : sz m ≤ sz n := by
  unfold sz
  have := Nat.pow_le_pow_right (show 0 < 2 by omega) (show 32 - m.toNat ≤ 32 - n.toNat by omega)
  omega
theorem sz_dvd {n m : Int} (h : n ≤ m) (x : Int) (hx : x % sz n = 0) : x % sz m = 0 := by
  have hd : (sz m : Int) ∣ sz n := by
    unfold sz; exact Int.natCast_dvd_natCast.2 (Nat.pow_dvd_pow 2 (by omega))
  exact Int.emod_eq_zero_of_dvd (Int.dvd_trans hd (Int.dvd_of_emod_eq_zero hx))
theorem cvs_le {a n b m : Int} (h : vld b m = true) (h2 : n ≤ m) : cvs a n b m = ctn a n b := by simp [cvs, h, h2]
theorem quo_sz (a n : Int) : a / sz n * sz n = a - a % sz n := by
  have := Int.mul_ediv_add_emod a (sz n)
  rw [Int.mul_comm] at this; omega
theorem mod_sz (a n : Int) (ha : 0 ≤ a) : 0 ≤ a % sz n ∧ a % sz n ≤ a := by
  have h := sz_pos n
  refine ⟨Int.emod_nonneg _ (by omega), ?_⟩
  have e := quo_sz a n
  have : 0 ≤ a / sz n * sz n := Int.mul_nonneg (Int.ediv_nonneg ha (by omega)) (by omega)
  omega
theorem mult_lt {s a b : Int} (hs : 0 < s) (ha : a % s = 0) (hb : b % s = 0) (h : a < b + s) : a ≤ b := by
  have ea := Int.mul_ediv_add_emod a s
  have eb := Int.mul_ediv_add_emod b s
  rw [ha] at ea; rw [hb] at eb
  generalize a / s = x at *
  generalize b / s = y at *
  apply Decidable.byContradiction; intro hc
  have hlt : y < x := by
    apply Decidable.byContradiction; intro h2
    have : s * x ≤ s * y := Int.mul_le_mul_of_nonneg_left (by omega) (by omega)
    omega
  have : s * (y + 1) ≤ s * x := Int.mul_le_mul_of_nonneg_left (by omega) (by omega)
  rw [Int.mul_add] at this
  omega
theorem overlap_one (a n b m : Int) (hp : vld a n = true) (hq : vld b m = true) (h : n ≤ m) (h1 : a ≤ b + (sz m - 1)) (h2 : b ≤ a + (sz n - 1)) : cvs a n b m = true := by
  have ⟨n0, n1, nm⟩ := vld_iff.1 hp
  have ⟨m0, m1, mm⟩ := vld_iff.1 hq
  have hs := sz_pos m
  have := mult_lt (by omega) (sz_dvd h a nm) mm (show a < b + sz m by omega)
  rw [cvs_le hq h, ctn_iff]
  exact ⟨hp, this, by omega⟩
theorem after_any (n : Int) (w : World) (h0 : 0 ≤ n) (h1 : n ≤ 32) :
    Calls Try.prog 41 #[.int .i64 n] w fun e w' => e = .returned (.int .u32 (sz n - 1)) ∧ w = w' := by
  go_enter Try.func41, Try.ntmps41
  go_wp2
  go_ret
  exact ⟨ret_int (after_eq n h0 h1), rfl⟩
theorem size_any (n : Int) (w : World) (h0 : 0 ≤ n) (h1 : n ≤ 32) :
    Calls Try.prog 40 #[.int .i64 n] w fun e w' => e = .returned (.int .i64 (sz n)) ∧ w = w' := by
  go_enter Try.func40, Try.ntmps40
  go_wp2
  go_ret
  exact ⟨ret_int (by have e := size_eq n h0 h1; have := sz_le n; have := sz_pos n; rw [Int.one_mul] at e; rw [e]; exact IntWalk.wrap64_in _ ⟨by omega, by omega⟩), rfl⟩
/-- Valid, the landed one and the document's. -/
theorem valid_any (a n : Int) (w : World) (h0 : 0 ≤ a) (h1 : a < 4294967296) :
    Calls Try.prog 27 #[.agg #[.int .u32 a, .int .i64 n]] w fun e w' => e = .returned (.bool (vld a n)) ∧ Gr w w' := by
  by_cases hlo : n < 0
  · have hd : decide (0 ≤ n) = false := by simpa using hlo
    have hv := Lib.hid (vld_no (a := a) (Or.inl hlo))
    go_enter Try.func27, Try.ntmps27
    go_wp2
    go_quiet (fail)
    go_wp2
    go_ret
    exact ⟨ret_bool hv.out.symm, (by repeat' (first | (with_reducible exact Gr.refl _) | (with_reducible assumption) | (with_reducible refine Gr.drewN ?_ _) | (with_reducible refine Gr.drew ?_) | (with_reducible refine Gr.alloc ?_ _) | (with_reducible refine Gr.setCell ?_ ?_ _) | (with_reducible refine Gr.grow ?_ _ _) | (refine Gr.step ?_ (by with_reducible assumption)) | go_size))⟩
  by_cases hhi : 32 < n
  · have hd : decide (0 ≤ n) = true := by simpa using hlo
    have hd2 : decide (n ≤ 32) = false := by simpa using hhi
    have hv := Lib.hid (vld_no (a := a) (Or.inr hhi))
    go_enter Try.func27, Try.ntmps27
    go_wp2
    go_quiet (fail)
    go_wp2
    go_ret
    exact ⟨ret_bool hv.out.symm, (by repeat' (first | (with_reducible exact Gr.refl _) | (with_reducible assumption) | (with_reducible refine Gr.drewN ?_ _) | (with_reducible refine Gr.drew ?_) | (with_reducible refine Gr.alloc ?_ _) | (with_reducible refine Gr.setCell ?_ ?_ _) | (with_reducible refine Gr.grow ?_ _ _) | (refine Gr.step ?_ (by with_reducible assumption)) | go_size))⟩
  · have g0 : 0 ≤ n := by omega
    have g1 : n ≤ 32 := by omega
    have hd : decide (0 ≤ n) = true := by simpa using hlo
    have hd2 : decide (n ≤ 32) = true := by simpa using hhi
    have hv : (bits .and .u32 a (sz n - 1) == 0) = vld a n := by
      rw [and_after a n h0 h1, Bool.eq_iff_iff, vld_iff, beq_iff_eq]; omega
    have Hv := Lib.hid hv; clear hv
    go_enter Try.func27, Try.ntmps27
    go_wp2
    go_quiet ((go_at_call 41; exact Calls.quiet_of_same ((after_any n _ g0 g1).mono fun e w' ⟨he, hw⟩ => ⟨he, hw.symm⟩)))
    go_wp2
    go_ret
    exact ⟨ret_bool Hv.out, (by repeat' (first | (with_reducible exact Gr.refl _) | (with_reducible assumption) | (with_reducible refine Gr.drewN ?_ _) | (with_reducible refine Gr.drew ?_) | (with_reducible refine Gr.alloc ?_ _) | (with_reducible refine Gr.setCell ?_ ?_ _) | (with_reducible refine Gr.grow ?_ _ _) | (refine Gr.step ?_ (by with_reducible assumption)) | go_size))⟩
theorem valid_yes (a n : Int) (w : World) (h0 : 0 ≤ a) (h1 : a < 4294967296) (hv : vld a n = true) :
    Calls Try.prog 27 #[.agg #[.int .u32 a, .int .i64 n]] w fun e w' => e = .returned (.bool true) ∧ Gr w w' := by
  rw [← hv]; exact valid_any a n w h0 h1
theorem valid_no (a n : Int) (w : World) (h0 : 0 ≤ a) (h1 : a < 4294967296) (hv : vld a n = false) :
    Calls Try.prog 27 #[.agg #[.int .u32 a, .int .i64 n]] w fun e w' => e = .returned (.bool false) ∧ Gr w w' := by
  rw [← hv]; exact valid_any a n w h0 h1
theorem ctn_any (a n x : Int) (w : World) (h0 : 0 ≤ a) (h1 : a < 4294967296) (x0 : 0 ≤ x) (x1 : x < 4294967296) :
    Calls Try.prog 36 #[.agg #[.int .u32 a, .int .i64 n], .int .u32 x] w fun e w' => e = .returned (.bool (ctn a n x)) ∧ Gr w w' := by
  obtain ⟨c0, c1⟩ := two_cells w (.int .u32 a) (.int .i64 n) 28
  by_cases hv : vld a n = true
  · have ⟨g0, g1, _⟩ := vld_iff.1 hv
    have E := Lib.hid (ctn_mask (x := x) hv)
    have A := Lib.hid (andNot_after x n x0 x1)
    have Hv := Lib.hid hv
    clear hv
    go_enter Try.func36, Try.ntmps36
    go_wp2_with fail
    refine wp_region_quiet_below (by kernel_rfl) (by kernel_rfl) ?_
    repeat (any_goals (first | go_big_quiet_step (first | (go_at_call 41; exact Calls.gr_same (after_any n _ g0 g1)) | (go_at_call 27; exact Calls.gr_of (valid_yes a n _ h0 h1 Hv.out))) | quiet_step (first | (go_at_call 41; exact Calls.gr_same (after_any n _ g0 g1)) | (go_at_call 27; exact Calls.gr_of (valid_yes a n _ h0 h1 Hv.out)))))
    refine wpQuiet_nil ?_
    intro _ hw'
    obtain ⟨⟨dq, osq⟩, hw''⟩ := hw'
    subst hw''
    go_wp2
    go_ret
    exact ⟨ret_bool (by rw [A.out]; exact E.out), (by repeat' (first | (with_reducible exact Gr.refl _) | (with_reducible assumption) | (with_reducible refine Gr.drewN ?_ _) | (with_reducible refine Gr.drew ?_) | (with_reducible refine Gr.alloc ?_ _) | (with_reducible refine Gr.setCell ?_ ?_ _) | (with_reducible refine Gr.grow ?_ _ _) | (refine Gr.step ?_ (by with_reducible assumption)) | go_size))⟩
  · have Hv := Lib.hid (show vld a n = false by simpa using hv)
    have E := Lib.hid (ctn_no (x := x) Hv.out)
    clear hv
    go_enter Try.func36, Try.ntmps36
    go_wp2_with fail
    refine wp_region_quiet_below (by kernel_rfl) (by kernel_rfl) ?_
    repeat (any_goals (first | go_big_quiet_step (first | (go_at_call 27; exact Calls.gr_of (valid_no a n _ h0 h1 Hv.out))) | quiet_step (first | (go_at_call 27; exact Calls.gr_of (valid_no a n _ h0 h1 Hv.out)))))
    refine wpQuiet_nil ?_
    intro _ hw'
    obtain ⟨⟨dq, osq⟩, hw''⟩ := hw'
    subst hw''
    go_wp2
    go_ret
    exact ⟨ret_bool E.out.symm, (by repeat' (first | (with_reducible exact Gr.refl _) | (with_reducible assumption) | (with_reducible refine Gr.drewN ?_ _) | (with_reducible refine Gr.drew ?_) | (with_reducible refine Gr.alloc ?_ _) | (with_reducible refine Gr.setCell ?_ ?_ _) | (with_reducible refine Gr.grow ?_ _ _) | (refine Gr.step ?_ (by with_reducible assumption)) | go_size))⟩
theorem rvalid_any (a n : Int) (w : World) (h0 : 0 ≤ a) (h1 : a < 4294967296) :
    Calls Try.prog 31 #[.agg #[.int .u32 a, .int .i64 n]] w fun e w' => e = .returned (.bool (vld a n)) ∧ Gr w w' := by
  by_cases hlo : n < 0
  · have hd : decide (0 ≤ n) = false := by simpa using hlo
    have hv := Lib.hid (vld_no (a := a) (Or.inl hlo))
    go_enter Try.func31, Try.ntmps31
    go_wp2
    go_quiet (fail)
    go_wp2
    go_ret
    exact ⟨ret_bool hv.out.symm, (by repeat' (first | (with_reducible exact Gr.refl _) | (with_reducible assumption) | (with_reducible refine Gr.drewN ?_ _) | (with_reducible refine Gr.drew ?_) | (with_reducible refine Gr.alloc ?_ _) | (with_reducible refine Gr.setCell ?_ ?_ _) | (with_reducible refine Gr.grow ?_ _ _) | (refine Gr.step ?_ (by with_reducible assumption)) | go_size))⟩
  by_cases hhi : 32 < n
  · have hd : decide (0 ≤ n) = true := by simpa using hlo
    have hd2 : decide (n ≤ 32) = false := by simpa using hhi
    have hv := Lib.hid (vld_no (a := a) (Or.inr hhi))
    go_enter Try.func31, Try.ntmps31
    go_wp2
    go_quiet (fail)
    go_wp2
    go_ret
    exact ⟨ret_bool hv.out.symm, (by repeat' (first | (with_reducible exact Gr.refl _) | (with_reducible assumption) | (with_reducible refine Gr.drewN ?_ _) | (with_reducible refine Gr.drew ?_) | (with_reducible refine Gr.alloc ?_ _) | (with_reducible refine Gr.setCell ?_ ?_ _) | (with_reducible refine Gr.grow ?_ _ _) | (refine Gr.step ?_ (by with_reducible assumption)) | go_size))⟩
  · have g0 : 0 ≤ n := by omega
    have g1 : n ≤ 32 := by omega
    have hd : decide (0 ≤ n) = true := by simpa using hlo
    have hd2 : decide (n ≤ 32) = true := by simpa using hhi
    have hs := sz_pos n
    have hs1 := sz_le n
    have hv : (a % sz n == 0) = vld a n := by
      rw [Bool.eq_iff_iff, vld_iff, beq_iff_eq]; omega
    have Hv := Lib.hid hv; clear hv
    go_enter Try.func31, Try.ntmps31
    go_wp2
    go_quiet ((go_at_call 40; exact Calls.quiet_of_same ((size_any n _ g0 g1).mono fun e w' ⟨he, hw⟩ => ⟨he, hw.symm⟩)))
    go_wp2
    go_ret
    exact ⟨ret_bool Hv.out, (by repeat' (first | (with_reducible exact Gr.refl _) | (with_reducible assumption) | (with_reducible refine Gr.drewN ?_ _) | (with_reducible refine Gr.drew ?_) | (with_reducible refine Gr.alloc ?_ _) | (with_reducible refine Gr.setCell ?_ ?_ _) | (with_reducible refine Gr.grow ?_ _ _) | (refine Gr.step ?_ (by with_reducible assumption)) | go_size))⟩
theorem rvalid_yes (a n : Int) (w : World) (h0 : 0 ≤ a) (h1 : a < 4294967296) (hv : vld a n = true) :
    Calls Try.prog 31 #[.agg #[.int .u32 a, .int .i64 n]] w fun e w' => e = .returned (.bool true) ∧ Gr w w' := by
  rw [← hv]; exact rvalid_any a n w h0 h1
theorem rvalid_no (a n : Int) (w : World) (h0 : 0 ≤ a) (h1 : a < 4294967296) (hv : vld a n = false) :
    Calls Try.prog 31 #[.agg #[.int .u32 a, .int .i64 n]] w fun e w' => e = .returned (.bool false) ∧ Gr w w' := by
  rw [← hv]; exact rvalid_any a n w h0 h1
theorem order_any (x y : Int) (w : World) :
    Calls Try.prog 45 #[.int .i64 x, .int .i64 y] w fun e w' => e = .returned (.int .i64 (ord x y)) ∧ w = w' := by
  rcases Int.lt_trichotomy x y with h | h | h
  · have E := Lib.hid (ord_lt h)
    go_enter Try.func45, Try.ntmps45
    go_wp2
    go_ret
    exact ⟨ret_int E.out.symm, rfl⟩
  · have E := Lib.hid (ord_eq h)
    have h1 : ¬ x < y := by omega
    have h2 : ¬ y < x := by omega
    clear h
    go_enter Try.func45, Try.ntmps45
    go_wp2
    go_ret
    exact ⟨ret_int E.out.symm, rfl⟩
  · have E := Lib.hid (ord_gt h)
    have h1 : ¬ x < y := by omega
    go_enter Try.func45, Try.ntmps45
    go_wp2
    go_ret
    exact ⟨ret_int E.out.symm, rfl⟩
theorem cmpA_any (x y : Int) (w : World) :
    Calls Try.prog 42 #[.int .u32 x, .int .u32 y] w fun e w' => e = .returned (.int .i64 (ord x y)) ∧ w = w' := by
  rcases Int.lt_trichotomy x y with h | h | h
  · have E := Lib.hid (ord_lt h)
    go_enter Try.func42, Try.ntmps42
    go_wp2
    go_ret
    exact ⟨ret_int E.out.symm, rfl⟩
  · have E := Lib.hid (ord_eq h)
    have h1 : ¬ x < y := by omega
    have h2 : ¬ y < x := by omega
    clear h
    go_enter Try.func42, Try.ntmps42
    go_wp2
    go_ret
    exact ⟨ret_int E.out.symm, rfl⟩
  · have E := Lib.hid (ord_gt h)
    have h1 : ¬ x < y := by omega
    go_enter Try.func42, Try.ntmps42
    go_wp2
    go_ret
    exact ⟨ret_int E.out.symm, rfl⟩
theorem cmpI_any (x y : Int) (w : World) :
    Calls Try.prog 43 #[.int .i64 x, .int .i64 y] w fun e w' => e = .returned (.int .i64 (ord x y)) ∧ w = w' := by
  rcases Int.lt_trichotomy x y with h | h | h
  · have E := Lib.hid (ord_lt h)
    go_enter Try.func43, Try.ntmps43
    go_wp2
    go_ret
    exact ⟨ret_int E.out.symm, rfl⟩
  · have E := Lib.hid (ord_eq h)
    have h1 : ¬ x < y := by omega
    have h2 : ¬ y < x := by omega
    clear h
    go_enter Try.func43, Try.ntmps43
    go_wp2
    go_ret
    exact ⟨ret_int E.out.symm, rfl⟩
  · have E := Lib.hid (ord_gt h)
    have h1 : ¬ x < y := by omega
    go_enter Try.func43, Try.ntmps43
    go_wp2
    go_ret
    exact ⟨ret_int E.out.symm, rfl⟩
theorem rbounds_no (a n : Int) (w : World) (h0 : 0 ≤ a) (h1 : a < 4294967296) (hv : vld a n = false) :
    Calls Try.prog 25 #[.agg #[.int .u32 a, .int .i64 n]] w fun e w' => e = .returned (.tuple #[.agg #[.int .u32 0, .int .u32 0], .int .i64 10]) ∧ Gr w w' := by
  have Hv := Lib.hid hv; clear hv
  go_enter Try.func25, Try.ntmps25
  go_wp2_with (go_at_call 31; refine (rvalid_no a n _ h0 h1 Hv.out).mono ?_; rintro e w1 ⟨rfl, hg1⟩; have hz := Gr.size hg1; simp at hz; obtain ⟨hc, hf⟩ := Gr.cells hg1; have hr0 : w1.cell? ⟨w.heap.size + 1, 0, none⟩ = some (.int .u32 0) := (by rw [hc _ _ (by go_size)]; first | (simp; done) | go_cell | (simp [go_sem]; done)); have hr1 : w1.cell? ⟨w.heap.size + 1, 1, none⟩ = some (.int .u32 0) := (by rw [hc _ _ (by go_size)]; first | (simp; done) | go_cell | (simp [go_sem]; done)))
  refine bodyPost_ret (v := .tuple #[.agg #[.int .u32 0, .int .u32 0], .int .i64 10]) (by simp [results, Try.results25, go_sem, hr0, hr1]) rfl ⟨?_, ?_⟩
  · rfl
  · exact (by repeat' (first | (with_reducible exact Gr.refl _) | (with_reducible assumption) | (with_reducible refine Gr.drewN ?_ _) | (with_reducible refine Gr.drew ?_) | (with_reducible refine Gr.alloc ?_ _) | (with_reducible refine Gr.setCell ?_ ?_ _) | (with_reducible refine Gr.grow ?_ _ _) | (refine Gr.step ?_ (by with_reducible assumption)) | go_size))
theorem rbounds_yes (a n : Int) (w : World) (h0 : 0 ≤ a) (h1 : a < 4294967296) (hv : vld a n = true) :
    Calls Try.prog 25 #[.agg #[.int .u32 a, .int .i64 n]] w fun e w' => e = .returned (.tuple #[.agg #[.int .u32 a, .int .u32 (a + (sz n - 1))], .int .i64 0]) ∧ Gr w w' := by
  have ⟨g0, g1, hm⟩ := vld_iff.1 hv
  have hr := valid_room a n h1 hm
  have hs := sz_pos n
  have hs2 := sz_le n
  have E0 : IntKind.u32.wrap (IntKind.i64.wrap (IntKind.i64.wrap (IntKind.i64.wrap a + sz n) - 1)) = a + (sz n - 1) := by go_arith
  have E := Lib.hid E0; clear E0
  have Hv := Lib.hid hv; clear hv hm
  go_enter Try.func25, Try.ntmps25
  go_wp2_with (go_at_call 31; refine (rvalid_yes a n _ h0 h1 Hv.out).mono ?_; rintro e w1 ⟨rfl, hg1⟩; have hz := Gr.size hg1; simp at hz; obtain ⟨hc, hf⟩ := Gr.cells hg1)
  have hcb0 : w1.cell? ⟨w.heap.size, 0, none⟩ = some (.int .u32 a) := (by rw [hc _ _ (by go_size)]; first | (simp; done) | go_cell | (simp [go_sem]; done))
  have hcb1 : w1.cell? ⟨w.heap.size, 1, none⟩ = some (.int .i64 n) := (by rw [hc _ _ (by go_size)]; first | (simp; done) | go_cell | (simp [go_sem]; done))
  have hr0 : w1.cell? ⟨w.heap.size + 1, 0, none⟩ = some (.int .u32 0) := (by rw [hc _ _ (by go_size)]; first | (simp; done) | go_cell | (simp [go_sem]; done))
  have hr1 : w1.cell? ⟨w.heap.size + 1, 1, none⟩ = some (.int .u32 0) := (by rw [hc _ _ (by go_size)]; first | (simp; done) | go_cell | (simp [go_sem]; done))
  go_region_held3 (fun w' => w'.cell? ⟨w.heap.size, 0, none⟩ = some (.int .u32 a) ∧ w'.cell? ⟨w.heap.size, 1, none⟩ = some (.int .i64 n))
      (first | go_keep)
      (first | (go_at_call 40; refine (size_any n _ g0 g1).mono ?_; rintro e w' ⟨rfl, rfl⟩))
  go_wp2
  refine bodyPost_ret (v := .tuple #[.agg #[.int .u32 a, .int .u32 (IntKind.u32.wrap (IntKind.i64.wrap (IntKind.i64.wrap (IntKind.i64.wrap a + sz n) - 1)))], .int .i64 0]) (by simp [results, Try.results25, go_sem, hr0, hr1]) rfl ⟨?_, ?_⟩
  · rw [E.out]
  · exact (by repeat' (first | (with_reducible exact Gr.refl _) | (with_reducible assumption) | (with_reducible refine Gr.drewN ?_ _) | (with_reducible refine Gr.drew ?_) | (with_reducible refine Gr.alloc ?_ _) | (with_reducible refine Gr.setCell ?_ ?_ _) | (with_reducible refine Gr.grow ?_ _ _) | (refine Gr.step ?_ (by with_reducible assumption)) | go_size))
/-- the document's Contains -/
theorem rctn_any (a n x : Int) (w : World) (h0 : 0 ≤ a) (h1 : a < 4294967296) :
    Calls Try.prog 23 #[.agg #[.int .u32 a, .int .i64 n], .int .u32 x] w fun e w' => e = .returned (.bool (ctn a n x)) ∧ Gr w w' := by
  by_cases hv : vld a n = true
  · have E : (decide (a ≤ x) && decide (x ≤ a + (sz n - 1))) = ctn a n x := by
      rw [Bool.eq_iff_iff, ctn_iff]; simp only [Bool.and_eq_true, decide_eq_true_eq, hv, true_and]; omega
    have Hv := Lib.hid hv; clear hv
    by_cases t1 : a ≤ x
    · have d1 : decide (a ≤ x) = true := by simpa using t1
      have E2 := Lib.hid E; clear E
      go_enter Try.func23, Try.ntmps23
      go_wp2_with (go_at_call 25; refine (rbounds_yes a n _ h0 h1 Hv.out).mono ?_; rintro e w1 ⟨rfl, hg1⟩; have hz := Gr.size hg1; simp at hz; obtain ⟨hc, hf⟩ := Gr.cells hg1)
      go_ret
      exact ⟨ret_bool (by rw [← E2.out, d1]; simp), (by repeat' (first | (with_reducible exact Gr.refl _) | (with_reducible assumption) | (with_reducible refine Gr.drewN ?_ _) | (with_reducible refine Gr.drew ?_) | (with_reducible refine Gr.alloc ?_ _) | (with_reducible refine Gr.setCell ?_ ?_ _) | (with_reducible refine Gr.grow ?_ _ _) | (refine Gr.step ?_ (by with_reducible assumption)) | go_size))⟩
    · have d1 : decide (a ≤ x) = false := by simpa using t1
      have E2 := Lib.hid E; clear E
      go_enter Try.func23, Try.ntmps23
      go_wp2_with (go_at_call 25; refine (rbounds_yes a n _ h0 h1 Hv.out).mono ?_; rintro e w1 ⟨rfl, hg1⟩; have hz := Gr.size hg1; simp at hz; obtain ⟨hc, hf⟩ := Gr.cells hg1)
      go_ret
      exact ⟨ret_bool (by rw [← E2.out, d1]; simp), (by repeat' (first | (with_reducible exact Gr.refl _) | (with_reducible assumption) | (with_reducible refine Gr.drewN ?_ _) | (with_reducible refine Gr.drew ?_) | (with_reducible refine Gr.alloc ?_ _) | (with_reducible refine Gr.setCell ?_ ?_ _) | (with_reducible refine Gr.grow ?_ _ _) | (refine Gr.step ?_ (by with_reducible assumption)) | go_size))⟩
  · have Hv := Lib.hid (show vld a n = false by simpa using hv)
    have E := Lib.hid (ctn_no (x := x) Hv.out)
    clear hv
    go_enter Try.func23, Try.ntmps23
    go_wp2_with (go_at_call 25; refine (rbounds_no a n _ h0 h1 Hv.out).mono ?_; rintro e w1 ⟨rfl, hg1⟩; have hz := Gr.size hg1; simp at hz; obtain ⟨hc, hf⟩ := Gr.cells hg1)
    go_ret
    exact ⟨ret_bool E.out.symm, (by repeat' (first | (with_reducible exact Gr.refl _) | (with_reducible assumption) | (with_reducible refine Gr.drewN ?_ _) | (with_reducible refine Gr.drew ?_) | (with_reducible refine Gr.alloc ?_ _) | (with_reducible refine Gr.setCell ?_ ?_ _) | (with_reducible refine Gr.grow ?_ _ _) | (refine Gr.step ?_ (by with_reducible assumption)) | go_size))⟩
theorem compare_any (a n b m : Int) (w : World) :
    Calls Try.prog 28 #[.agg #[.int .u32 a, .int .i64 n], .agg #[.int .u32 b, .int .i64 m]] w fun e w' => e = .returned (.int .i64 (cmpp a n b m)) ∧ Gr w w' := by
  by_cases hab : a = b
  · subst hab
    have E := Lib.hid (show cmpp a n a m = ord n m by simp [cmpp])
    have E1 := Lib.hid (ord_eq (rfl : a = a))
    go_enter Try.func28, Try.ntmps28
    go_wp2_with (first
      | (go_at_call 42; refine (cmpA_any _ _ _).mono ?_; rw [E1.out]; rintro e w' ⟨rfl, rfl⟩)
      | (go_at_call 43; refine (cmpI_any _ _ _).mono ?_; rintro e w' ⟨rfl, rfl⟩))
    go_ret
    exact ⟨ret_int E.out.symm, (by repeat' (first | (with_reducible exact Gr.refl _) | (with_reducible assumption) | (with_reducible refine Gr.drewN ?_ _) | (with_reducible refine Gr.drew ?_) | (with_reducible refine Gr.alloc ?_ _) | (with_reducible refine Gr.setCell ?_ ?_ _) | (with_reducible refine Gr.grow ?_ _ _) | (refine Gr.step ?_ (by with_reducible assumption)) | go_size))⟩
  · have E := Lib.hid (show cmpp a n b m = ord a b by simp [cmpp, hab])
    have t1 : (ord a b != 0) = true := by
      rcases Int.lt_or_gt_of_ne hab with h | h
      · rw [ord_lt h]; rfl
      · rw [ord_gt h]; rfl
    clear hab
    go_enter Try.func28, Try.ntmps28
    go_wp2_with (first
      | (go_at_call 42; refine (cmpA_any _ _ _).mono ?_; rintro e w' ⟨rfl, rfl⟩)
      | (go_at_call 43; refine (cmpI_any _ _ _).mono ?_; rintro e w' ⟨rfl, rfl⟩))
    go_ret
    exact ⟨ret_int E.out.symm, (by repeat' (first | (with_reducible exact Gr.refl _) | (with_reducible assumption) | (with_reducible refine Gr.drewN ?_ _) | (with_reducible refine Gr.drew ?_) | (with_reducible refine Gr.alloc ?_ _) | (with_reducible refine Gr.setCell ?_ ?_ _) | (with_reducible refine Gr.grow ?_ _ _) | (refine Gr.step ?_ (by with_reducible assumption)) | go_size))⟩
theorem rcompare_any (a n b m : Int) (w : World) (h0 : 0 ≤ a) (h1 : a < 4294967296) (b0 : 0 ≤ b) (b1 : b < 4294967296) :
    Calls Try.prog 32 #[.agg #[.int .u32 a, .int .i64 n], .agg #[.int .u32 b, .int .i64 m]] w fun e w' => e = .returned (.int .i64 (cmpp a n b m)) ∧ Gr w w' := by
  by_cases hab : a = b
  · subst hab
    have E := Lib.hid (show cmpp a n a m = ord n m by simp [cmpp])
    go_enter Try.func32, Try.ntmps32
    go_wp2_with (first
      | (go_at_call 45; refine (order_any _ _ _).mono ?_; rintro e w' ⟨rfl, rfl⟩))
    go_ret
    exact ⟨ret_int E.out.symm, (by repeat' (first | (with_reducible exact Gr.refl _) | (with_reducible assumption) | (with_reducible refine Gr.drewN ?_ _) | (with_reducible refine Gr.drew ?_) | (with_reducible refine Gr.alloc ?_ _) | (with_reducible refine Gr.setCell ?_ ?_ _) | (with_reducible refine Gr.grow ?_ _ _) | (refine Gr.step ?_ (by with_reducible assumption)) | go_size))⟩
  · have E := Lib.hid (show cmpp a n b m = ord a b by simp [cmpp, hab])
    have t1 : (a != b) = true := by simpa using hab
    clear hab
    go_enter Try.func32, Try.ntmps32
    go_wp2_with (first
      | (go_at_call 45; refine (order_any _ _ _).mono ?_; rintro e w' ⟨rfl, rfl⟩))
    go_ret
    exact ⟨ret_int E.out.symm, (by repeat' (first | (with_reducible exact Gr.refl _) | (with_reducible assumption) | (with_reducible refine Gr.drewN ?_ _) | (with_reducible refine Gr.drew ?_) | (with_reducible refine Gr.alloc ?_ _) | (with_reducible refine Gr.setCell ?_ ?_ _) | (with_reducible refine Gr.grow ?_ _ _) | (refine Gr.step ?_ (by with_reducible assumption)) | go_size))⟩
end Go.Proofs.Ytefocmcpeigfcaa
