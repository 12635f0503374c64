/- Several texts in one. -/
import Derived.WalkKit
import Derived.Laws.BitsAllLaws
import Derived.Lib.BitFns
import Derived.Lib.Bytealg
import Derived.Lib.IndexMore
import Derived.Lib.ItoaNum
import Derived.Lib.ItoaMem
import Derived.Test.YtjpjnbgfodlkcaaGreatDoorGAA
import Derived.Test.YtjpjnbgfodlkcaaGreatDoorShelf
import Derived.WalkSpells
import Derived.WalkLawsBesides
import Derived.WalkSmall
import Derived.Handy
import Derived.BigQuiet
import Derived.Deep.QuietTactic
import Derived.Deep.RegionHeld3
import Derived.Deep.DeepFit
import Derived.Below
import Derived.Lib.Hide
import Derived.Lib.QuietBelow
import Derived.Lib.Repeat
import Derived.Lib.TrimByte
import Derived.Lib.Join
import Derived.Lib.Atoi
/- Plain mathematics of addresses and prefixes: no program is read here. -/
namespace Go.Proofs.YtjpjnbgfodlkcaaGreatDoor
open Go Go.RowKit

/-- The number of addresses of a prefix of n bits. -/
def sz (n : Int) : Int := ((2 ^ (32 - n.toNat) : Nat) : Int)
theorem sz_pos (n : Int) : 1 ≤ sz n := by unfold sz; have := Nat.pow_pos (n := 32 - n.toNat) (show 0 < 2 by omega); omega
theorem sz_le (n : Int) : sz n ≤ 4294967296 := by
  unfold sz
  have := Nat.pow_le_pow_right (show 0 < 2 by omega) (show 32 - n.toNat ≤ 32 by omega)
  omega
theorem after_eq (n : Int) (h0 : 0 ≤ n) (h1 : n ≤ 32) : (4294967295 : Int) / 2 ^ n.toNat = sz n - 1 := by
  obtain ⟨k, rfl⟩ := Int.eq_ofNat_of_zero_le h0
  have hk : k ≤ 32 := by omega
  have H : ∀ k : Nat, k ≤ 32 → (4294967295 : Int) / 2 ^ (k : Int).toNat = sz k - 1 := by decide +kernel
  exact H k hk
theorem size_eq (n : Int) (h0 : 0 ≤ n) (h1 : n ≤ 32) : (1 : Int) * 2 ^ (32 - n).toNat = sz n := by
  obtain ⟨k, rfl⟩ := Int.eq_ofNat_of_zero_le h0
  have H : ∀ k : Nat, k ≤ 32 → (1 : Int) * 2 ^ (32 - (k : Int)).toNat = sz k := by decide +kernel
  exact H k (by omega)
theorem sz_half (n : Int) (h0 : 0 ≤ n) (h1 : n < 32) : sz n = 2 * sz (n + 1) := by
  obtain ⟨k, rfl⟩ := Int.eq_ofNat_of_zero_le h0
  have H : ∀ k : Nat, k < 32 → sz k = 2 * sz ((k : Int) + 1) := by decide +kernel
  exact H k (by omega)
theorem sz_32 : sz 32 = 1 := by decide +kernel
theorem sz_0 : sz 0 = 4294967296 := by decide +kernel

/-- a prefix of n bits that begins at a is valid. -/
def vld (a n : Int) : Bool := decide (0 ≤ n ∧ n ≤ 32 ∧ a % sz n = 0)
theorem vld_iff {a n : Int} : vld a n = true ↔ 0 ≤ n ∧ n ≤ 32 ∧ a % sz n = 0 := by simp [vld]
theorem vld_no {a n : Int} (h : n < 0 ∨ 32 < n) : vld a n = false := by
  simp only [vld, decide_eq_false_iff_not]; omega

theorem and_after (a n : Int) (ha : 0 ≤ a) (ha1 : a < 4294967296) : bits .and .u32 a (sz n - 1) = a % sz n := by
  have h1 := sz_pos n
  have h2 := sz_le n
  rw [u32_and a (sz n - 1) ha ha1 (by omega) (by omega)]
  have e : (sz n - 1).toNat = 2 ^ (32 - n.toNat) - 1 := by unfold sz; have := Nat.pow_pos (n := 32 - n.toNat) (show 0 < 2 by omega); omega
  rw [e, Nat.and_two_pow_sub_one_eq_mod]
  have : ((a.toNat % 2 ^ (32 - n.toNat) : Nat) : Int) = (a.toNat : Int) % ((2 ^ (32 - n.toNat) : Nat) : Int) := by simp
  rw [this, Int.toNat_of_nonneg ha]; rfl
theorem nat_andNot (x : Nat) : ∀ (k m : Nat), k ≤ m → x < 2 ^ m → x &&& (2 ^ m - 1 - (2 ^ k - 1)) = x - x % 2 ^ k := by
  intro k m hk hx
  apply Nat.eq_of_testBit_eq
  intro i
  have e : 2 ^ m - 1 - (2 ^ k - 1) = 2 ^ m - ((2 ^ k - 1) + 1) := by omega
  have hp := Nat.pow_pos (n := k) (show 0 < 2 by omega)
  have hle := Nat.pow_le_pow_right (show 0 < 2 by omega) hk
  have e2 : x - x % 2 ^ k = (x / 2 ^ k) * 2 ^ k := by have := Nat.div_add_mod x (2 ^ k); rw [Nat.mul_comm] at this; omega
  rw [e, e2, Nat.testBit_and, Nat.testBit_two_pow_sub_succ (by omega), Nat.testBit_two_pow_sub_one, Nat.testBit_mul_two_pow, Nat.testBit_div_two_pow]
  by_cases hik : k ≤ i
  · have : ¬ i < k := by omega
    have e3 : i - k + k = i := by omega
    simp only [hik, this, decide_true, decide_false, Bool.not_false, Bool.and_true, Bool.true_and]
    rw [e3]
    by_cases him : i < m
    · simp [him]
    · have hxi : x.testBit i = false := Nat.testBit_lt_two_pow (Nat.lt_of_lt_of_le hx (Nat.pow_le_pow_right (by omega) (by omega)))
      simp [hxi]
  · have : i < k := by omega
    simp [hik, this]
theorem andNot_after (a n : Int) (ha : 0 ≤ a) (ha1 : a < 4294967296) : bits .andNot .u32 a (sz n - 1) = a - a % sz n := by
  have h1 := sz_pos n
  have h2 := sz_le n
  rw [u32_andNot a (sz n - 1) ha ha1 (by omega) (by omega)]
  have e : (sz n - 1).toNat = 2 ^ (32 - n.toNat) - 1 := by unfold sz; have := Nat.pow_pos (n := 32 - n.toNat) (show 0 < 2 by omega); omega
  have := nat_andNot a.toNat (32 - n.toNat) 32 (by omega) (by omega)
  rw [e]
  simp only [show (2 : Nat) ^ 32 - 1 = 4294967295 by decide] at this
  rw [this]
  have hm : ((a.toNat % 2 ^ (32 - n.toNat) : Nat) : Int) = a % sz n := by
    have : ((a.toNat % 2 ^ (32 - n.toNat) : Nat) : Int) = (a.toNat : Int) % ((2 ^ (32 - n.toNat) : Nat) : Int) := by simp
    rw [this, Int.toNat_of_nonneg ha]; rfl
  have hl := Nat.mod_le a.toNat (2 ^ (32 - n.toNat))
  omega
theorem or_low (a b s : Int) (ha : 0 ≤ a) (ha1 : a < 4294967296) (hb : 0 ≤ b) (hb1 : b < 4294967296) (k : Nat) (hs : s = ((2 ^ k : Nat) : Int)) (hm : a % s = 0) (hbs : b < s) : bits .or .u32 a b = a + b := by
  rw [u32_or a b ha ha1 hb hb1, nat_join k a.toNat b.toNat ?_ ?_]
  · omega
  · have : ((a.toNat % 2 ^ k : Nat) : Int) = (a.toNat : Int) % ((2 ^ k : Nat) : Int) := by simp
    rw [Int.toNat_of_nonneg ha, ← hs, hm] at this; omega
  · subst hs; omega
theorem or_after (a n : Int) (ha : 0 ≤ a) (ha1 : a < 4294967296) (h : a % sz n = 0) : bits .or .u32 a (sz n - 1) = a + (sz n - 1) := by
  have h1 := sz_pos n
  have h2 := sz_le n
  exact or_low a (sz n - 1) (sz n) ha ha1 (by omega) (by omega) _ rfl h (by omega)
theorem after_diff (n : Int) (h0 : 0 ≤ n) (h1 : n < 32) : bits .andNot .u32 (sz n - 1) (sz (n + 1) - 1) = sz (n + 1) := by
  obtain ⟨k, rfl⟩ := Int.eq_ofNat_of_zero_le h0
  have H : ∀ k : Nat, k < 32 → bits .andNot .u32 (sz k - 1) (sz ((k : Int) + 1) - 1) = sz ((k : Int) + 1) := by decide +kernel
  exact H k (by omega)
theorem valid_room (a n : Int) (ha1 : a < 4294967296) (h : a % sz n = 0) : a + sz n ≤ 4294967296 := by
  -- both are multiples of sz n
  have h1 := sz_pos n
  have hd : (4294967296 : Int) % sz n = 0 := by
    unfold sz
    have : (2 : Nat) ^ 32 % 2 ^ (32 - n.toNat) = 0 := Nat.mod_eq_zero_of_dvd (Nat.pow_dvd_pow 2 (by omega))
    have e : ((2 ^ 32 % 2 ^ (32 - n.toNat) : Nat) : Int) = (4294967296 : Int) % ((2 ^ (32 - n.toNat) : Nat) : Int) := by simp
    rw [← e, this]; rfl
  have hq := Int.mul_ediv_add_emod a (sz n)
  have hq2 := Int.mul_ediv_add_emod 4294967296 (sz n)
  rw [h] at hq; rw [hd] at hq2
  generalize sz n = s at *
  generalize a / s = x at *
  generalize (4294967296 : Int) / s = y at *
  have hxy : x < y := by
    apply Decidable.byContradiction; intro hc
    have : s * y ≤ s * x := Int.mul_le_mul_of_nonneg_left (by omega) (by omega)
    omega
  have : s * (x + 1) ≤ s * y := Int.mul_le_mul_of_nonneg_left (by omega) (by omega)
  rw [Int.mul_add] at this
  omega

/-- the prefix of n bits at a contains x. -/
def ctn (a n x : Int) : Bool := vld a n && decide (a ≤ x ∧ x < a + sz n)
theorem ctn_iff {a n x : Int} : ctn a n x = true ↔ vld a n = true ∧ a ≤ x ∧ x < a + sz n := by simp [ctn]
theorem ctn_no {a n x : Int} (h : vld a n = false) : ctn a n x = false := by simp [ctn, h]
theorem ctn_mask {a n x : Int} (h : vld a n = true) : (x - x % sz n == a) = ctn a n x := by
  rw [Bool.eq_iff_iff, ctn_iff, beq_iff_eq]
  have ⟨_, _, hm⟩ := vld_iff.1 h
  have h1 := sz_pos n
  have hq := Int.mul_ediv_add_emod a (sz n)
  have hqx := Int.mul_ediv_add_emod x (sz n)
  have hx0 := Int.emod_nonneg x (show sz n ≠ 0 by omega)
  have hx1 := Int.emod_lt_of_pos x (show 0 < sz n by omega)
  rw [hm] at hq
  constructor
  · intro e; exact ⟨h, by omega, by omega⟩
  · rintro ⟨_, h2, h3⟩
    generalize sz n = s at *
    generalize a / s = u at *
    generalize x / s = v at *
    have : u = v := by
      rcases Int.lt_trichotomy u v with hlt | he | hgt
      · have : s * (u + 1) ≤ s * v := Int.mul_le_mul_of_nonneg_left (by omega) (by omega)
        rw [Int.mul_add] at this; omega
      · exact he
      · have : s * (v + 1) ≤ s * u := Int.mul_le_mul_of_nonneg_left (by omega) (by omega)
        rw [Int.mul_add] at this; omega
    subst this; omega
/-- p covers q -/
def cvs (a n b m : Int) : Bool := vld b m && (ctn a n b && decide (n ≤ m))
theorem and3_u32 (a : Int) (ha : 0 ≤ a) (ha1 : a < 4294967296) : bits .and .u32 a 3 = a % 4 := by
  rw [u32_and a 3 ha ha1 (by omega) (by omega), show (3 : Int).toNat = 3 by rfl, nat_mask2]
  omega
/-- the order of two numbers, and of two prefixes. -/
def ord (x y : Int) : Int := if x < y then -1 else if y < x then 1 else 0
def cmpp (a n b m : Int) : Int := if a = b then ord n m else ord a b
theorem ord_lt {x y : Int} (h : x < y) : ord x y = -1 := by simp [ord, h]
theorem ord_gt {x y : Int} (h : y < x) : ord x y = 1 := by unfold ord; rw [if_neg (by omega), if_pos h]
theorem ord_eq {x y : Int} (h : x = y) : ord x y = 0 := by unfold ord; rw [if_neg (by omega), if_neg (by omega)]
/-- the mate -/
def mtV (a n : Int) : Int := if n = 31 then bits .xor .u32 a 1 else if n = 30 ∧ ¬ (a % 4 = 0 ∨ a % 4 = 3) then bits .xor .u32 a 3 else 0
def mtE (a n : Int) : Int := if n = 31 then 0 else if n = 30 then (if a % 4 = 0 ∨ a % 4 = 3 then 10 else 0) else 1
/-- the kind of an address, by its first two bytes -/
def knd (x y : Int) : Int := if x = 0 then 1 else if x = 127 then 2 else if x = 10 ∨ (x = 172 ∧ 16 ≤ y ∧ y < 32) ∨ (x = 192 ∧ y = 168) then 3 else if x = 169 ∧ y = 254 then 4 else if 224 ≤ x ∧ x < 240 then 5 else if 240 ≤ x then 6 else 0
theorem sz_mono {n m : Int} (h : n ≤ m) : sz m ≤ sz n := by
  unfold sz
  have := Nat.pow_le_pow_right (show 0 < 2 by omega) (show 32 - m.toNat ≤ 32 - n.toNat by omega)
  omega
theorem sz_dvd {n m : Int} (h : n ≤ m) (x : Int) (hx : x % sz n = 0) : x % sz m = 0 := by
  have hd : (sz m : Int) ∣ sz n := by
    unfold sz; exact Int.natCast_dvd_natCast.2 (Nat.pow_dvd_pow 2 (by omega))
  exact Int.emod_eq_zero_of_dvd (Int.dvd_trans hd (Int.dvd_of_emod_eq_zero hx))
theorem cvs_high (a n b m : Int) (hq : vld b m = true) : (ctn a n b && ctn a n (b + (sz m - 1))) = cvs a n b m := by
  have ⟨g0, g1, gm⟩ := vld_iff.1 hq
  rw [Bool.eq_iff_iff]
  simp only [cvs, hq, Bool.true_and, Bool.and_eq_true, ctn_iff, decide_eq_true_eq]
  constructor
  · rintro ⟨⟨hv, h1, h2⟩, _, h3, h4⟩
    refine ⟨⟨hv, h1, h2⟩, ?_⟩
    have ⟨n0, n1, nm⟩ := vld_iff.1 hv
    apply Decidable.byContradiction
    intro hc
    have e1 := sz_half m g0 (by omega)
    have e2 := sz_mono (n := m + 1) (m := n) (by omega)
    have e3 := sz_pos n
    omega
  · rintro ⟨⟨hv, h1, h2⟩, hnm⟩
    refine ⟨⟨hv, h1, h2⟩, hv, by have := sz_pos m; omega, ?_⟩
    have ⟨n0, n1, nm⟩ := vld_iff.1 hv
    have hb := sz_dvd hnm a nm
    have hs := sz_dvd hnm (sz n) (Int.emod_self)
    have hp := sz_pos m
    have ea := Int.mul_ediv_add_emod a (sz m)
    have eb := Int.mul_ediv_add_emod b (sz m)
    have es := Int.mul_ediv_add_emod (sz n) (sz m)
    rw [hb] at ea; rw [gm] at eb; rw [hs] at es
    generalize sz n = u at *
    generalize sz m = v at *
    generalize a / v = x at *
    generalize b / v = y at *
    generalize u / v = z at *
    have hlt : y < x + z := by
      apply Decidable.byContradiction; intro hc
      have : v * (x + z) ≤ v * y := Int.mul_le_mul_of_nonneg_left (by omega) (by omega)
      rw [Int.mul_add] at this; omega
    have : v * (y + 1) ≤ v * (x + z) := Int.mul_le_mul_of_nonneg_left (by omega) (by omega)
    rw [Int.mul_add, Int.mul_add] at this
    omega
theorem cvs_no {a n b m : Int} (h : vld b m = false) : cvs a n b m = false := by simp [cvs, h]
theorem cvs_gt {a n b m : Int} (h : ¬ n ≤ m) : cvs a n b m = false := by simp [cvs, h]
theorem cvs_le {a n b m : Int} (h : vld b m = true) (h2 : n ≤ m) : cvs a n b m = ctn a n b := by simp [cvs, h, h2]
/-- the greatest number of first bits that two addresses share -/
def cmn (a b : Int) : Int := 32 - (Lib.bitLen (a.toNat ^^^ b.toNat) : Int)
theorem bitLenAux_iff : ∀ (f x k : Nat), x < 2 ^ f → (Lib.bitLenAux f x ≤ k ↔ x < 2 ^ k)
  | 0, x, k, h => by simp at h; subst h; simp [Lib.bitLenAux]; exact Nat.pow_pos (by omega)
  | f + 1, x, 0, h => by
    by_cases hx : x = 0
    · subst hx; simp [Lib.bitLenAux]
    · simp [Lib.bitLenAux, hx]
  | f + 1, x, k + 1, h => by
    by_cases hx : x = 0
    · subst hx; simp [Lib.bitLenAux]; exact Nat.pow_pos (by omega)
    · have ih := bitLenAux_iff f (x / 2) k (by rw [Nat.pow_succ] at h; omega)
      simp only [Lib.bitLenAux, hx, if_false]
      rw [Nat.pow_succ]
      omega
theorem nat_xor_zero (x y : Nat) : x ^^^ y = 0 ↔ x = y := by
  constructor
  · intro h
    apply Nat.eq_of_testBit_eq
    intro i
    have := congrArg (fun z => z.testBit i) h
    simp only [Nat.testBit_xor, Nat.zero_testBit] at this
    revert this; cases x.testBit i <;> cases y.testBit i <;> simp
  · rintro rfl; exact Nat.xor_self _
theorem cmn_le (a b n : Int) (ha : 0 ≤ a) (ha1 : a < 4294967296) (hb : 0 ≤ b) (hb1 : b < 4294967296) (h0 : 0 ≤ n) (h1 : n ≤ 32) : n ≤ cmn a b ↔ a / sz n = b / sz n := by
  have hx : a.toNat ^^^ b.toNat < 2 ^ 32 := Nat.xor_lt_two_pow (by omega) (by omega)
  have hk := bitLenAux_iff 64 (a.toNat ^^^ b.toNat) (32 - n.toNat) (Nat.lt_of_lt_of_le hx (by decide))
  have e1 : n ≤ cmn a b ↔ Lib.bitLenAux 64 (a.toNat ^^^ b.toNat) ≤ 32 - n.toNat := by unfold cmn Lib.bitLen; omega
  rw [e1, hk]
  have e2 : a.toNat ^^^ b.toNat < 2 ^ (32 - n.toNat) ↔ (a.toNat ^^^ b.toNat) / 2 ^ (32 - n.toNat) = 0 := by
    rw [Nat.div_eq_zero_iff]; have := Nat.pow_pos (n := 32 - n.toNat) (show 0 < 2 by omega); omega
  rw [e2, ← Nat.shiftRight_eq_div_pow, Nat.shiftRight_xor_distrib, nat_xor_zero, Nat.shiftRight_eq_div_pow, Nat.shiftRight_eq_div_pow]
  unfold sz
  have ca : a / ((2 ^ (32 - n.toNat) : Nat) : Int) = ((a.toNat / 2 ^ (32 - n.toNat) : Nat) : Int) := by rw [Int.natCast_ediv, Int.toNat_of_nonneg ha]
  have cb : b / ((2 ^ (32 - n.toNat) : Nat) : Int) = ((b.toNat / 2 ^ (32 - n.toNat) : Nat) : Int) := by rw [Int.natCast_ediv, Int.toNat_of_nonneg hb]
  rw [ca, cb]
  omega
theorem cmn_range (a b : Int) (ha1 : a < 4294967296) (hb1 : b < 4294967296) : 0 ≤ cmn a b ∧ cmn a b ≤ 32 := by
  have hx : a.toNat ^^^ b.toNat < 2 ^ 32 := Nat.xor_lt_two_pow (by omega) (by omega)
  have := Lib.bitLen_le (a.toNat ^^^ b.toNat) 32 (by omega) hx
  unfold cmn; omega
theorem quo_sz (a n : Int) : a / sz n * sz n = a - a % sz n := by
  have := Int.mul_ediv_add_emod a (sz n)
  rw [Int.mul_comm] at this; omega
theorem mod_sz (a n : Int) (ha : 0 ≤ a) : 0 ≤ a % sz n ∧ a % sz n ≤ a := by
  have h := sz_pos n
  refine ⟨Int.emod_nonneg _ (by omega), ?_⟩
  have e := quo_sz a n
  have : 0 ≤ a / sz n * sz n := Int.mul_nonneg (Int.ediv_nonneg ha (by omega)) (by omega)
  omega
/-- the prefix of n bits about a contains b exactly if a and b share n bits. -/
theorem ctn_cmn (a b n : Int) (ha : 0 ≤ a) (ha1 : a < 4294967296) (hb : 0 ≤ b) (hb1 : b < 4294967296) (h0 : 0 ≤ n) (h1 : n ≤ 32) : ctn (a - a % sz n) n b = decide (n ≤ cmn a b) := by
  have hs := sz_pos n
  have hv : vld (a - a % sz n) n = true := by
    rw [vld_iff]; refine ⟨h0, h1, ?_⟩
    rw [← quo_sz]; exact Int.mul_emod_left _ _
  rw [← ctn_mask hv, Bool.eq_iff_iff, beq_iff_eq, decide_eq_true_eq, cmn_le a b n ha ha1 hb hb1 h0 h1, ← quo_sz, ← quo_sz]
  constructor
  · intro e; exact (Int.eq_of_mul_eq_mul_right (by omega) e).symm
  · intro e; rw [e]
theorem cmn_zero (a b : Int) (h : cmn a b = 0) (ha : 0 ≤ a) (ha1 : a < 4294967296) : a - a % sz (cmn a b) = 0 := by
  rw [h, sz_0]; omega
theorem mult_lt {s a b : Int} (hs : 0 < s) (ha : a % s = 0) (hb : b % s = 0) (h : a < b + s) : a ≤ b := by
  have ea := Int.mul_ediv_add_emod a s
  have eb := Int.mul_ediv_add_emod b s
  rw [ha] at ea; rw [hb] at eb
  generalize a / s = x at *
  generalize b / s = y at *
  apply Decidable.byContradiction; intro hc
  have hlt : y < x := by
    apply Decidable.byContradiction; intro h2
    have : s * x ≤ s * y := Int.mul_le_mul_of_nonneg_left (by omega) (by omega)
    omega
  have : s * (y + 1) ≤ s * x := Int.mul_le_mul_of_nonneg_left (by omega) (by omega)
  rw [Int.mul_add] at this
  omega
theorem overlap_one (a n b m : Int) (hp : vld a n = true) (hq : vld b m = true) (h : n ≤ m) (h1 : a ≤ b + (sz m - 1)) (h2 : b ≤ a + (sz n - 1)) : cvs a n b m = true := by
  have ⟨n0, n1, nm⟩ := vld_iff.1 hp
  have ⟨m0, m1, mm⟩ := vld_iff.1 hq
  have hs := sz_pos m
  have := mult_lt (by omega) (sz_dvd h a nm) mm (show a < b + sz m by omega)
  rw [cvs_le hq h, ctn_iff]
  exact ⟨hp, this, by omega⟩
theorem overlap_iff (a n b m : Int) (hp : vld a n = true) (hq : vld b m = true) : (decide (a ≤ b + (sz m - 1)) && decide (b ≤ a + (sz n - 1))) = (cvs a n b m || cvs b m a n) := by
  rw [Bool.eq_iff_iff]
  simp only [Bool.and_eq_true, Bool.or_eq_true, decide_eq_true_eq]
  have hs := sz_pos m
  have hs2 := sz_pos n
  constructor
  · rintro ⟨h1, h2⟩
    by_cases h : n ≤ m
    · exact Or.inl (overlap_one a n b m hp hq h h1 h2)
    · exact Or.inr (overlap_one b m a n hq hp (by omega) h2 h1)
  · rintro (h | h)
    · simp only [cvs, Bool.and_eq_true, ctn_iff] at h; omega
    · simp only [cvs, Bool.and_eq_true, ctn_iff] at h; omega
/-- halves divide a prefix -/
theorem halves_ctn (a n x : Int) (hp : vld a n = true) (hn : n ≠ 32) : vld a (n + 1) = true ∧ vld (a + sz (n + 1)) (n + 1) = true ∧ ctn a n x = (ctn a (n + 1) x || ctn (a + sz (n + 1)) (n + 1) x) ∧ (ctn a (n + 1) x && ctn (a + sz (n + 1)) (n + 1) x) = false := by
  have ⟨n0, n1, nm⟩ := vld_iff.1 hp
  have e := sz_half n n0 (by omega)
  have hd := sz_dvd (n := n) (m := n + 1) (by omega) a nm
  have hv : vld a (n + 1) = true := vld_iff.2 ⟨by omega, by omega, hd⟩
  have hv2 : vld (a + sz (n + 1)) (n + 1) = true := vld_iff.2 ⟨by omega, by omega, by rw [Int.add_emod_right]; exact hd⟩
  have hs := sz_pos (n + 1)
  refine ⟨hv, hv2, ?_, ?_⟩
  · rw [Bool.eq_iff_iff, Bool.or_eq_true, ctn_iff, ctn_iff, ctn_iff]; simp only [hp, hv, hv2, true_and]; omega
  · rw [Bool.eq_false_iff]; simp only [ne_eq, Bool.and_eq_true, ctn_iff]; omega
/-- Common is the longest prefix -/
theorem cmn_eq (a b : Int) (ha : 0 ≤ a) (ha1 : a < 4294967296) (hb : 0 ≤ b) (hb1 : b < 4294967296) : (a == b) = (cmn a b == 32) := by
  have ⟨r0, r1⟩ := cmn_range a b ha1 hb1
  have h := cmn_le a b 32 ha ha1 hb hb1 (by omega) (by omega)
  rw [sz_32] at h
  rw [Bool.eq_iff_iff, beq_iff_eq, beq_iff_eq]
  omega
theorem cmn_halves (a b : Int) (ha : 0 ≤ a) (ha1 : a < 4294967296) (hb : 0 ≤ b) (hb1 : b < 4294967296) (hc : cmn a b ≠ 32) :
    ctn (a - a % sz (cmn a b)) (cmn a b + 1) a = !ctn (a - a % sz (cmn a b)) (cmn a b + 1) b := by
  have ⟨r0, r1⟩ := cmn_range a b ha1 hb1
  have hv : vld (a - a % sz (cmn a b)) (cmn a b) = true := by
    rw [vld_iff]; exact ⟨r0, r1, by rw [← quo_sz]; exact Int.mul_emod_left _ _⟩
  have ca := ctn_cmn a a (cmn a b) ha ha1 ha ha1 r0 r1
  have cb := ctn_cmn a b (cmn a b) ha ha1 hb hb1 r0 r1
  have aa : cmn a b ≤ cmn a a := by rw [cmn_le a a _ ha ha1 ha ha1 r0 r1]
  have ⟨v1, v2, ha1', ha2⟩ := halves_ctn (a - a % sz (cmn a b)) (cmn a b) a hv hc
  have ⟨_, _, hb1', hb2⟩ := halves_ctn (a - a % sz (cmn a b)) (cmn a b) b hv hc
  rw [ca] at ha1'
  rw [cb] at hb1'
  simp only [aa, decide_true] at ha1'
  simp only [Int.le_refl, decide_true] at hb1'
  -- were both in one half, they would share one bit more
  have hno : a / sz (cmn a b + 1) ≠ b / sz (cmn a b + 1) := by
    intro e
    have := (cmn_le a b (cmn a b + 1) ha ha1 hb hb1 (by omega) (by omega)).2 e
    omega
  have same : ∀ l, vld l (cmn a b + 1) = true → ctn l (cmn a b + 1) a = true → ctn l (cmn a b + 1) b = true → False := by
    intro l hl h1 h2
    rw [← ctn_mask hl, beq_iff_eq, ← quo_sz] at h1 h2
    exact hno (Int.eq_of_mul_eq_mul_right (by have := sz_pos (cmn a b + 1); omega) (h1.trans h2.symm))
  cases hp : ctn (a - a % sz (cmn a b)) (cmn a b + 1) a
  · rw [hp] at ha1'
    simp only [Bool.false_or] at ha1'
    cases hb : ctn (a - a % sz (cmn a b)) (cmn a b + 1) b
    · rw [hb] at hb1'
      simp only [Bool.false_or] at hb1'
      exact (same _ v2 ha1'.symm hb1'.symm).elim
    · rfl
  · cases hb : ctn (a - a % sz (cmn a b)) (cmn a b + 1) b
    · rfl
    · exact (same _ v1 hp hb).elim
end Go.Proofs.YtjpjnbgfodlkcaaGreatDoor
/- Plain mathematics of texts: no program is read here. -/
namespace Go.Proofs.YtjpjnbgfodlkcaaGreatDoor
open Go Go.RowKit

def isDig (c : UInt8) : Bool := decide (48 ≤ (c.toNat : Int) ∧ (c.toNat : Int) ≤ 57)
/-- what decimal digits denote -/
def dval (l : List UInt8) : Int := l.foldl (fun n c => n * 10 + ((c.toNat : Int) - 48)) 0
theorem dval_snoc (l : List UInt8) (c : UInt8) : dval (l ++ [c]) = dval l * 10 + ((c.toNat : Int) - 48) := by simp [dval, List.foldl_append]
theorem take_snoc (s : ByteArray) (k : Nat) (h : k < s.size) : s.data.toList.take (k + 1) = s.data.toList.take k ++ [s[k]] := by
  rw [List.take_succ_eq_append_getElem (by simpa using h)]; rfl
theorem isDig_of {c : UInt8} (h0 : 48 ≤ (c.toNat : Int)) (h1 : (c.toNat : Int) ≤ 57) : isDig c = true := by simp [isDig]; omega
theorem all_take_succ (s : ByteArray) (k : Nat) (h : k < s.size) (ha : (s.data.toList.take k).all isDig = true) (hd : isDig s[k] = true) : (s.data.toList.take (k + 1)).all isDig = true := by
  rw [take_snoc s k h, List.all_append, ha]; simp [hd]
theorem snocInd {P : List UInt8 → Prop} (h0 : P []) (hs : ∀ l c, P l → P (l ++ [c])) (l : List UInt8) : P l := by
  rw [← List.reverse_reverse l]
  induction l.reverse with
  | nil => exact h0
  | cons c r ih => rw [List.reverse_cons]; exact hs _ _ ih
theorem dval_nonneg (l : List UInt8) : l.all isDig = true → 0 ≤ dval l := by
  induction l using snocInd with
  | h0 => intro _; simp [dval]
  | hs l c ih =>
    intro h
    rw [List.all_append] at h
    simp only [Bool.and_eq_true, List.all_cons, List.all_nil, Bool.and_true] at h
    have := ih h.1
    rw [dval_snoc]
    have h2 := h.2; simp [isDig] at h2; omega
/-- no leading zero, and not empty -/
def lead (l : List UInt8) : Bool := match l with | [] => false | [_] => true | c :: _ => !((c.toNat : Int) == 48)
/-- the text denotes a number of at most most -/
def numOk (l : List UInt8) (most : Int) : Bool := lead l && (l.all isDig && decide (dval l ≤ most))
def numV (l : List UInt8) (most : Int) : Int := if numOk l most then dval l else 0
theorem numOk_lead {l : List UInt8} {most : Int} (h : lead l = false) : numOk l most = false := by simp [numOk, h]
theorem numV_no {l : List UInt8} {most : Int} (h : numOk l most = false) : numV l most = 0 := by simp [numV, h]
theorem numV_yes {l : List UInt8} {most : Int} (h : numOk l most = true) : numV l most = dval l := by simp [numV, h]
theorem dval_append_le (r l : List UInt8) : l.all isDig = true → r.all isDig = true → dval l ≤ dval (l ++ r) := by
  induction r using snocInd with
  | h0 => intro _ _; simp
  | hs r c ih =>
    intro hl hr
    rw [List.all_append] at hr
    simp only [Bool.and_eq_true, List.all_cons, List.all_nil, Bool.and_true] at hr
    have h1 := ih hl hr.1
    have h0 := dval_nonneg l hl
    rw [← List.append_assoc, dval_snoc]
    have h2 := hr.2; simp [isDig] at h2; omega
theorem all_split (l : List UInt8) (k : Nat) (h : l.all isDig = true) : (l.take k).all isDig = true ∧ (l.drop k).all isDig = true := by
  rw [← List.take_append_drop k l, List.all_append] at h
  simpa using h
/-- a digit that is none, or a beginning that is too great, denies the whole -/
theorem numOk_bad (l : List UInt8) (most : Int) (k : Nat) (hk : k < l.length) (h : isDig l[k] = false) : numOk l most = false := by
  have : l.all isDig = false := by
    rw [List.all_eq_false]; exact ⟨l[k], List.getElem_mem hk, by simp [h]⟩
  simp [numOk, this]
theorem numOk_big (l : List UInt8) (most : Int) (k : Nat) (h : most < dval (l.take k)) : numOk l most = false := by
  cases ha : l.all isDig
  · simp [numOk, ha]
  · have ⟨h1, h2⟩ := all_split l k ha
    have := dval_append_le (l.drop k) (l.take k) h1 h2
    rw [List.take_append_drop] at this
    have : ¬ dval l ≤ most := by omega
    simp [numOk, this]
theorem numOk_good (l : List UInt8) (most : Int) (hl : lead l = true) (ha : l.all isDig = true) (h : dval l ≤ most) : numOk l most = true := by simp [numOk, hl, ha, h]

/-- the text in front of the first c, what follows it, and whether there is one -/
def cutAt (c : UInt8) : List UInt8 → List UInt8 × List UInt8 × Bool
  | [] => ([], [], false)
  | x :: r => if x == c then ([], r, true) else (x :: (cutAt c r).1, (cutAt c r).2.1, (cutAt c r).2.2)
theorem cutAt_yes {c x : UInt8} (r : List UInt8) (h : (x == c) = true) : cutAt c (x :: r) = ([], r, true) := by show (if x == c then _ else _) = _; rw [if_pos h]
theorem cutAt_not {c x : UInt8} (r : List UInt8) (h : ¬ (x == c) = true) : cutAt c (x :: r) = (x :: (cutAt c r).1, (cutAt c r).2.1, (cutAt c r).2.2) := by show (if x == c then _ else _) = _; rw [if_neg h]
theorem cutAt_index (c : UInt8) : ∀ l, cutAt c l = if 0 ≤ Lib.indexByte l c then (l.take (Lib.indexByte l c).toNat, l.drop ((Lib.indexByte l c).toNat + 1), true) else (l, [], false)
  | [] => by simp [cutAt, Lib.indexByte]
  | x :: r => by
    have ih := cutAt_index c r
    have hge := Lib.indexByte_ge r c
    by_cases hx : (x == c) = true
    · rw [cutAt_yes r hx]; simp [Lib.indexByte, hx]
    · rw [cutAt_not r hx, ih]
      have eI : Lib.indexByte (x :: r) c = if x == c then 0 else if Lib.indexByte r c == -1 then -1 else Lib.indexByte r c + 1 := rfl
      rw [eI]
      by_cases hm : Lib.indexByte r c = -1
      · simp [hm, hx]
      · have h0 : 0 ≤ Lib.indexByte r c := by omega
        have e : (Lib.indexByte r c + 1).toNat = (Lib.indexByte r c).toNat + 1 := by omega
        have e1 : 0 ≤ Lib.indexByte r c + 1 := by omega
        have e2 : (Lib.indexByte r c == -1) = false := by simpa using hm
        simp [h0, e2, e, e1, hx]
/-- all the parts between the c -/
def parts (c : UInt8) : List UInt8 → List (List UInt8)
  | [] => [[]]
  | x :: r => if x == c then [] :: parts c r else match parts c r with | [] => [[x]] | h :: t => (x :: h) :: t
theorem parts_yes {c x : UInt8} (r : List UInt8) (h : (x == c) = true) : parts c (x :: r) = [] :: parts c r := by show (if x == c then _ else _) = _; rw [if_pos h]
theorem parts_not {c x : UInt8} (r : List UInt8) (h : ¬ (x == c) = true) {p : List UInt8} {t : List (List UInt8)} (e : parts c r = p :: t) : parts c (x :: r) = (x :: p) :: t := by
  show (if x == c then _ else _) = _; rw [if_neg h, e]
theorem parts_cut (c : UInt8) : ∀ l, parts c l = if (cutAt c l).2.2 then (cutAt c l).1 :: parts c (cutAt c l).2.1 else [l]
  | [] => by simp [parts, cutAt]
  | x :: r => by
    by_cases hx : (x == c) = true
    · rw [cutAt_yes r hx, parts_yes r hx]; rfl
    · have ih := parts_cut c r
      rw [cutAt_not r hx]
      cases hc : (cutAt c r).2.2
      · rw [hc] at ih; simp only [Bool.false_eq_true, if_false] at ih; rw [parts_not r hx ih]; rfl
      · rw [hc] at ih; simp only [if_true] at ih; rw [parts_not r hx ih]; rfl
theorem parts_ne' (c : UInt8) (l : List UInt8) : 1 ≤ (parts c l).length := by
  rw [parts_cut]; split <;> simp
theorem cutAt_no (c : UInt8) : ∀ l, (cutAt c l).2.2 = false → (cutAt c l).1 = l
  | [], _ => rfl
  | x :: r, h => by
    by_cases hx : (x == c) = true
    · rw [cutAt_yes r hx] at h; simp at h
    · rw [cutAt_not r hx] at h ⊢
      have h : (cutAt c r).2.2 = false := h
      show x :: (cutAt c r).1 = _
      rw [cutAt_no c r h]
theorem cutAt_len (c : UInt8) : ∀ l, (cutAt c l).1.length + (cutAt c l).2.1.length ≤ l.length
  | [] => by simp [cutAt]
  | x :: r => by
    by_cases hx : (x == c) = true
    · rw [cutAt_yes r hx]; simp
    · rw [cutAt_not r hx]
      have := cutAt_len c r
      simp; omega

theorem lead_two {l : List UInt8} (h : 1 < l.length) : lead l = !((((l[0]'(by omega)).toNat : Nat) : Int) == 48) := by
  match l, h with
  | a :: b :: r, _ => rfl
theorem lead_one {l : List UInt8} (h : l.length = 1) : lead l = true := by
  match l, h with
  | [a], _ => rfl
theorem lead_zero {l : List UInt8} (h : l.length = 0) : lead l = false := by
  match l, h with
  | [], _ => rfl
/-- the address of parts that are numbers: what has been read so far, and the parts to come -/
def addrOf : Int → List (List UInt8) → Option Int
  | a, [] => some a
  | a, p :: r => if numOk p 255 then addrOf (a * 256 + dval p) r else none
def parseA (l : List UInt8) : Option Int := if (parts 46 l).length = 4 then addrOf 0 (parts 46 l) else none
/-- as the results of a call -/
def parV (l : List UInt8) : Int := (parseA l).getD 0
def parE (l : List UInt8) : Int := if (parseA l).isSome then 0 else 2
theorem indexByte_lt (c : UInt8) : ∀ l, Lib.indexByte l c < l.length
  | [] => by simp [Lib.indexByte]
  | x :: r => by
    have ih := indexByte_lt c r
    have eI : Lib.indexByte (x :: r) c = if x == c then 0 else if Lib.indexByte r c == -1 then -1 else Lib.indexByte r c + 1 := rfl
    rw [eI, List.length_cons]
    split
    · omega
    · split <;> omega
/-- what is known when some parts have been read -/
def ParP (l : List UInt8) (k : Nat) (a : Int) (r : List UInt8) : Prop :=
  if k < 4 then parseA l = (if (parts 46 r).length = 4 - k then addrOf a (parts 46 r) else none) else parseA l = some a
theorem parP_start (l : List UInt8) : ParP l 0 0 l := by simp [ParP, parseA]
theorem parP_num {l r : List UInt8} {k : Nat} {a : Int} (hk : k < 4) (h : ParP l k a r) (hn : numOk (cutAt 46 r).1 255 = false) : parseA l = none := by
  rw [ParP, if_pos hk] at h
  rw [h]
  split
  · rw [parts_cut]
    split
    · simp [addrOf, hn]
    · rename_i hc
      rw [cutAt_no 46 r (by simpa using hc)] at hn
      simp [addrOf, hn]
  · rfl
theorem parP_dot {l r : List UInt8} {k : Nat} {a : Int} (hk : k < 4) (h : ParP l k a r) (hn : ((cutAt 46 r).2.2 != decide ((k : Int) < 3)) = true) : parseA l = none := by
  rw [ParP, if_pos hk] at h
  rw [h, if_neg]
  rw [parts_cut]
  have hne := parts_ne' 46 (cutAt 46 r).2.1
  cases hd : (cutAt 46 r).2.2
  · rw [hd] at hn
    simp at hn
    simp; omega
  · rw [hd] at hn
    simp at hn
    simp; omega
theorem parP_next {l r : List UInt8} {k : Nat} {a : Int} (hk : k < 4) (h : ParP l k a r) (hn : numOk (cutAt 46 r).1 255 = true) (hd : ((cutAt 46 r).2.2 != decide ((k : Int) < 3)) = false) : ParP l (k + 1) (a * 256 + dval (cutAt 46 r).1) (cutAt 46 r).2.1 := by
  rw [ParP, if_pos hk] at h
  rw [parts_cut] at h
  unfold ParP
  cases hc : (cutAt 46 r).2.2
  · rw [hc] at hd h
    simp at hd
    have e : k = 3 := by omega
    subst e
    rw [cutAt_no 46 r hc] at hn ⊢
    simp [addrOf, hn] at h
    simp [h]
  · rw [hc] at hd h
    simp at hd
    have e : k < 3 := by omega
    rw [if_pos (by omega), h]
    simp only [if_true, List.length_cons, addrOf, hn]
    have : (parts 46 (cutAt 46 r).2.1).length + 1 = 4 - k ↔ (parts 46 (cutAt 46 r).2.1).length = 4 - (k + 1) := by omega
    simp [this]
theorem par_no {l : List UInt8} (h : parseA l = none) : parV l = 0 ∧ parE l = 2 := by simp [parV, parE, h]
theorem par_yes {l : List UInt8} {a : Int} (h : ParP l 4 a []) : parV l = a ∧ parE l = 0 := by
  have h : parseA l = some a := by simpa [ParP] using h
  simp [parV, parE, h]
theorem parP_four {l r r' : List UInt8} {a : Int} (h : ParP l 4 a r) : ParP l 4 a r' := by simpa [ParP] using h
end Go.Proofs.YtjpjnbgfodlkcaaGreatDoor
/- Strings as lists of bytes; the table that strconv.Itoa reads; the library's functions of strings. -/
namespace Go.Proofs.YtjpjnbgfodlkcaaGreatDoor
open Go Go.RowKit Go.Sort
set_option maxRecDepth 100000
set_option linter.unusedVariables false
def str (l : List UInt8) : ByteArray := ⟨l.toArray⟩
theorem str_data (l : List UInt8) : (str l).data.toList = l := by simp [str]
theorem str_size (l : List UInt8) : (str l).size = l.length := by rw [Lib.size_eq, str_data]
theorem str_of (s : ByteArray) : str s.data.toList = s := Lib.mk_data s
theorem str_ext (s : ByteArray) (a b : Nat) : s.extract a b = str ((s.data.toList.drop a).take (b - a)) := Lib.extract_eq s a b
theorem str_append (x y : List UInt8) : str x ++ str y = str (x ++ y) := by
  simp [str, ByteArray.ext_iff]
theorem str_inj {x y : List UInt8} (h : str x = str y) : x = y := by rw [← str_data x, h, str_data]
/-- concatenation, as the walk meets it -/
theorem add_str (x y : List UInt8) (h : x.length + y.length ≤ 9223372036854775807) (w : World) : (Op.stringOp .add (str x) (str y)).run Tryz.prog w = .ok (.string (str (x ++ y))) w := by
  exact (run_string_add_sum (P := Tryz.prog) (w := w) (str x) (str y) (by rw [str_size, str_size]; exact h)).trans (by rw [str_append])
/-- the table that strconv.Itoa reads -/
def Tab (w : World) : Prop := Lib.TabIs Tryz.prog w "internal/strconv.uint64pow10" .u64 Lib.pow10Tab
theorem Tab.gr {w w' : World} (h : Tab w) (g : Gr w w') : Tab w' := by
  have hg : Tryz.prog.globalNamed "internal/strconv.uint64pow10" = some 5 := by kernel_rfl
  have hb : 5 < w.heap.size := by
    have hc := Lib.TabIs.cell h hg 0 (by decide)
    exact World.block_lt_of_cell? w _ hc
  exact var?_below g hg hb h
theorem gr_grow (w : World) (os : Array Obj) : Gr w (Sort.grow w os) :=
  ⟨rfl, rfl, rfl, by simp [Sort.grow], fun k hk => by simp [Sort.grow, Array.getElem?_append, hk]⟩
theorem itoa_any (n : Int) (w : World) (h0 : 0 ≤ n) (h1 : n ≤ 9223372036854775807) (ht : Tab w) :
    Calls Tryz.prog 101 #[.int .i64 n] w fun e w' => e = .returned (.string (str (Lib.decDigits n.toNat))) ∧ Gr w w' := by
  refine (Tryz.strconv_Itoa n (by omega) h1 w ht).mono fun e w' ⟨he, hw⟩ => ?_
  obtain ⟨k, os, rfl⟩ := hw
  refine ⟨?_, ?_⟩
  · rw [he]
    have e : Lib.itoa n = Lib.decDigits n.toNat := by unfold Lib.itoa; rw [if_neg (by omega)]
    rw [e]; rfl
  · exact Gr.step (Gr.drewN (Gr.refl w) k) (gr_grow _ _)
end Go.Proofs.YtjpjnbgfodlkcaaGreatDoor
/- Decimal texts of numbers, as mathematics. -/
namespace Go.Proofs.YtjpjnbgfodlkcaaGreatDoor
open Go
/-- a digit -/
def dgc (n : Nat) : UInt8 := UInt8.ofNat (48 + n)
theorem dgc_nat {n : Nat} (h : n < 10) : (dgc n).toNat = 48 + n := by unfold dgc; rw [UInt8.toNat_ofNat']; omega
theorem dgc_ne {n : Nat} (h : n < 10) (h0 : 0 < n) : (dgc n == 48) = false := by
  rw [beq_eq_false_iff_ne]; intro e
  have := dgc_nat h
  rw [e] at this
  have h48 : (48 : UInt8).toNat = 48 := rfl
  omega
/-- the last k digits of n -/
def pd : Nat → Nat → List UInt8
  | 0, _ => []
  | k + 1, n => pd k (n / 10) ++ [dgc (n % 10)]
theorem pd_len : ∀ k n, (pd k n).length = k
  | 0, _ => rfl
  | k + 1, n => by rw [pd, List.length_append, pd_len k]; rfl
theorem pd_mod : ∀ k n, pd k (n % 10 ^ k) = pd k n
  | 0, _ => rfl
  | k + 1, n => by
    have h1 : n % 10 ^ (k + 1) / 10 = n / 10 % 10 ^ k := by
      rw [Nat.pow_succ, Nat.mul_comm, Nat.mod_mul_right_div_self]
    have h2 : n % 10 ^ (k + 1) % 10 = n % 10 := by
      rw [Nat.pow_succ, Nat.mod_mul_left_mod]
    rw [pd, pd, h1, h2, pd_mod k]
theorem pd_add (j : Nat) : ∀ k n, pd (j + k) n = pd j (n / 10 ^ k) ++ pd k n
  | 0, n => by simp [pd]
  | k + 1, n => by
    rw [show j + (k + 1) = (j + k) + 1 from rfl, pd, pd, pd_add j k, List.append_assoc, Nat.div_div_eq_div_mul, Nat.pow_succ, Nat.mul_comm 10]
theorem pd_zero : ∀ k, pd k 0 = List.replicate k 48
  | 0 => rfl
  | k + 1 => by
    rw [pd, Nat.zero_div, pd_zero k, Nat.zero_mod, List.replicate_succ']
    rfl
theorem dd_step {n : Nat} (h : ¬ n < 10) : Lib.decDigits n = Lib.decDigits (n / 10) ++ [dgc (n % 10)] := by rw [Lib.decDigits, dif_neg h]; rfl
theorem dd_one {n : Nat} (h : n < 10) : Lib.decDigits n = [dgc n] := by rw [Lib.decDigits, dif_pos h]; rfl
/-- a number's digits behind zeros -/
theorem pd_digits : ∀ k n, n < 10 ^ k → 0 < k → Lib.nDigits n ≤ k ∧ pd k n = List.replicate (k - Lib.nDigits n) 48 ++ Lib.decDigits n
  | 0, _, _, h => absurd h (by omega)
  | k + 1, n, h, _ => by
    by_cases hn : n < 10
    · rw [Lib.nDigits_small hn, dd_one hn, pd, show n / 10 = 0 by omega, pd_zero, Nat.mod_eq_of_lt hn]
      exact ⟨by omega, rfl⟩
    · have hk : 0 < k := by
        rcases Nat.eq_zero_or_pos k with rfl | h0
        · simp at h; omega
        · exact h0
      obtain ⟨h1, h2⟩ := pd_digits k (n / 10) (by rw [Nat.pow_succ] at h; omega) hk
      rw [Lib.nDigits_big hn, dd_step hn, pd, h2]
      exact ⟨by omega, by rw [show k + 1 - (Lib.nDigits (n / 10) + 1) = k - Lib.nDigits (n / 10) by omega, List.append_assoc]⟩
/-- a number that is not 0 has a leading digit that is not 0 -/
theorem dd_lead {n : Nat} : 0 < n → ∃ c l, Lib.decDigits n = c :: l ∧ (c == 48) = false := by
  induction n using Nat.strongRecOn with
  | _ n ih =>
    intro h0
    by_cases hn : n < 10
    · exact ⟨dgc n, [], dd_one hn, dgc_ne hn h0⟩
    · obtain ⟨c, l, e, hc⟩ := ih (n / 10) (by omega) (by omega)
      exact ⟨c, l ++ [dgc (n % 10)], by rw [dd_step hn, e]; rfl, hc⟩
theorem drop_zeros (k : Nat) (l : List UInt8) : (List.replicate k (48 : UInt8) ++ l).dropWhile (· == 48) = l.dropWhile (· == 48) := by
  induction k with
  | zero => rfl
  | succ k ih => rw [List.replicate_succ, List.cons_append, List.dropWhile_cons_of_pos (by rfl)]; exact ih
theorem trim_pd {k n : Nat} (h : n < 10 ^ k) (h0 : 0 < n) : Lib.trimLeftB (pd k n) 48 = Lib.decDigits n := by
  have hk : 0 < k := by
    rcases Nat.eq_zero_or_pos k with rfl | hk
    · simp at h; omega
    · exact hk
  unfold Lib.trimLeftB
  rw [(pd_digits k n h hk).2, drop_zeros]
  obtain ⟨c, l, e, hc⟩ := dd_lead h0
  rw [e, List.dropWhile_cons_of_neg (by simpa using hc)]
theorem rep_zeros (k : Nat) : Lib.repeatL [48] k = List.replicate k 48 := by
  induction k with
  | zero => rfl
  | succ k ih => rw [Lib.repeatL, ih, List.replicate_succ]; rfl
/-- what padded answers -/
theorem padded_eq {n : Nat} (h : n < 1000000000) : Lib.repeatL [48] (9 - (Lib.decDigits n).length) ++ Lib.decDigits n = pd 9 n ∧ (Lib.decDigits n).length ≤ 9 := by
  obtain ⟨h1, h2⟩ := pd_digits 9 n (by simpa using h) (by omega)
  rw [h2, Lib.decDigits_length, rep_zeros]
  exact ⟨rfl, h1⟩
/-- the groups that Text gathers, the last first -/
def grp : Nat → Nat → List (List UInt8)
  | 0, _ => []
  | j + 1, n => grp j n ++ [pd 9 (n / 10 ^ (9 * j) % 1000000000)]
theorem grp_len : ∀ j n, (grp j n).length = j
  | 0, _ => rfl
  | j + 1, n => by rw [grp, List.length_append, grp_len j]; rfl
theorem grp_join : ∀ j n, (grp j n).reverse.flatten = pd (9 * j) n
  | 0, _ => rfl
  | j + 1, n => by
    have h := pd_mod 9 (n / 10 ^ (9 * j))
    rw [grp, List.reverse_append, List.flatten_append, grp_join j, show 9 * (j + 1) = 9 + 9 * j by omega, pd_add 9 (9 * j)]
    simp only [List.reverse_singleton, List.flatten_singleton]
    rw [show (1000000000 : Nat) = 10 ^ 9 from rfl, h]
theorem join_nil (l : List (List UInt8)) : Lib.join l [] = l.flatten := by
  unfold Lib.join
  induction l with
  | nil => rfl
  | cons a l ih =>
    cases l with
    | nil => simp [List.intercalate]
    | cons b l => simpa [List.intercalate, List.intersperse] using ih
/-- the number that digits spell -/
def nval (l : List UInt8) : Nat := l.foldl (fun a c => a * 10 + (c.toNat - 48)) 0
theorem nval_from (l : List UInt8) : ∀ a, l.foldl (fun a c => a * 10 + (c.toNat - 48)) a = a * 10 ^ l.length + nval l := by
  induction l with
  | nil => intro a; simp [nval]
  | cons c l ih =>
    intro a
    have e : nval (c :: l) = l.foldl (fun a c => a * 10 + (c.toNat - 48)) (0 * 10 + (c.toNat - 48)) := rfl
    rw [List.foldl_cons, ih, e, ih, List.length_cons, Nat.zero_mul, Nat.zero_add, Nat.add_mul, Nat.mul_assoc, Nat.pow_succ, Nat.mul_comm 10, Nat.add_assoc]
theorem nval_cons (c : UInt8) (l : List UInt8) : nval (c :: l) = (c.toNat - 48) * 10 ^ l.length + nval l := by
  rw [nval, List.foldl_cons, nval_from, Nat.zero_mul, Nat.zero_add]
theorem nval_append (a b : List UInt8) : nval (a ++ b) = nval a * 10 ^ b.length + nval b := by
  rw [nval, List.foldl_append, nval_from]; rfl
theorem nval_digits (n : Nat) : nval (Lib.decDigits n) = n := by
  induction n using Nat.strongRecOn with
  | _ n ih =>
    by_cases hn : n < 10
    · rw [dd_one hn, nval, List.foldl_cons, List.foldl_nil, dgc_nat hn]; omega
    · rw [dd_step hn, nval_append, ih (n / 10) (by omega), List.length_singleton, nval, List.foldl_cons, List.foldl_nil, dgc_nat (Nat.mod_lt _ (by omega))]; omega
/-- digits alone -/
def digs (l : List UInt8) : Prop := ∀ c ∈ l, 48 ≤ c.toNat ∧ c.toNat ≤ 57
theorem digs_dd (n : Nat) : digs (Lib.decDigits n) := by
  induction n using Nat.strongRecOn with
  | _ n ih =>
    by_cases hn : n < 10
    · rw [dd_one hn]; intro c hc; rw [List.mem_singleton] at hc; subst hc; have := dgc_nat hn; omega
    · rw [dd_step hn]; intro c hc
      rcases List.mem_append.1 hc with hc | hc
      · exact ih (n / 10) (by omega) c hc
      · rw [List.mem_singleton] at hc; subst hc; have := dgc_nat (n := n % 10) (Nat.mod_lt _ (by omega)); omega
theorem nval_lt {l : List UInt8} (h : digs l) : nval l < 10 ^ l.length := by
  induction l with
  | nil => simp [nval]
  | cons c l ih =>
    have h1 := h c (by simp)
    have h2 := ih (fun x hx => h x (by simp [hx]))
    have e : nval (c :: l) = (c.toNat - 48) * 10 ^ l.length + nval l := by rw [nval, List.foldl_cons, nval_from, Nat.zero_mul, Nat.zero_add]
    rw [e, List.length_cons, Nat.pow_succ]
    have h3 : (c.toNat - 48) * 10 ^ l.length ≤ 9 * 10 ^ l.length := Nat.mul_le_mul_right _ (by omega)
    omega
theorem dec_from {l : List UInt8} (h : digs l) : ∀ a, Lib.decFrom a l = some (a * 10 ^ l.length + nval l) := by
  induction l with
  | nil => intro a; simp [Lib.decFrom, nval]
  | cons c l ih =>
    intro a
    have h1 := h c (by simp)
    rw [Lib.decFrom, show Lib.digitVal c = some (c.toNat - 48) by unfold Lib.digitVal; rw [if_pos h1]]
    show Lib.decFrom (a * 10 + (c.toNat - 48)) l = _
    rw [ih (fun x hx => h x (by simp [hx])), nval_cons, List.length_cons, Nat.add_mul, Nat.mul_assoc, Nat.pow_succ, Nat.mul_comm 10, Nat.add_assoc]
theorem atoi_digs {l : List UInt8} (h : digs l) (h0 : l ≠ []) : Lib.atoi l = some ((nval l : Nat) : Int) := by
  cases l with
  | nil => exact absurd rfl h0
  | cons c l =>
    have h1 := h c (by simp)
    have c45 : (c == 45) = false := by rw [beq_eq_false_iff_ne]; intro e; subst e; have : (45 : UInt8).toNat = 45 := rfl; omega
    have c43 : (c == 43) = false := by rw [beq_eq_false_iff_ne]; intro e; subst e; have : (43 : UInt8).toNat = 43 := rfl; omega
    rw [Lib.atoi, c45, c43]
    simp only [Bool.false_eq_true, if_false]
    rw [Lib.decNat, show (c :: l).isEmpty = false from rfl]
    simp only [Bool.false_eq_true, if_false]
    rw [dec_from h, Nat.zero_mul, Nat.zero_add]; rfl
/-- longer texts are greater numbers -/
theorem dd_len_lt {a b : Nat} (h : (Lib.decDigits b).length < (Lib.decDigits a).length) : b < a := by
  rcases Nat.lt_or_ge b a with hab | hab
  · exact hab
  · exfalso
    have mono : ∀ a b, a ≤ b → Lib.nDigits a ≤ Lib.nDigits b := by
      intro a
      induction a using Nat.strongRecOn with
      | _ a ih =>
        intro b hb
        by_cases h1 : a < 10
        · rw [Lib.nDigits_small h1]; exact Lib.nDigits_pos b
        · rw [Lib.nDigits_big h1, Lib.nDigits_big (show ¬ b < 10 by omega)]
          have := ih (a / 10) (by omega) (b / 10) (by omega)
          omega
    rw [Lib.decDigits_length, Lib.decDigits_length] at h
    have := mono a b hab
    omega
theorem dd_inj {a b : Nat} (h : Lib.decDigits a = Lib.decDigits b) : a = b := by rw [← nval_digits a, h, nval_digits]
end Go.Proofs.YtjpjnbgfodlkcaaGreatDoor
