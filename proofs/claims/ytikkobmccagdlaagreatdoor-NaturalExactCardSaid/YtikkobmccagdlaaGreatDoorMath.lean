/- Plain mathematics of addresses and prefixes: no program is read here. -/
import Derived.WalkKit
import Derived.Laws.BitsAllLaws
import Derived.Lib.BitFns
namespace Go.Proofs.YtikkobmccagdlaaGreatDoor
open Go Go.RowKit

/-- The number of addresses of a prefix of n bits. -/
def sz (n : Int) : Int := ((2 ^ (32 - n.toNat) : Nat) : Int)
theorem sz_pos (n : Int) : 1 ≤ sz n := by unfold sz; have := Nat.pow_pos (n := 32 - n.toNat) (show 0 < 2 by omega); omega
theorem sz_le (n : Int) : sz n ≤ 4294967296 := by
  unfold sz
  have := Nat.pow_le_pow_right (show 0 < 2 by omega) (show 32 - n.toNat ≤ 32 by omega)
  omega
theorem after_eq (n : Int) (h0 : 0 ≤ n) (h1 : n ≤ 32) : (4294967295 : Int) / 2 ^ n.toNat = sz n - 1 := by
  obtain ⟨k, rfl⟩ := Int.eq_ofNat_of_zero_le h0
  have hk : k ≤ 32 := by omega
  have H : ∀ k : Nat, k ≤ 32 → (4294967295 : Int) / 2 ^ (k : Int).toNat = sz k - 1 := by decide +kernel
  exact H k hk
theorem size_eq (n : Int) (h0 : 0 ≤ n) (h1 : n ≤ 32) : (1 : Int) * 2 ^ (32 - n).toNat = sz n := by
  obtain ⟨k, rfl⟩ := Int.eq_ofNat_of_zero_le h0
  have H : ∀ k : Nat, k ≤ 32 → (1 : Int) * 2 ^ (32 - (k : Int)).toNat = sz k := by decide +kernel
  exact H k (by omega)
theorem sz_half (n : Int) (h0 : 0 ≤ n) (h1 : n < 32) : sz n = 2 * sz (n + 1) := by
  obtain ⟨k, rfl⟩ := Int.eq_ofNat_of_zero_le h0
  have H : ∀ k : Nat, k < 32 → sz k = 2 * sz ((k : Int) + 1) := by decide +kernel
  exact H k (by omega)
theorem sz_32 : sz 32 = 1 := by decide +kernel
theorem sz_0 : sz 0 = 4294967296 := by decide +kernel

/-- a prefix of n bits that begins at a is valid. -/
def vld (a n : Int) : Bool := decide (0 ≤ n ∧ n ≤ 32 ∧ a % sz n = 0)
theorem vld_iff {a n : Int} : vld a n = true ↔ 0 ≤ n ∧ n ≤ 32 ∧ a % sz n = 0 := by simp [vld]
theorem vld_no {a n : Int} (h : n < 0 ∨ 32 < n) : vld a n = false := by
  simp only [vld, decide_eq_false_iff_not]; omega

theorem and_after (a n : Int) (ha : 0 ≤ a) (ha1 : a < 4294967296) : bits .and .u32 a (sz n - 1) = a % sz n := by
  have h1 := sz_pos n
  have h2 := sz_le n
  rw [u32_and a (sz n - 1) ha ha1 (by omega) (by omega)]
  have e : (sz n - 1).toNat = 2 ^ (32 - n.toNat) - 1 := by unfold sz; have := Nat.pow_pos (n := 32 - n.toNat) (show 0 < 2 by omega); omega
  rw [e, Nat.and_two_pow_sub_one_eq_mod]
  have : ((a.toNat % 2 ^ (32 - n.toNat) : Nat) : Int) = (a.toNat : Int) % ((2 ^ (32 - n.toNat) : Nat) : Int) := by simp
  rw [this, Int.toNat_of_nonneg ha]; rfl
theorem nat_andNot (x : Nat) : ∀ (k m : Nat), k ≤ m → x < 2 ^ m → x &&& (2 ^ m - 1 - (2 ^ k - 1)) = x - x % 2 ^ k := by
  intro k m hk hx
  apply Nat.eq_of_testBit_eq
  intro i
  have e : 2 ^ m - 1 - (2 ^ k - 1) = 2 ^ m - ((2 ^ k - 1) + 1) := by omega
  have hp := Nat.pow_pos (n := k) (show 0 < 2 by omega)
  have hle := Nat.pow_le_pow_right (show 0 < 2 by omega) hk
  have e2 : x - x % 2 ^ k = (x / 2 ^ k) * 2 ^ k := by have := Nat.div_add_mod x (2 ^ k); rw [Nat.mul_comm] at this; omega
  rw [e, e2, Nat.testBit_and, Nat.testBit_two_pow_sub_succ (by omega), Nat.testBit_two_pow_sub_one, Nat.testBit_mul_two_pow, Nat.testBit_div_two_pow]
  by_cases hik : k ≤ i
  · have : ¬ i < k := by omega
    have e3 : i - k + k = i := by omega
    simp only [hik, this, decide_true, decide_false, Bool.not_false, Bool.and_true, Bool.true_and]
    rw [e3]
    by_cases him : i < m
    · simp [him]
    · have hxi : x.testBit i = false := Nat.testBit_lt_two_pow (Nat.lt_of_lt_of_le hx (Nat.pow_le_pow_right (by omega) (by omega)))
      simp [hxi]
  · have : i < k := by omega
    simp [hik, this]
theorem andNot_after (a n : Int) (ha : 0 ≤ a) (ha1 : a < 4294967296) : bits .andNot .u32 a (sz n - 1) = a - a % sz n := by
  have h1 := sz_pos n
  have h2 := sz_le n
  rw [u32_andNot a (sz n - 1) ha ha1 (by omega) (by omega)]
  have e : (sz n - 1).toNat = 2 ^ (32 - n.toNat) - 1 := by unfold sz; have := Nat.pow_pos (n := 32 - n.toNat) (show 0 < 2 by omega); omega
  have := nat_andNot a.toNat (32 - n.toNat) 32 (by omega) (by omega)
  rw [e]
  simp only [show (2 : Nat) ^ 32 - 1 = 4294967295 by decide] at this
  rw [this]
  have hm : ((a.toNat % 2 ^ (32 - n.toNat) : Nat) : Int) = a % sz n := by
    have : ((a.toNat % 2 ^ (32 - n.toNat) : Nat) : Int) = (a.toNat : Int) % ((2 ^ (32 - n.toNat) : Nat) : Int) := by simp
    rw [this, Int.toNat_of_nonneg ha]; rfl
  have hl := Nat.mod_le a.toNat (2 ^ (32 - n.toNat))
  omega
theorem or_low (a b s : Int) (ha : 0 ≤ a) (ha1 : a < 4294967296) (hb : 0 ≤ b) (hb1 : b < 4294967296) (k : Nat) (hs : s = ((2 ^ k : Nat) : Int)) (hm : a % s = 0) (hbs : b < s) : bits .or .u32 a b = a + b := by
  rw [u32_or a b ha ha1 hb hb1, nat_join k a.toNat b.toNat ?_ ?_]
  · omega
  · have : ((a.toNat % 2 ^ k : Nat) : Int) = (a.toNat : Int) % ((2 ^ k : Nat) : Int) := by simp
    rw [Int.toNat_of_nonneg ha, ← hs, hm] at this; omega
  · subst hs; omega
theorem or_after (a n : Int) (ha : 0 ≤ a) (ha1 : a < 4294967296) (h : a % sz n = 0) : bits .or .u32 a (sz n - 1) = a + (sz n - 1) := by
  have h1 := sz_pos n
  have h2 := sz_le n
  exact or_low a (sz n - 1) (sz n) ha ha1 (by omega) (by omega) _ rfl h (by omega)
theorem after_diff (n : Int) (h0 : 0 ≤ n) (h1 : n < 32) : bits .andNot .u32 (sz n - 1) (sz (n + 1) - 1) = sz (n + 1) := by
  obtain ⟨k, rfl⟩ := Int.eq_ofNat_of_zero_le h0
  have H : ∀ k : Nat, k < 32 → bits .andNot .u32 (sz k - 1) (sz ((k : Int) + 1) - 1) = sz ((k : Int) + 1) := by decide +kernel
  exact H k (by omega)
theorem valid_room (a n : Int) (ha1 : a < 4294967296) (h : a % sz n = 0) : a + sz n ≤ 4294967296 := by
  -- both are multiples of sz n
  have h1 := sz_pos n
  have hd : (4294967296 : Int) % sz n = 0 := by
    unfold sz
    have : (2 : Nat) ^ 32 % 2 ^ (32 - n.toNat) = 0 := Nat.mod_eq_zero_of_dvd (Nat.pow_dvd_pow 2 (by omega))
    have e : ((2 ^ 32 % 2 ^ (32 - n.toNat) : Nat) : Int) = (4294967296 : Int) % ((2 ^ (32 - n.toNat) : Nat) : Int) := by simp
    rw [← e, this]; rfl
  have hq := Int.mul_ediv_add_emod a (sz n)
  have hq2 := Int.mul_ediv_add_emod 4294967296 (sz n)
  rw [h] at hq; rw [hd] at hq2
  generalize sz n = s at *
  generalize a / s = x at *
  generalize (4294967296 : Int) / s = y at *
  have hxy : x < y := by
    apply Decidable.byContradiction; intro hc
    have : s * y ≤ s * x := Int.mul_le_mul_of_nonneg_left (by omega) (by omega)
    omega
  have : s * (x + 1) ≤ s * y := Int.mul_le_mul_of_nonneg_left (by omega) (by omega)
  rw [Int.mul_add] at this
  omega

/-- the prefix of n bits at a contains x. -/
def ctn (a n x : Int) : Bool := vld a n && decide (a ≤ x ∧ x < a + sz n)
theorem ctn_iff {a n x : Int} : ctn a n x = true ↔ vld a n = true ∧ a ≤ x ∧ x < a + sz n := by simp [ctn]
theorem ctn_no {a n x : Int} (h : vld a n = false) : ctn a n x = false := by simp [ctn, h]
theorem ctn_mask {a n x : Int} (h : vld a n = true) : (x - x % sz n == a) = ctn a n x := by
  rw [Bool.eq_iff_iff, ctn_iff, beq_iff_eq]
  have ⟨_, _, hm⟩ := vld_iff.1 h
  have h1 := sz_pos n
  have hq := Int.mul_ediv_add_emod a (sz n)
  have hqx := Int.mul_ediv_add_emod x (sz n)
  have hx0 := Int.emod_nonneg x (show sz n ≠ 0 by omega)
  have hx1 := Int.emod_lt_of_pos x (show 0 < sz n by omega)
  rw [hm] at hq
  constructor
  · intro e; exact ⟨h, by omega, by omega⟩
  · rintro ⟨_, h2, h3⟩
    generalize sz n = s at *
    generalize a / s = u at *
    generalize x / s = v at *
    have : u = v := by
      rcases Int.lt_trichotomy u v with hlt | he | hgt
      · have : s * (u + 1) ≤ s * v := Int.mul_le_mul_of_nonneg_left (by omega) (by omega)
        rw [Int.mul_add] at this; omega
      · exact he
      · have : s * (v + 1) ≤ s * u := Int.mul_le_mul_of_nonneg_left (by omega) (by omega)
        rw [Int.mul_add] at this; omega
    subst this; omega
/-- p covers q -/
def cvs (a n b m : Int) : Bool := vld b m && (ctn a n b && decide (n ≤ m))
theorem and3_u32 (a : Int) (ha : 0 ≤ a) (ha1 : a < 4294967296) : bits .and .u32 a 3 = a % 4 := by
  rw [u32_and a 3 ha ha1 (by omega) (by omega), show (3 : Int).toNat = 3 by rfl, nat_mask2]
  omega
/-- the order of two numbers, and of two prefixes. -/
def ord (x y : Int) : Int := if x < y then -1 else if y < x then 1 else 0
def cmpp (a n b m : Int) : Int := if a = b then ord n m else ord a b
theorem ord_lt {x y : Int} (h : x < y) : ord x y = -1 := by simp [ord, h]
theorem ord_gt {x y : Int} (h : y < x) : ord x y = 1 := by unfold ord; rw [if_neg (by omega), if_pos h]
theorem ord_eq {x y : Int} (h : x = y) : ord x y = 0 := by unfold ord; rw [if_neg (by omega), if_neg (by omega)]
/-- the mate -/
def mtV (a n : Int) : Int := if n = 31 then bits .xor .u32 a 1 else if n = 30 ∧ ¬ (a % 4 = 0 ∨ a % 4 = 3) then bits .xor .u32 a 3 else 0
def mtE (a n : Int) : Int := if n = 31 then 0 else if n = 30 then (if a % 4 = 0 ∨ a % 4 = 3 then 10 else 0) else 1
/-- the kind of an address, by its first two bytes -/
def knd (x y : Int) : Int := if x = 0 then 1 else if x = 127 then 2 else if x = 10 ∨ (x = 172 ∧ 16 ≤ y ∧ y < 32) ∨ (x = 192 ∧ y = 168) then 3 else if x = 169 ∧ y = 254 then 4 else if 224 ≤ x ∧ x < 240 then 5 else if 240 ≤ x then 6 else 0
theorem sz_mono {n m : Int} (h : n ≤ m) : sz m ≤ sz n := by
  unfold sz
  have := Nat.pow_le_pow_right (show 0 < 2 by omega) (show 32 - m.toNat ≤ 32 - n.toNat by omega)
  omega
theorem sz_dvd {n m : Int} (h : n ≤ m) (x : Int) (hx : x % sz n = 0) : x % sz m = 0 := by
  have hd : (sz m : Int) ∣ sz n := by
    unfold sz; exact Int.natCast_dvd_natCast.2 (Nat.pow_dvd_pow 2 (by omega))
  exact Int.emod_eq_zero_of_dvd (Int.dvd_trans hd (Int.dvd_of_emod_eq_zero hx))
theorem cvs_high (a n b m : Int) (hq : vld b m = true) : (ctn a n b && ctn a n (b + (sz m - 1))) = cvs a n b m := by
  have ⟨g0, g1, gm⟩ := vld_iff.1 hq
  rw [Bool.eq_iff_iff]
  simp only [cvs, hq, Bool.true_and, Bool.and_eq_true, ctn_iff, decide_eq_true_eq]
  constructor
  · rintro ⟨⟨hv, h1, h2⟩, _, h3, h4⟩
    refine ⟨⟨hv, h1, h2⟩, ?_⟩
    have ⟨n0, n1, nm⟩ := vld_iff.1 hv
    apply Decidable.byContradiction
    intro hc
    have e1 := sz_half m g0 (by omega)
    have e2 := sz_mono (n := m + 1) (m := n) (by omega)
    have e3 := sz_pos n
    omega
  · rintro ⟨⟨hv, h1, h2⟩, hnm⟩
    refine ⟨⟨hv, h1, h2⟩, hv, by have := sz_pos m; omega, ?_⟩
    have ⟨n0, n1, nm⟩ := vld_iff.1 hv
    have hb := sz_dvd hnm a nm
    have hs := sz_dvd hnm (sz n) (Int.emod_self)
    have hp := sz_pos m
    have ea := Int.mul_ediv_add_emod a (sz m)
    have eb := Int.mul_ediv_add_emod b (sz m)
    have es := Int.mul_ediv_add_emod (sz n) (sz m)
    rw [hb] at ea; rw [gm] at eb; rw [hs] at es
    generalize sz n = u at *
    generalize sz m = v at *
    generalize a / v = x at *
    generalize b / v = y at *
    generalize u / v = z at *
    have hlt : y < x + z := by
      apply Decidable.byContradiction; intro hc
      have : v * (x + z) ≤ v * y := Int.mul_le_mul_of_nonneg_left (by omega) (by omega)
      rw [Int.mul_add] at this; omega
    have : v * (y + 1) ≤ v * (x + z) := Int.mul_le_mul_of_nonneg_left (by omega) (by omega)
    rw [Int.mul_add, Int.mul_add] at this
    omega
theorem cvs_no {a n b m : Int} (h : vld b m = false) : cvs a n b m = false := by simp [cvs, h]
theorem cvs_gt {a n b m : Int} (h : ¬ n ≤ m) : cvs a n b m = false := by simp [cvs, h]
theorem cvs_le {a n b m : Int} (h : vld b m = true) (h2 : n ≤ m) : cvs a n b m = ctn a n b := by simp [cvs, h, h2]
/-- the greatest number of first bits that two addresses share -/
def cmn (a b : Int) : Int := 32 - (Lib.bitLen (a.toNat ^^^ b.toNat) : Int)
theorem bitLenAux_iff : ∀ (f x k : Nat), x < 2 ^ f → (Lib.bitLenAux f x ≤ k ↔ x < 2 ^ k)
  | 0, x, k, h => by simp at h; subst h; simp [Lib.bitLenAux]; exact Nat.pow_pos (by omega)
  | f + 1, x, 0, h => by
    by_cases hx : x = 0
    · subst hx; simp [Lib.bitLenAux]
    · simp [Lib.bitLenAux, hx]
  | f + 1, x, k + 1, h => by
    by_cases hx : x = 0
    · subst hx; simp [Lib.bitLenAux]; exact Nat.pow_pos (by omega)
    · have ih := bitLenAux_iff f (x / 2) k (by rw [Nat.pow_succ] at h; omega)
      simp only [Lib.bitLenAux, hx, if_false]
      rw [Nat.pow_succ]
      omega
theorem nat_xor_zero (x y : Nat) : x ^^^ y = 0 ↔ x = y := by
  constructor
  · intro h
    apply Nat.eq_of_testBit_eq
    intro i
    have := congrArg (fun z => z.testBit i) h
    simp only [Nat.testBit_xor, Nat.zero_testBit] at this
    revert this; cases x.testBit i <;> cases y.testBit i <;> simp
  · rintro rfl; exact Nat.xor_self _
theorem cmn_le (a b n : Int) (ha : 0 ≤ a) (ha1 : a < 4294967296) (hb : 0 ≤ b) (hb1 : b < 4294967296) (h0 : 0 ≤ n) (h1 : n ≤ 32) : n ≤ cmn a b ↔ a / sz n = b / sz n := by
  have hx : a.toNat ^^^ b.toNat < 2 ^ 32 := Nat.xor_lt_two_pow (by omega) (by omega)
  have hk := bitLenAux_iff 64 (a.toNat ^^^ b.toNat) (32 - n.toNat) (Nat.lt_of_lt_of_le hx (by decide))
  have e1 : n ≤ cmn a b ↔ Lib.bitLenAux 64 (a.toNat ^^^ b.toNat) ≤ 32 - n.toNat := by unfold cmn Lib.bitLen; omega
  rw [e1, hk]
  have e2 : a.toNat ^^^ b.toNat < 2 ^ (32 - n.toNat) ↔ (a.toNat ^^^ b.toNat) / 2 ^ (32 - n.toNat) = 0 := by
    rw [Nat.div_eq_zero_iff]; have := Nat.pow_pos (n := 32 - n.toNat) (show 0 < 2 by omega); omega
  rw [e2, ← Nat.shiftRight_eq_div_pow, Nat.shiftRight_xor_distrib, nat_xor_zero, Nat.shiftRight_eq_div_pow, Nat.shiftRight_eq_div_pow]
  unfold sz
  have ca : a / ((2 ^ (32 - n.toNat) : Nat) : Int) = ((a.toNat / 2 ^ (32 - n.toNat) : Nat) : Int) := by rw [Int.natCast_ediv, Int.toNat_of_nonneg ha]
  have cb : b / ((2 ^ (32 - n.toNat) : Nat) : Int) = ((b.toNat / 2 ^ (32 - n.toNat) : Nat) : Int) := by rw [Int.natCast_ediv, Int.toNat_of_nonneg hb]
  rw [ca, cb]
  omega
theorem cmn_range (a b : Int) (ha1 : a < 4294967296) (hb1 : b < 4294967296) : 0 ≤ cmn a b ∧ cmn a b ≤ 32 := by
  have hx : a.toNat ^^^ b.toNat < 2 ^ 32 := Nat.xor_lt_two_pow (by omega) (by omega)
  have := Lib.bitLen_le (a.toNat ^^^ b.toNat) 32 (by omega) hx
  unfold cmn; omega
theorem quo_sz (a n : Int) : a / sz n * sz n = a - a % sz n := by
  have := Int.mul_ediv_add_emod a (sz n)
  rw [Int.mul_comm] at this; omega
theorem mod_sz (a n : Int) (ha : 0 ≤ a) : 0 ≤ a % sz n ∧ a % sz n ≤ a := by
  have h := sz_pos n
  refine ⟨Int.emod_nonneg _ (by omega), ?_⟩
  have e := quo_sz a n
  have : 0 ≤ a / sz n * sz n := Int.mul_nonneg (Int.ediv_nonneg ha (by omega)) (by omega)
  omega
/-- the prefix of n bits about a contains b exactly if a and b share n bits. -/
theorem ctn_cmn (a b n : Int) (ha : 0 ≤ a) (ha1 : a < 4294967296) (hb : 0 ≤ b) (hb1 : b < 4294967296) (h0 : 0 ≤ n) (h1 : n ≤ 32) : ctn (a - a % sz n) n b = decide (n ≤ cmn a b) := by
  have hs := sz_pos n
  have hv : vld (a - a % sz n) n = true := by
    rw [vld_iff]; refine ⟨h0, h1, ?_⟩
    rw [← quo_sz]; exact Int.mul_emod_left _ _
  rw [← ctn_mask hv, Bool.eq_iff_iff, beq_iff_eq, decide_eq_true_eq, cmn_le a b n ha ha1 hb hb1 h0 h1, ← quo_sz, ← quo_sz]
  constructor
  · intro e; exact (Int.eq_of_mul_eq_mul_right (by omega) e).symm
  · intro e; rw [e]
theorem cmn_zero (a b : Int) (h : cmn a b = 0) (ha : 0 ≤ a) (ha1 : a < 4294967296) : a - a % sz (cmn a b) = 0 := by
  rw [h, sz_0]; omega
theorem mult_lt {s a b : Int} (hs : 0 < s) (ha : a % s = 0) (hb : b % s = 0) (h : a < b + s) : a ≤ b := by
  have ea := Int.mul_ediv_add_emod a s
  have eb := Int.mul_ediv_add_emod b s
  rw [ha] at ea; rw [hb] at eb
  generalize a / s = x at *
  generalize b / s = y at *
  apply Decidable.byContradiction; intro hc
  have hlt : y < x := by
    apply Decidable.byContradiction; intro h2
    have : s * x ≤ s * y := Int.mul_le_mul_of_nonneg_left (by omega) (by omega)
    omega
  have : s * (y + 1) ≤ s * x := Int.mul_le_mul_of_nonneg_left (by omega) (by omega)
  rw [Int.mul_add] at this
  omega
theorem overlap_one (a n b m : Int) (hp : vld a n = true) (hq : vld b m = true) (h : n ≤ m) (h1 : a ≤ b + (sz m - 1)) (h2 : b ≤ a + (sz n - 1)) : cvs a n b m = true := by
  have ⟨n0, n1, nm⟩ := vld_iff.1 hp
  have ⟨m0, m1, mm⟩ := vld_iff.1 hq
  have hs := sz_pos m
  have := mult_lt (by omega) (sz_dvd h a nm) mm (show a < b + sz m by omega)
  rw [cvs_le hq h, ctn_iff]
  exact ⟨hp, this, by omega⟩
theorem overlap_iff (a n b m : Int) (hp : vld a n = true) (hq : vld b m = true) : (decide (a ≤ b + (sz m - 1)) && decide (b ≤ a + (sz n - 1))) = (cvs a n b m || cvs b m a n) := by
  rw [Bool.eq_iff_iff]
  simp only [Bool.and_eq_true, Bool.or_eq_true, decide_eq_true_eq]
  have hs := sz_pos m
  have hs2 := sz_pos n
  constructor
  · rintro ⟨h1, h2⟩
    by_cases h : n ≤ m
    · exact Or.inl (overlap_one a n b m hp hq h h1 h2)
    · exact Or.inr (overlap_one b m a n hq hp (by omega) h2 h1)
  · rintro (h | h)
    · simp only [cvs, Bool.and_eq_true, ctn_iff] at h; omega
    · simp only [cvs, Bool.and_eq_true, ctn_iff] at h; omega
/-- halves divide a prefix -/
theorem halves_ctn (a n x : Int) (hp : vld a n = true) (hn : n ≠ 32) : vld a (n + 1) = true ∧ vld (a + sz (n + 1)) (n + 1) = true ∧ ctn a n x = (ctn a (n + 1) x || ctn (a + sz (n + 1)) (n + 1) x) ∧ (ctn a (n + 1) x && ctn (a + sz (n + 1)) (n + 1) x) = false := by
  have ⟨n0, n1, nm⟩ := vld_iff.1 hp
  have e := sz_half n n0 (by omega)
  have hd := sz_dvd (n := n) (m := n + 1) (by omega) a nm
  have hv : vld a (n + 1) = true := vld_iff.2 ⟨by omega, by omega, hd⟩
  have hv2 : vld (a + sz (n + 1)) (n + 1) = true := vld_iff.2 ⟨by omega, by omega, by rw [Int.add_emod_right]; exact hd⟩
  have hs := sz_pos (n + 1)
  refine ⟨hv, hv2, ?_, ?_⟩
  · rw [Bool.eq_iff_iff, Bool.or_eq_true, ctn_iff, ctn_iff, ctn_iff]; simp only [hp, hv, hv2, true_and]; omega
  · rw [Bool.eq_false_iff]; simp only [ne_eq, Bool.and_eq_true, ctn_iff]; omega
/-- Common is the longest prefix -/
theorem cmn_eq (a b : Int) (ha : 0 ≤ a) (ha1 : a < 4294967296) (hb : 0 ≤ b) (hb1 : b < 4294967296) : (a == b) = (cmn a b == 32) := by
  have ⟨r0, r1⟩ := cmn_range a b ha1 hb1
  have h := cmn_le a b 32 ha ha1 hb hb1 (by omega) (by omega)
  rw [sz_32] at h
  rw [Bool.eq_iff_iff, beq_iff_eq, beq_iff_eq]
  omega
theorem cmn_halves (a b : Int) (ha : 0 ≤ a) (ha1 : a < 4294967296) (hb : 0 ≤ b) (hb1 : b < 4294967296) (hc : cmn a b ≠ 32) :
    ctn (a - a % sz (cmn a b)) (cmn a b + 1) a = !ctn (a - a % sz (cmn a b)) (cmn a b + 1) b := by
  have ⟨r0, r1⟩ := cmn_range a b ha1 hb1
  have hv : vld (a - a % sz (cmn a b)) (cmn a b) = true := by
    rw [vld_iff]; exact ⟨r0, r1, by rw [← quo_sz]; exact Int.mul_emod_left _ _⟩
  have ca := ctn_cmn a a (cmn a b) ha ha1 ha ha1 r0 r1
  have cb := ctn_cmn a b (cmn a b) ha ha1 hb hb1 r0 r1
  have aa : cmn a b ≤ cmn a a := by rw [cmn_le a a _ ha ha1 ha ha1 r0 r1]
  have ⟨v1, v2, ha1', ha2⟩ := halves_ctn (a - a % sz (cmn a b)) (cmn a b) a hv hc
  have ⟨_, _, hb1', hb2⟩ := halves_ctn (a - a % sz (cmn a b)) (cmn a b) b hv hc
  rw [ca] at ha1'
  rw [cb] at hb1'
  simp only [aa, decide_true] at ha1'
  simp only [Int.le_refl, decide_true] at hb1'
  -- were both in one half, they would share one bit more
  have hno : a / sz (cmn a b + 1) ≠ b / sz (cmn a b + 1) := by
    intro e
    have := (cmn_le a b (cmn a b + 1) ha ha1 hb hb1 (by omega) (by omega)).2 e
    omega
  have same : ∀ l, vld l (cmn a b + 1) = true → ctn l (cmn a b + 1) a = true → ctn l (cmn a b + 1) b = true → False := by
    intro l hl h1 h2
    rw [← ctn_mask hl, beq_iff_eq, ← quo_sz] at h1 h2
    exact hno (Int.eq_of_mul_eq_mul_right (by have := sz_pos (cmn a b + 1); omega) (h1.trans h2.symm))
  cases hp : ctn (a - a % sz (cmn a b)) (cmn a b + 1) a
  · rw [hp] at ha1'
    simp only [Bool.false_or] at ha1'
    cases hb : ctn (a - a % sz (cmn a b)) (cmn a b + 1) b
    · rw [hb] at hb1'
      simp only [Bool.false_or] at hb1'
      exact (same _ v2 ha1'.symm hb1'.symm).elim
    · rfl
  · cases hb : ctn (a - a % sz (cmn a b)) (cmn a b + 1) b
    · rfl
    · exact (same _ v1 hp hb).elim
end Go.Proofs.YtikkobmccagdlaaGreatDoor
