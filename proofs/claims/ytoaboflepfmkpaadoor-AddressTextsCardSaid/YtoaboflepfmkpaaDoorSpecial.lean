/- Special: the landed one reads the table of special prefixes, the document's looks at the first two bytes. -/
import Derived.Test.YtoaboflepfmkpaaDoorCom
import Derived.WalkKit
import Derived.WalkSpells
import Derived.WalkLawsBesides
import Derived.WalkSmall
import Derived.Handy
import Derived.BigQuiet
import Derived.Deep.QuietTactic
import Derived.Deep.RegionHeld3
import Derived.Deep.DeepFit
import Derived.Below
import Derived.Lib.Hide
import Derived.Lib.QuietBelow
import Derived.Laws.Rows
namespace Go.Proofs.YtoaboflepfmkpaaDoor
open Go Go.RowKit Go.Sort
set_option maxRecDepth 100000
set_option linter.unusedVariables false

def spCells : Array Value := #[.int .u32 0, .int .i64 8, .int .i64 1, .int .u32 2130706432, .int .i64 8, .int .i64 2, .int .u32 167772160, .int .i64 8, .int .i64 3, .int .u32 2886729728, .int .i64 12, .int .i64 3, .int .u32 3232235520, .int .i64 16, .int .i64 3, .int .u32 2851995648, .int .i64 16, .int .i64 4, .int .u32 3758096384, .int .i64 4, .int .i64 5, .int .u32 4026531840, .int .i64 4, .int .i64 6]
theorem lit_yes (a n s x : Int) (hv : (vld a n && (sz n == s)) = true) (h : a ≤ x ∧ x < a + s) : ctn a n x = true := by
  simp only [Bool.and_eq_true, beq_iff_eq] at hv
  rw [ctn_iff]; exact ⟨hv.1, h.1, by rw [hv.2]; exact h.2⟩
theorem lit_no (a n s x : Int) (hv : (vld a n && (sz n == s)) = true) (h : ¬ (a ≤ x ∧ x < a + s)) : ctn a n x = false := by
  simp only [Bool.and_eq_true, beq_iff_eq] at hv
  rw [Bool.eq_false_iff, ne_eq, ctn_iff]; intro h2; rw [hv.2] at h2; exact h ⟨h2.2.1, h2.2.2⟩
theorem i64_and255 (n : Int) : bits .and .i64 n 255 = n % 256 := by
  have h255 : (BitVec.ofInt 64 255).toNat = 2 ^ 8 - 1 := by decide
  have key : (BitVec.ofInt 64 n &&& BitVec.ofInt 64 255).toNat = (n % ((2 ^ 64 : Nat) : Int)).toNat % 2 ^ 8 := by
    rw [BitVec.toNat_and, BitVec.toNat_ofInt, h255, Nat.and_two_pow_sub_one_eq_mod]
  show IntKind.i64.wrap ((BitVec.ofInt 64 n &&& BitVec.ofInt 64 255).toNat : Nat) = n % 256
  rw [key, IntKind.wrap_i64]
  omega
/-- changing the lowest bits -/
theorem xor_low (x k m : Nat) (hm : m < 2 ^ k) : (x ^^^ m) / 2 ^ k = x / 2 ^ k ∧ (x ^^^ m) % 2 ^ k = (x % 2 ^ k) ^^^ m := by
  constructor
  · rw [← Nat.shiftRight_eq_div_pow, Nat.shiftRight_xor_distrib, Nat.shiftRight_eq_div_pow, Nat.shiftRight_eq_div_pow, Nat.div_eq_of_lt hm, Nat.xor_zero]
  · rw [Nat.xor_mod_two_pow, Nat.mod_eq_of_lt hm]
theorem xor_u32 (a m : Int) (k : Nat) (h0 : 0 ≤ a) (h1 : a < 4294967296) (m0 : 0 ≤ m) (m1 : m.toNat < 2 ^ k) (hk : k ≤ 32) :
    0 ≤ bits .xor .u32 a m ∧ bits .xor .u32 a m < 4294967296 ∧ bits .xor .u32 a m / ((2 ^ k : Nat) : Int) = a / ((2 ^ k : Nat) : Int) ∧ bits .xor .u32 a m % ((2 ^ k : Nat) : Int) = ((a.toNat % 2 ^ k ^^^ m.toNat : Nat) : Int) ∧ bits .xor .u32 (bits .xor .u32 a m) m = a := by
  have hp := Nat.pow_le_pow_right (show 0 < 2 by omega) hk
  have hm : m < 4294967296 := by omega
  have e := u32_xor a m h0 h1 m0 hm
  have hx : a.toNat ^^^ m.toNat < 2 ^ 32 := Nat.xor_lt_two_pow (by omega) (by omega)
  have ⟨x1, x2⟩ := xor_low a.toNat k m.toNat m1
  have r0 : 0 ≤ bits .xor .u32 a m := by rw [e]; omega
  have r1 : bits .xor .u32 a m < 4294967296 := by rw [e]; omega
  have ea : a = ((a.toNat : Nat) : Int) := (Int.toNat_of_nonneg h0).symm
  refine ⟨r0, r1, ?_, ?_, ?_⟩
  · rw [e, ← Int.natCast_ediv, x1, Int.natCast_ediv, ← ea]
  · rw [e, ← Int.natCast_emod, x2]
  · rw [u32_xor _ m r0 r1 m0 hm, e]
    simp only [Int.toNat_natCast]
    rw [Nat.xor_assoc, Nat.xor_self, Nat.xor_zero, ← ea]
/-- the mate of a mate is the address itself, and both share 30 bits -/
theorem mate_back (a n : Int) (h0 : 0 ≤ a) (h1 : a < 4294967296) (h : mtE a n = 0) : 0 ≤ mtV a n ∧ mtV a n < 4294967296 ∧ mtE (mtV a n) n = 0 ∧ mtV (mtV a n) n = a ∧ 30 ≤ cmn a (mtV a n) := by
  have s30 : sz 30 = 4 := by decide +kernel
  by_cases n31 : n = 31
  · have ev : ∀ x, mtV x n = bits .xor .u32 x 1 := fun x => by simp [mtV, n31]
    have ⟨r0, r1, q, _, b⟩ := xor_u32 a 1 1 h0 h1 (by omega) (by decide) (by omega)
    rw [ev, ev]
    refine ⟨r0, r1, by simp [mtE, n31], b, ?_⟩
    rw [cmn_le a _ 30 h0 h1 r0 r1 (by omega) (by omega), s30]
    simp only [Nat.pow_one] at q
    omega
  · by_cases n30 : n = 30
    · have hm : ¬ (a % 4 = 0 ∨ a % 4 = 3) := by
        intro hc; simp [mtE, n30, hc] at h
      have ⟨r0, r1, q, m, b⟩ := xor_u32 a 3 2 h0 h1 (by omega) (by decide) (by omega)
      have e4 : ((2 ^ 2 : Nat) : Int) = 4 := rfl
      rw [e4] at q m
      have hcase : a.toNat % 2 ^ 2 = 1 ∨ a.toNat % 2 ^ 2 = 2 := by omega
      have hm2 : ¬ (bits .xor .u32 a 3 % 4 = 0 ∨ bits .xor .u32 a 3 % 4 = 3) := by
        rcases hcase with hc | hc <;> rw [hc] at m <;> rw [m] <;> decide
      have e1 : mtV a n = bits .xor .u32 a 3 := by simp [mtV, n30, hm]
      rw [e1]
      refine ⟨r0, r1, by simp [mtE, n30, hm2], ?_, ?_⟩
      · simp only [mtV, n30]; simp [hm2, b]
      · rw [cmn_le a _ 30 h0 h1 r0 r1 (by omega) (by omega), s30]; exact q.symm
    · simp [mtE, n31, n30] at h
end Go.Proofs.YtoaboflepfmkpaaDoor
