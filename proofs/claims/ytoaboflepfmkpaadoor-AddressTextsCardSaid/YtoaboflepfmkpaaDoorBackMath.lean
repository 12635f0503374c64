/- Plain mathematics: addresses and prefixes come back from their texts. -/
import Derived.Test.YtoaboflepfmkpaaDoorPrefix
namespace Go.Proofs.YtoaboflepfmkpaaDoor
open Go Go.RowKit

theorem dd_all : ∀ k : Nat, k ≤ 255 → dval (dd k) = k ∧ numOk (dd k) 255 = true ∧ (dd k).all isDig = true ∧ (k ≤ 32 → numOk (dd k) 32 = true) := by decide +kernel
theorem dd_val (n : Int) (h0 : 0 ≤ n) (h1 : n ≤ 255) : dval (dd n) = n ∧ numOk (dd n) 255 = true ∧ (dd n).all isDig = true ∧ (n ≤ 32 → numOk (dd n) 32 = true) := by
  obtain ⟨k, rfl⟩ := Int.eq_ofNat_of_zero_le h0
  have ⟨a, b, c, d⟩ := dd_all k (by omega)
  exact ⟨a, b, c, fun h => d (by omega)⟩
/-- cutting behind a text without the byte -/
theorem cutAt_app (c : UInt8) (r : List UInt8) : ∀ x : List UInt8, (∀ y ∈ x, (y == c) = false) → cutAt c (x ++ c :: r) = (x, r, true)
  | [], _ => by rw [List.nil_append, cutAt_yes r (by simp)]
  | y :: x, h => by
    have hy := h y (List.mem_cons_self ..)
    rw [List.cons_append, cutAt_not _ (by rw [hy]; exact Bool.false_ne_true), cutAt_app c r x fun z hz => h z (List.mem_cons_of_mem _ hz)]
theorem cutAt_none (c : UInt8) : ∀ x : List UInt8, (∀ y ∈ x, (y == c) = false) → cutAt c x = (x, [], false)
  | [], _ => rfl
  | y :: x, h => by
    have hy := h y (List.mem_cons_self ..)
    rw [cutAt_not _ (by rw [hy]; exact Bool.false_ne_true), cutAt_none c x fun z hz => h z (List.mem_cons_of_mem _ hz)]
theorem dig_ne {l : List UInt8} {c : UInt8} (h : l.all isDig = true) (hc : isDig c = false) : ∀ y ∈ l, (y == c) = false := by
  intro y hy
  have := List.all_eq_true.1 h y hy
  cases e : y == c
  · rfl
  · rw [beq_iff_eq] at e; subst e; rw [hc] at this; cases this
theorem parts_app (c : UInt8) (x r : List UInt8) (h : ∀ y ∈ x, (y == c) = false) : parts c (x ++ c :: r) = x :: parts c r := by
  rw [parts_cut, cutAt_app c r x h]; rfl
theorem parts_none (c : UInt8) (x : List UInt8) (h : ∀ y ∈ x, (y == c) = false) : parts c x = [x] := by
  rw [parts_cut, cutAt_none c x h]; rfl
theorem parse_fmt (a : Int) (h0 : 0 ≤ a) (h1 : a < 4294967296) : parseA (fmtA a) = some a := by
  have ⟨a1, b1, c1, _⟩ := dd_val (a / 16777216) (by omega) (by omega)
  have ⟨a2, b2, c2, _⟩ := dd_val (a / 65536 % 256) (by omega) (by omega)
  have ⟨a3, b3, c3, _⟩ := dd_val (a / 256 % 256) (by omega) (by omega)
  have ⟨a4, b4, c4, _⟩ := dd_val (a % 256) (by omega) (by omega)
  have n46 : isDig 46 = false := by decide
  have e : parts 46 (fmtA a) = [dd (a / 16777216), dd (a / 65536 % 256), dd (a / 256 % 256), dd (a % 256)] := by
    unfold fmtA
    simp only [List.append_assoc, List.cons_append]
    rw [parts_app _ _ _ (dig_ne c1 n46), parts_app _ _ _ (dig_ne c2 n46), parts_app _ _ _ (dig_ne c3 n46), parts_none _ _ (dig_ne c4 n46)]
  unfold parseA
  rw [e]
  simp only [List.length_cons, List.length_nil, if_true, addrOf, b1, b2, b3, b4, a1, a2, a3, a4]
  congr 1
  omega
theorem back_addr (a : Int) (h0 : 0 ≤ a) (h1 : a < 4294967296) : parV (fmtA a) = a ∧ parE (fmtA a) = 0 := by
  simp [parV, parE, parse_fmt a h0 h1]
theorem fmtA_no (a : Int) (h0 : 0 ≤ a) (h1 : a < 4294967296) : ∀ y ∈ fmtA a, (y == 47) = false := by
  have ⟨_, _, c1, _⟩ := dd_val (a / 16777216) (by omega) (by omega)
  have ⟨_, _, c2, _⟩ := dd_val (a / 65536 % 256) (by omega) (by omega)
  have ⟨_, _, c3, _⟩ := dd_val (a / 256 % 256) (by omega) (by omega)
  have ⟨_, _, c4, _⟩ := dd_val (a % 256) (by omega) (by omega)
  have n47 : isDig 47 = false := by decide
  intro y hy
  simp only [fmtA, List.mem_append, List.mem_cons] at hy
  rcases hy with ((hy | hy | hy) | hy | hy) | hy | hy
  · exact dig_ne c1 n47 y hy
  · subst hy; decide
  · exact dig_ne c2 n47 y hy
  · subst hy; decide
  · exact dig_ne c3 n47 y hy
  · subst hy; decide
  · exact dig_ne c4 n47 y hy
theorem back_pfx (a n : Int) (h0 : 0 ≤ a) (h1 : a < 4294967296) (hv : vld a n = true) : ppA (fmtP a n) = a ∧ ppN (fmtP a n) = n ∧ ppE (fmtP a n) = 0 := by
  have ⟨n0, n1, _⟩ := vld_iff.1 hv
  have ⟨e1, e2⟩ := back_addr a h0 h1
  have ⟨d1, _, _, d4⟩ := dd_val n n0 (by omega)
  have hn := d4 n1
  have hc : cutAt 47 (fmtP a n) = (fmtA a, dd n, true) := by
    unfold fmtP; rw [if_pos hv]; exact cutAt_app 47 _ _ (fmtA_no a h0 h1)
  have hN : numV (dd n) 32 = n := by rw [numV_yes hn, d1]
  have ho : ppOk (fmtP a n) = true := by simp [ppOk, hc, e1, e2, hn, hN, hv]
  simp [ppA, ppN, ppE, ho, hc, e1, hN]
end Go.Proofs.YtoaboflepfmkpaaDoor
