/- Decimal texts of numbers, as mathematics. -/
import Derived.Lib.ItoaNum
import Derived.Lib.Repeat
import Derived.Lib.TrimByte
import Derived.Lib.Join
import Derived.Lib.Atoi
namespace Go.Proofs.YtikkobmccagdlaaGreatDoor
open Go
/-- a digit -/
def dgc (n : Nat) : UInt8 := UInt8.ofNat (48 + n)
theorem dgc_nat {n : Nat} (h : n < 10) : (dgc n).toNat = 48 + n := by unfold dgc; rw [UInt8.toNat_ofNat']; omega
theorem dgc_ne {n : Nat} (h : n < 10) (h0 : 0 < n) : (dgc n == 48) = false := by
  rw [beq_eq_false_iff_ne]; intro e
  have := dgc_nat h
  rw [e] at this
  have h48 : (48 : UInt8).toNat = 48 := rfl
  omega
/-- the last k digits of n -/
def pd : Nat → Nat → List UInt8
  | 0, _ => []
  | k + 1, n => pd k (n / 10) ++ [dgc (n % 10)]
theorem pd_len : ∀ k n, (pd k n).length = k
  | 0, _ => rfl
  | k + 1, n => by rw [pd, List.length_append, pd_len k]; rfl
theorem pd_mod : ∀ k n, pd k (n % 10 ^ k) = pd k n
  | 0, _ => rfl
  | k + 1, n => by
    have h1 : n % 10 ^ (k + 1) / 10 = n / 10 % 10 ^ k := by
      rw [Nat.pow_succ, Nat.mul_comm, Nat.mod_mul_right_div_self]
    have h2 : n % 10 ^ (k + 1) % 10 = n % 10 := by
      rw [Nat.pow_succ, Nat.mod_mul_left_mod]
    rw [pd, pd, h1, h2, pd_mod k]
theorem pd_add (j : Nat) : ∀ k n, pd (j + k) n = pd j (n / 10 ^ k) ++ pd k n
  | 0, n => by simp [pd]
  | k + 1, n => by
    rw [show j + (k + 1) = (j + k) + 1 from rfl, pd, pd, pd_add j k, List.append_assoc, Nat.div_div_eq_div_mul, Nat.pow_succ, Nat.mul_comm 10]
theorem pd_zero : ∀ k, pd k 0 = List.replicate k 48
  | 0 => rfl
  | k + 1 => by
    rw [pd, Nat.zero_div, pd_zero k, Nat.zero_mod, List.replicate_succ']
    rfl
theorem dd_step {n : Nat} (h : ¬ n < 10) : Lib.decDigits n = Lib.decDigits (n / 10) ++ [dgc (n % 10)] := by rw [Lib.decDigits, dif_neg h]; rfl
theorem dd_one {n : Nat} (h : n < 10) : Lib.decDigits n = [dgc n] := by rw [Lib.decDigits, dif_pos h]; rfl
/-- a number's digits behind zeros -/
theorem pd_digits : ∀ k n, n < 10 ^ k → 0 < k → Lib.nDigits n ≤ k ∧ pd k n = List.replicate (k - Lib.nDigits n) 48 ++ Lib.decDigits n
  | 0, _, _, h => absurd h (by omega)
  | k + 1, n, h, _ => by
    by_cases hn : n < 10
    · rw [Lib.nDigits_small hn, dd_one hn, pd, show n / 10 = 0 by omega, pd_zero, Nat.mod_eq_of_lt hn]
      exact ⟨by omega, rfl⟩
    · have hk : 0 < k := by
        rcases Nat.eq_zero_or_pos k with rfl | h0
        · simp at h; omega
        · exact h0
      obtain ⟨h1, h2⟩ := pd_digits k (n / 10) (by rw [Nat.pow_succ] at h; omega) hk
      rw [Lib.nDigits_big hn, dd_step hn, pd, h2]
      exact ⟨by omega, by rw [show k + 1 - (Lib.nDigits (n / 10) + 1) = k - Lib.nDigits (n / 10) by omega, List.append_assoc]⟩
/-- a number that is not 0 has a leading digit that is not 0 -/
theorem dd_lead {n : Nat} : 0 < n → ∃ c l, Lib.decDigits n = c :: l ∧ (c == 48) = false := by
  induction n using Nat.strongRecOn with
  | _ n ih =>
    intro h0
    by_cases hn : n < 10
    · exact ⟨dgc n, [], dd_one hn, dgc_ne hn h0⟩
    · obtain ⟨c, l, e, hc⟩ := ih (n / 10) (by omega) (by omega)
      exact ⟨c, l ++ [dgc (n % 10)], by rw [dd_step hn, e]; rfl, hc⟩
theorem drop_zeros (k : Nat) (l : List UInt8) : (List.replicate k (48 : UInt8) ++ l).dropWhile (· == 48) = l.dropWhile (· == 48) := by
  induction k with
  | zero => rfl
  | succ k ih => rw [List.replicate_succ, List.cons_append, List.dropWhile_cons_of_pos (by rfl)]; exact ih
theorem trim_pd {k n : Nat} (h : n < 10 ^ k) (h0 : 0 < n) : Lib.trimLeftB (pd k n) 48 = Lib.decDigits n := by
  have hk : 0 < k := by
    rcases Nat.eq_zero_or_pos k with rfl | hk
    · simp at h; omega
    · exact hk
  unfold Lib.trimLeftB
  rw [(pd_digits k n h hk).2, drop_zeros]
  obtain ⟨c, l, e, hc⟩ := dd_lead h0
  rw [e, List.dropWhile_cons_of_neg (by simpa using hc)]
theorem rep_zeros (k : Nat) : Lib.repeatL [48] k = List.replicate k 48 := by
  induction k with
  | zero => rfl
  | succ k ih => rw [Lib.repeatL, ih, List.replicate_succ]; rfl
/-- what padded answers -/
theorem padded_eq {n : Nat} (h : n < 1000000000) : Lib.repeatL [48] (9 - (Lib.decDigits n).length) ++ Lib.decDigits n = pd 9 n ∧ (Lib.decDigits n).length ≤ 9 := by
  obtain ⟨h1, h2⟩ := pd_digits 9 n (by simpa using h) (by omega)
  rw [h2, Lib.decDigits_length, rep_zeros]
  exact ⟨rfl, h1⟩
/-- the groups that Text gathers, the last first -/
def grp : Nat → Nat → List (List UInt8)
  | 0, _ => []
  | j + 1, n => grp j n ++ [pd 9 (n / 10 ^ (9 * j) % 1000000000)]
theorem grp_len : ∀ j n, (grp j n).length = j
  | 0, _ => rfl
  | j + 1, n => by rw [grp, List.length_append, grp_len j]; rfl
theorem grp_join : ∀ j n, (grp j n).reverse.flatten = pd (9 * j) n
  | 0, _ => rfl
  | j + 1, n => by
    have h := pd_mod 9 (n / 10 ^ (9 * j))
    rw [grp, List.reverse_append, List.flatten_append, grp_join j, show 9 * (j + 1) = 9 + 9 * j by omega, pd_add 9 (9 * j)]
    simp only [List.reverse_singleton, List.flatten_singleton]
    rw [show (1000000000 : Nat) = 10 ^ 9 from rfl, h]
theorem join_nil (l : List (List UInt8)) : Lib.join l [] = l.flatten := by
  unfold Lib.join
  induction l with
  | nil => rfl
  | cons a l ih =>
    cases l with
    | nil => simp [List.intercalate]
    | cons b l => simpa [List.intercalate, List.intersperse] using ih
/-- the number that digits spell -/
def nval (l : List UInt8) : Nat := l.foldl (fun a c => a * 10 + (c.toNat - 48)) 0
theorem nval_from (l : List UInt8) : ∀ a, l.foldl (fun a c => a * 10 + (c.toNat - 48)) a = a * 10 ^ l.length + nval l := by
  induction l with
  | nil => intro a; simp [nval]
  | cons c l ih =>
    intro a
    have e : nval (c :: l) = l.foldl (fun a c => a * 10 + (c.toNat - 48)) (0 * 10 + (c.toNat - 48)) := rfl
    rw [List.foldl_cons, ih, e, ih, List.length_cons, Nat.zero_mul, Nat.zero_add, Nat.add_mul, Nat.mul_assoc, Nat.pow_succ, Nat.mul_comm 10, Nat.add_assoc]
theorem nval_cons (c : UInt8) (l : List UInt8) : nval (c :: l) = (c.toNat - 48) * 10 ^ l.length + nval l := by
  rw [nval, List.foldl_cons, nval_from, Nat.zero_mul, Nat.zero_add]
theorem nval_append (a b : List UInt8) : nval (a ++ b) = nval a * 10 ^ b.length + nval b := by
  rw [nval, List.foldl_append, nval_from]; rfl
theorem nval_digits (n : Nat) : nval (Lib.decDigits n) = n := by
  induction n using Nat.strongRecOn with
  | _ n ih =>
    by_cases hn : n < 10
    · rw [dd_one hn, nval, List.foldl_cons, List.foldl_nil, dgc_nat hn]; omega
    · rw [dd_step hn, nval_append, ih (n / 10) (by omega), List.length_singleton, nval, List.foldl_cons, List.foldl_nil, dgc_nat (Nat.mod_lt _ (by omega))]; omega
/-- digits alone -/
def digs (l : List UInt8) : Prop := ∀ c ∈ l, 48 ≤ c.toNat ∧ c.toNat ≤ 57
theorem digs_dd (n : Nat) : digs (Lib.decDigits n) := by
  induction n using Nat.strongRecOn with
  | _ n ih =>
    by_cases hn : n < 10
    · rw [dd_one hn]; intro c hc; rw [List.mem_singleton] at hc; subst hc; have := dgc_nat hn; omega
    · rw [dd_step hn]; intro c hc
      rcases List.mem_append.1 hc with hc | hc
      · exact ih (n / 10) (by omega) c hc
      · rw [List.mem_singleton] at hc; subst hc; have := dgc_nat (n := n % 10) (Nat.mod_lt _ (by omega)); omega
theorem nval_lt {l : List UInt8} (h : digs l) : nval l < 10 ^ l.length := by
  induction l with
  | nil => simp [nval]
  | cons c l ih =>
    have h1 := h c (by simp)
    have h2 := ih (fun x hx => h x (by simp [hx]))
    have e : nval (c :: l) = (c.toNat - 48) * 10 ^ l.length + nval l := by rw [nval, List.foldl_cons, nval_from, Nat.zero_mul, Nat.zero_add]
    rw [e, List.length_cons, Nat.pow_succ]
    have h3 : (c.toNat - 48) * 10 ^ l.length ≤ 9 * 10 ^ l.length := Nat.mul_le_mul_right _ (by omega)
    omega
theorem dec_from {l : List UInt8} (h : digs l) : ∀ a, Lib.decFrom a l = some (a * 10 ^ l.length + nval l) := by
  induction l with
  | nil => intro a; simp [Lib.decFrom, nval]
  | cons c l ih =>
    intro a
    have h1 := h c (by simp)
    rw [Lib.decFrom, show Lib.digitVal c = some (c.toNat - 48) by unfold Lib.digitVal; rw [if_pos h1]]
    show Lib.decFrom (a * 10 + (c.toNat - 48)) l = _
    rw [ih (fun x hx => h x (by simp [hx])), nval_cons, List.length_cons, Nat.add_mul, Nat.mul_assoc, Nat.pow_succ, Nat.mul_comm 10, Nat.add_assoc]
theorem atoi_digs {l : List UInt8} (h : digs l) (h0 : l ≠ []) : Lib.atoi l = some ((nval l : Nat) : Int) := by
  cases l with
  | nil => exact absurd rfl h0
  | cons c l =>
    have h1 := h c (by simp)
    have c45 : (c == 45) = false := by rw [beq_eq_false_iff_ne]; intro e; subst e; have : (45 : UInt8).toNat = 45 := rfl; omega
    have c43 : (c == 43) = false := by rw [beq_eq_false_iff_ne]; intro e; subst e; have : (43 : UInt8).toNat = 43 := rfl; omega
    rw [Lib.atoi, c45, c43]
    simp only [Bool.false_eq_true, if_false]
    rw [Lib.decNat, show (c :: l).isEmpty = false from rfl]
    simp only [Bool.false_eq_true, if_false]
    rw [dec_from h, Nat.zero_mul, Nat.zero_add]; rfl
/-- longer texts are greater numbers -/
theorem dd_len_lt {a b : Nat} (h : (Lib.decDigits b).length < (Lib.decDigits a).length) : b < a := by
  rcases Nat.lt_or_ge b a with hab | hab
  · exact hab
  · exfalso
    have mono : ∀ a b, a ≤ b → Lib.nDigits a ≤ Lib.nDigits b := by
      intro a
      induction a using Nat.strongRecOn with
      | _ a ih =>
        intro b hb
        by_cases h1 : a < 10
        · rw [Lib.nDigits_small h1]; exact Lib.nDigits_pos b
        · rw [Lib.nDigits_big h1, Lib.nDigits_big (show ¬ b < 10 by omega)]
          have := ih (a / 10) (by omega) (b / 10) (by omega)
          omega
    rw [Lib.decDigits_length, Lib.decDigits_length] at h
    have := mono a b hab
    omega
theorem dd_inj {a b : Nat} (h : Lib.decDigits a = Lib.decDigits b) : a = b := by rw [← nval_digits a, h, nval_digits]
end Go.Proofs.YtikkobmccagdlaaGreatDoor
