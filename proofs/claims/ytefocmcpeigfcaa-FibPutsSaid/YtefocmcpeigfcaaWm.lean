/- One's complement sums as plain numbers. -/
import Derived.Lib.Hide
namespace Go.Proofs.Ytefocmcpeigfcaa
open Go
set_option maxRecDepth 100000
set_option linter.unusedVariables false
/-- the one's complement sum of a plain sum -/
def oc (s : Nat) : Nat := if s = 0 then 0 else (s - 1) % 65535 + 1
theorem oc_le (s : Nat) : oc s ≤ 65535 := by unfold oc; split <;> omega
theorem oc_small {s : Nat} (h : s ≤ 65535) : oc s = s := by unfold oc; split <;> omega
theorem oc_pos {s : Nat} (h : 0 < s) : 0 < oc s := by unfold oc; split <;> omega
theorem oc_mod (s : Nat) : oc s % 65535 = s % 65535 := by unfold oc; split <;> omega
theorem oc_congr {a b : Nat} (ha : 0 < a) (hb : 0 < b) (h : a % 65535 = b % 65535) : oc a = oc b := by
  unfold oc; rw [if_neg (by omega), if_neg (by omega)]; omega
theorem oc_fold {s : Nat} (h : 65535 < s) : oc (s / 65536 + s % 65536) = oc s := oc_congr (by omega) (by omega) (by omega)
theorem fold_lt {s : Nat} (h : 65535 < s) : s / 65536 + s % 65536 < s := by omega
theorem oc_add (a b : Nat) : oc (oc a + b) = oc (a + b) := by
  by_cases h : a = 0
  · subst h; rfl
  · have := oc_pos (s := a) (by omega)
    have := oc_mod a
    exact oc_congr (by omega) (by omega) (by omega)
theorem oc_add' (a b : Nat) : oc (a + oc b) = oc (a + b) := by rw [Nat.add_comm, oc_add, Nat.add_comm]
/-- the sum of bytes, taken in pairs: p says that the first is the less significant of its pair -/
def wsum : Bool → List Nat → Nat
  | _, [] => 0
  | false, x :: t => 256 * x + wsum true t
  | true, x :: t => x + wsum false t
def par (p : Bool) (n : Nat) : Bool := if n % 2 = 0 then p else !p
theorem par_succ (p : Bool) (n : Nat) : par p (n + 1) = par (!p) n := by
  unfold par; rcases Nat.mod_two_eq_zero_or_one n with h | h
  · rw [if_neg (by omega), if_pos h]
  · rw [if_pos (by omega), if_neg (by omega)]; simp
theorem wsum_append (p : Bool) (l m : List Nat) : wsum p (l ++ m) = wsum p l + wsum (par p l.length) m := by
  induction l generalizing p with
  | nil => cases p <;> simp [wsum, par]
  | cons x t ih => cases p <;> simp only [List.cons_append, wsum, ih, List.length_cons, par_succ, Bool.not_true, Bool.not_false] <;> omega
theorem wsum_even {l m : List Nat} (h : l.length % 2 = 0) : wsum false (l ++ m) = wsum false l + wsum false m := by
  rw [wsum_append]; unfold par; rw [if_pos h]
theorem take_add_one (l : List Nat) {i : Nat} (h : i < l.length) : l.take (i + 1) = l.take i ++ [l.getD i 0] := by
  rw [List.take_succ_eq_append_getElem h, List.getD_eq_getElem?_getD, List.getElem?_eq_getElem h]; rfl
theorem wsum_take_even {l : List Nat} {i : Nat} (h : i < l.length) (he : i % 2 = 0) : wsum false (l.take (i + 1)) = wsum false (l.take i) + 256 * l.getD i 0 := by
  rw [take_add_one l h, wsum_even (by rw [List.length_take, Nat.min_eq_left (by omega)]; exact he)]; simp [wsum]
theorem wsum_take_odd {l : List Nat} {i : Nat} (h : i < l.length) (he : i % 2 = 1) : wsum false (l.take (i + 1)) = wsum false (l.take i) + l.getD i 0 := by
  rw [take_add_one l h, wsum_append]; unfold par
  rw [List.length_take, Nat.min_eq_left (by omega), if_neg (by omega)]; simp [wsum]
theorem getD_lt {l : List Nat} (h : ∀ x ∈ l, x < 256) (i : Nat) : l.getD i 0 < 256 := by
  rw [List.getD_eq_getElem?_getD]
  cases hx : l[i]? with
  | none => simp
  | some y => exact h y (List.mem_of_getElem? hx)
theorem wsum_le (p : Bool) (l : List Nat) (h : ∀ x ∈ l, x < 256) : wsum p l ≤ 65280 * l.length := by
  induction l generalizing p with
  | nil => cases p <;> simp [wsum]
  | cons x t ih =>
    have hx := h x (List.mem_cons_self ..)
    have := ih (!p) (fun y hy => h y (List.mem_cons_of_mem _ hy))
    cases p <;> simp only [wsum, List.length_cons, Bool.not_true, Bool.not_false] at this ⊢ <;> omega
theorem wsum_pos {p : Bool} {l : List Nat} {i : Nat} (h : l.getD i 0 ≠ 0) : 0 < wsum p l := by
  induction l generalizing p i with
  | nil => simp at h
  | cons x t ih =>
    cases i with
    | zero =>
      have : x ≠ 0 := by simpa using h
      cases p <;> simp only [wsum] <;> omega
    | succ i =>
      have := ih (p := !p) (i := i) (by simpa using h)
      cases p <;> simp only [wsum, Bool.not_true, Bool.not_false] at this ⊢ <;> omega
theorem wsum_set_even (p : Bool) {l : List Nat} {i : Nat} (h : i < l.length) (x : Nat) (he : par p i = false) : wsum p (l.set i x) + 256 * l.getD i 0 = wsum p l + 256 * x := by
  induction l generalizing p i with
  | nil => simp at h
  | cons y t ih =>
    cases i with
    | zero =>
      have : p = false := by simpa [par] using he
      subst this
      simp [wsum]; omega
    | succ i =>
      rw [par_succ] at he
      have := ih (!p) (i := i) (by simpa using h) he
      cases p <;> simp only [wsum, List.set_cons_succ, List.getD_cons_succ, Bool.not_true, Bool.not_false] at this ⊢ <;> omega
theorem wsum_set_odd (p : Bool) {l : List Nat} {i : Nat} (h : i < l.length) (x : Nat) (he : par p i = true) : wsum p (l.set i x) + l.getD i 0 = wsum p l + x := by
  induction l generalizing p i with
  | nil => simp at h
  | cons y t ih =>
    cases i with
    | zero =>
      have : p = true := by simpa [par] using he
      subst this
      simp [wsum]; omega
    | succ i =>
      rw [par_succ] at he
      have := ih (!p) (i := i) (by simpa using h) he
      cases p <;> simp only [wsum, List.set_cons_succ, List.getD_cons_succ, Bool.not_true, Bool.not_false] at this ⊢ <;> omega
/-- a pair is replaced -/
theorem wsum_pair {l : List Nat} {k : Nat} (h : k + 1 < l.length) (he : k % 2 = 0) (x y : Nat) :
    wsum false ((l.set k x).set (k + 1) y) + (256 * l.getD k 0 + l.getD (k + 1) 0) = wsum false l + (256 * x + y) := by
  have h1 := wsum_set_even false (l := l) (i := k) (by omega) x (by unfold par; rw [if_pos he])
  have h2 := wsum_set_odd false (l := l.set k x) (i := k + 1) (by simpa using h) y (by unfold par; rw [if_neg (by omega)]; rfl)
  have h3 : (l.set k x).getD (k + 1) 0 = l.getD (k + 1) 0 := by
    rw [List.getD_eq_getElem?_getD, List.getD_eq_getElem?_getD, List.getElem?_set_ne (by omega)]
  omega
/-- the checksum's update -/
theorem update_oc {W old now X : Nat} (h : X + old = W + now) (hX : 0 < X) (ho : old ≤ 65535) : oc (65535 - (65535 - oc W) + (65535 - old) + now) = oc X := by
  have h1 := oc_le W
  have h2 := oc_mod W
  have h3 : 0 < W → 0 < oc W := oc_pos
  refine oc_congr ?_ hX ?_
  · by_cases hw : 0 < W
    · have := h3 hw; omega
    · omega
  · omega
/-- what the document's Add makes of a plain sum -/
theorem oc_two {a b : Nat} (ha : a ≤ 65535) (hb : b ≤ 65535) : (a + b) % 65536 + (a + b) / 65536 = oc (a + b) := by
  by_cases h : a + b ≤ 65535
  · rw [oc_small h]; omega
  · have := oc_fold (s := a + b) (by omega)
    rw [oc_small (by omega)] at this
    omega
theorem oc_three (a b c : Nat) : oc (oc (a + b) + c) = oc (a + b + c) := oc_add _ _
/-- the number in bytes, the most significant one first -/
def bnum (l : List Nat) : Nat := l.foldl (fun n x => n * 256 + x) 0
theorem bnum_snoc (l : List Nat) (x : Nat) : bnum (l ++ [x]) = bnum l * 256 + x := by simp [bnum]
theorem bnum_take {l : List Nat} {k : Nat} (h : k < l.length) : bnum (l.take (k + 1)) = bnum (l.take k) * 256 + l.getD k 0 := by rw [take_add_one l h, bnum_snoc]
theorem bnum_lt {l : List Nat} (h : ∀ x ∈ l, x < 256) (k : Nat) : bnum (l.take k) < 256 ^ k := by
  induction k with
  | zero => simp [bnum]
  | succ k ih =>
    by_cases hk : k < l.length
    · rw [bnum_take hk]
      have := getD_lt h k
      rw [Nat.pow_succ]; omega
    · rw [List.take_of_length_le (by omega)]
      rw [List.take_of_length_le (by omega)] at ih
      rw [Nat.pow_succ]; omega
/-- the bytes of a number, the most significant one first -/
def bput (n : Nat) : Nat → List Nat
  | 0 => []
  | k + 1 => n / 256 ^ k % 256 :: bput n k
theorem bput_len (n k : Nat) : (bput n k).length = k := by induction k with | zero => rfl | succ k ih => simp [bput, ih]
theorem bput_lt (n k : Nat) : ∀ x ∈ bput n k, x < 256 := by
  induction k with
  | zero => intro x h; simp [bput] at h
  | succ k ih =>
    intro x h
    rcases List.mem_cons.1 h with rfl | h
    · exact Nat.mod_lt _ (by omega)
    · exact ih x h
theorem bput_at (n k i : Nat) (h : i < k) : (bput n k).getD (k - 1 - i) 0 = n / 256 ^ i % 256 := by
  induction k with
  | zero => omega
  | succ k ih =>
    by_cases e : i = k
    · subst e
      rw [show i + 1 - 1 - i = 0 by omega]; rfl
    · rw [show k + 1 - 1 - i = (k - 1 - i) + 1 by omega]
      simp only [bput, List.getD_cons_succ]
      exact ih (by omega)
end Go.Proofs.Ytefocmcpeigfcaa
