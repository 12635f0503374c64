/- What the document's number functions compute: plain mathematics. -/
import Derived.Test.YtikkobmccagdlaaGreatDoorNv
namespace Go.Proofs.YtikkobmccagdlaaGreatDoor
theorem nv_set {Q : List Nat} {j : Nat} (d : Nat) (h : j < Q.length) : nv (Q.set j d) + 1073741824 ^ j * Q.getD j 0 = nv Q + 1073741824 ^ j * d := by
  induction Q generalizing j with
  | nil => simp at h
  | cons x Q ih =>
    cases j with
    | zero => simp [nv]; omega
    | succ j =>
      have := ih (j := j) (by simpa using h)
      simp only [List.set_cons_succ, nv, List.getD_cons_succ, bp_succ]
      generalize 1073741824 ^ j = p at *
      generalize nv (Q.set j d) = u at *
      generalize nv Q = v at *
      generalize Q.getD j 0 = y at *
      grind
/-- one step of a row of the product -/
theorem row_step {Q : List Nat} {P c a b v p : Nat} {j i k : Nat} (hj : j < Q.length) (hjk : j = i + k) (h : nv Q + c * 1073741824 ^ j = P + a * 1073741824 ^ i * v) (hp : p = 1073741824 ^ k) :
    nv (Q.set j ((Q.getD j 0 + a * b + c) % 1073741824)) + (Q.getD j 0 + a * b + c) / 1073741824 * 1073741824 ^ (j + 1) = P + a * 1073741824 ^ i * (v + p * b) := by
  have hs := nv_set ((Q.getD j 0 + a * b + c) % 1073741824) hj
  have hd := Nat.mod_add_div (Q.getD j 0 + a * b + c) 1073741824
  have e : 1073741824 ^ j = 1073741824 ^ i * p := by rw [hjk, Nat.pow_add, hp]
  rw [bp_succ, e]
  rw [e] at h hs
  generalize (Q.getD j 0 + a * b + c) % 1073741824 = d at *
  generalize (Q.getD j 0 + a * b + c) / 1073741824 = q at *
  generalize Q.getD j 0 = y at *
  generalize 1073741824 ^ i = r at *
  generalize nv (Q.set j d) = u at *
  generalize nv Q = z at *
  grind
theorem row_bound {y a b c : Nat} (hy : y < 1073741824) (ha : a < 1073741824) (hb : b < 1073741824) (hc : c < 1073741824) : y + a * b + c < 1152921504606846976 := by
  have : a * b ≤ 1073741823 * 1073741823 := Nat.mul_le_mul (by omega) (by omega)
  omega
theorem getD_set_ne {Q : List Nat} {i j x : Nat} (h : i ≠ j) : (Q.set i x).getD j 0 = Q.getD j 0 := by
  rw [List.getD_eq_getElem?_getD, List.getElem?_set_ne h, ← List.getD_eq_getElem?_getD]
/-- one step of the difference -/
theorem less_step {p n m j x y c d e : Nat} (h : n + j = m + c * p) (hd : d + y + c = x + e * 1073741824) : (n + p * d) + (j + p * y) = (m + p * x) + e * (1073741824 * p) := by
  grind
theorem split_step {A B q R x r t dr : Nat} (h : A = q * B + R) (ht : x + 1073741824 * R = t) (hd : t = dr * B + r) : x + 1073741824 * A = (dr + 1073741824 * q) * B + r := by
  grind
/-- halving -/
theorem half_step {A Q c x h r : Nat} (hA : A = Q * 2 + c) (hx : x + c * 1073741824 = h * 2 + r) : x + 1073741824 * A = (h + 1073741824 * Q) * 2 + r := by grind
theorem gcd_both {X Y : Nat} (hx : X % 2 = 0) (hy : Y % 2 = 0) : X.gcd Y = 2 * (X / 2).gcd (Y / 2) := by
  rw [← Nat.gcd_mul_left, Nat.mul_div_cancel' (Nat.dvd_of_mod_eq_zero hx), Nat.mul_div_cancel' (Nat.dvd_of_mod_eq_zero hy)]
theorem gcd_left {X Y : Nat} (hx : X % 2 = 0) (hy : Y % 2 ≠ 0) : X.gcd Y = (X / 2).gcd Y := by
  have h2 : Nat.Coprime 2 Y := by
    unfold Nat.Coprime; rw [Nat.gcd_rec]; have : Y % 2 = 1 := by omega
    rw [this]; rfl
  conv => lhs; rw [← Nat.mul_div_cancel' (Nat.dvd_of_mod_eq_zero hx)]
  exact Nat.Coprime.gcd_mul_left_cancel _ h2
theorem gcd_right {X Y : Nat} (hx : X % 2 ≠ 0) (hy : Y % 2 = 0) : X.gcd Y = X.gcd (Y / 2) := by
  rw [Nat.gcd_comm, gcd_left hy hx, Nat.gcd_comm]
theorem gcd_less {X Y : Nat} (h : Y ≤ X) : X.gcd Y = (X - Y).gcd Y := by
  rw [Nat.gcd_sub_self_left h]
end Go.Proofs.YtikkobmccagdlaaGreatDoor
