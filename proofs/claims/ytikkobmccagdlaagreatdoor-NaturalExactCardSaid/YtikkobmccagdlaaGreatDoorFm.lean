/- Fractions as rational numbers: plain mathematics. -/
import Derived.Test.YtikkobmccagdlaaGreatDoorNcmp
namespace Go.Proofs.YtikkobmccagdlaaGreatDoor
/-- the signed number -/
def sgn (neg : Bool) (N : Nat) : Int := if neg then -(N : Int) else N
theorem sgn_abs (neg : Bool) (N : Nat) : (sgn neg N).natAbs = N := by unfold sgn; split <;> omega
/-- the value of a fraction with these parts -/
def rat (neg : Bool) (N D : Nat) : Rat := mkRat (sgn neg N) D
theorem rat_num_abs {neg : Bool} {N D : Nat} (hD : 0 < D) : (rat neg N D).num.natAbs = N / N.gcd D := by
  unfold rat
  rw [Rat.num_mkRat, if_neg (by omega), sgn_abs, Nat.gcd_comm D N, Int.natAbs_ediv_of_dvd, sgn_abs]
  · rfl
  · apply Int.ofNat_dvd_left.2; rw [sgn_abs]; exact Nat.gcd_dvd_left _ _
theorem rat_den {neg : Bool} {N D : Nat} (hD : 0 < D) : (rat neg N D).den = D / N.gcd D := by
  unfold rat
  rw [Rat.den_mkRat, if_neg (by omega), sgn_abs, Nat.gcd_comm]
theorem rat_neg {neg : Bool} {N D : Nat} (hD : 0 < D) : decide ((rat neg N D).num < 0) = (neg && decide (0 < N)) := by
  unfold rat
  rw [Rat.num_mkRat, if_neg (by omega), sgn_abs]
  have hg : 0 < D.gcd N := Nat.gcd_pos_of_pos_left _ hD
  have key : sgn neg N / (D.gcd N : Nat) < 0 ↔ sgn neg N < 0 := by
    constructor
    · intro h
      apply Decidable.byContradiction; intro hc
      have := Int.ediv_nonneg (a := sgn neg N) (b := (D.gcd N : Nat)) (by omega) (by omega)
      omega
    · intro h; exact Int.ediv_neg_of_neg_of_pos h (by omega)
  rw [Bool.eq_iff_iff]
  simp only [decide_eq_true_eq, Bool.and_eq_true]
  rw [key]
  unfold sgn
  cases neg <;> simp
theorem rat_add {x y : Bool} {A B C D : Nat} (hB : 0 < B) (hD : 0 < D) : rat x A B + rat y C D = mkRat (sgn x A * D + sgn y C * B) (B * D) := by
  unfold rat; rw [Rat.mkRat_add_mkRat _ _ (by omega) (by omega)]
theorem rat_mul {x y : Bool} {A B C D : Nat} : rat x A B * rat y C D = rat (x != y) (A * C) (B * D) := by
  unfold rat; rw [Rat.mkRat_mul_mkRat]
  congr 1
  unfold sgn
  cases x <;> cases y <;> simp [Int.neg_mul, Int.mul_neg]
theorem rat_opp {x : Bool} {A B : Nat} (h : x = true → 0 < A) : -rat x A B = rat (!x && decide (0 < A)) A B := by
  unfold rat; rw [Rat.neg_mkRat]
  congr 1
  unfold sgn
  cases x
  · by_cases h0 : 0 < A
    · simp [h0]
    · obtain rfl : A = 0 := by omega
      simp
  · simp
theorem rat_same {x : Bool} {A B C D : Nat} : mkRat (sgn x A * D + sgn x C * B) (B * D) = rat x (A * D + C * B) (B * D) := by
  unfold rat sgn; congr 1; cases x <;> simp [Int.neg_mul] <;> omega
theorem rat_diff_ge {x : Bool} {A B C D : Nat} (h : C * B ≤ A * D) : mkRat (sgn x A * D + sgn (!x) C * B) (B * D) = rat x (A * D - C * B) (B * D) := by
  unfold rat sgn; congr 1
  generalize hp : A * D = p at *; generalize hq : C * B = q at *
  have hp' : (A : Int) * D = p := by rw [← hp]; simp
  have hq' : (C : Int) * B = q := by rw [← hq]; simp
  cases x <;> simp [Int.neg_mul, hp', hq'] <;> omega
theorem rat_diff_lt {x : Bool} {A B C D : Nat} (h : A * D ≤ C * B) : mkRat (sgn x A * D + sgn (!x) C * B) (B * D) = rat (!x) (C * B - A * D) (B * D) := by
  unfold rat sgn; congr 1
  generalize hp : A * D = p at *; generalize hq : C * B = q at *
  have hp' : (A : Int) * D = p := by rw [← hp]; simp
  have hq' : (C : Int) * B = q := by rw [← hq]; simp
  cases x <;> simp [Int.neg_mul, hp', hq'] <;> omega
theorem rat_zero (x : Bool) (B : Nat) : rat x 0 B = 0 := by unfold rat sgn; cases x <;> simp
theorem rat_eq_zero {x : Bool} {A B : Nat} (hB : 0 < B) : rat x A B = 0 ↔ A = 0 := by
  unfold rat; rw [Rat.mkRat_eq_zero (by omega)]; unfold sgn; cases x <;> simp
theorem rat_inv {y : Bool} {C D : Nat} (hD : 0 < D) (hC : 0 < C) : (rat y C D)⁻¹ = rat y D C := by
  apply Rat.inv_eq_of_mul_eq_one
  rw [rat_mul]
  unfold rat sgn
  simp
  rw [Nat.mul_comm D C]
  have := (Rat.mkRat_eq_iff (n₁ := (C : Int) * D) (d₁ := C * D) (n₂ := 1) (d₂ := 1) (Nat.mul_ne_zero (by omega) (by omega)) (by omega)).2 (by simp)
  rw [this]; rfl
theorem rat_div {x y : Bool} {A B C D : Nat} (hD : 0 < D) (hC : 0 < C) : rat x A B / rat y C D = rat (x != y) (A * D) (C * B) := by
  rw [Rat.div_def, rat_inv hD hC, rat_mul, Nat.mul_comm B C]
theorem mk_num_neg {z : Int} {d : Nat} (hd : 0 < d) : (mkRat z d).num < 0 ↔ z < 0 := by
  rw [Rat.num_mkRat, if_neg (by omega)]
  have hg : 0 < d.gcd z.natAbs := Nat.gcd_pos_of_pos_left _ hd
  constructor
  · intro h
    apply Decidable.byContradiction; intro hc
    have := Int.ediv_nonneg (a := z) (b := (d.gcd z.natAbs : Nat)) (by omega) (by omega)
    omega
  · intro h; exact Int.ediv_neg_of_neg_of_pos h (by omega)
theorem neg_iff (r : Rat) : r < 0 ↔ r.num < 0 := by rw [← Rat.not_le, ← Rat.num_nonneg]; omega
theorem lt_iff_sub (a b : Rat) : a < b ↔ (a - b).num < 0 := by
  rw [← neg_iff, Rat.lt_iff_sub_pos, ← Rat.neg_lt_neg_iff, Rat.neg_sub]; rfl
theorem rat_lt {x y : Bool} {A B C D : Nat} (hB : 0 < B) (hD : 0 < D) : rat x A B < rat y C D ↔ sgn x A * D < sgn y C * B := by
  rw [lt_iff_sub, Rat.sub_eq_add_neg]
  unfold rat
  rw [Rat.neg_mkRat, Rat.mkRat_add_mkRat _ _ (by omega) (by omega), mk_num_neg (Nat.mul_pos hB hD), Int.neg_mul]
  omega
def rcmp (a b : Rat) : Int := if a < b then -1 else if b < a then 1 else 0
theorem rat_cmp {x y : Bool} {A B C D : Nat} (hB : 0 < B) (hD : 0 < D) : rcmp (rat x A B) (rat y C D) = if sgn x A * D < sgn y C * B then -1 else if sgn y C * B < sgn x A * D then 1 else 0 := by
  unfold rcmp; simp only [rat_lt hB hD, rat_lt hD hB]
theorem mk_num_le (z : Int) {d : Nat} (hd : 0 < d) : (mkRat z d).num.natAbs ≤ z.natAbs := by
  rw [Rat.num_mkRat, if_neg (by omega), Int.natAbs_ediv_of_dvd]
  · exact Nat.div_le_self _ _
  · apply Int.ofNat_dvd_left.2; exact Nat.gcd_dvd_right _ _
theorem mk_den_le (z : Int) {d : Nat} (hd : 0 < d) : (mkRat z d).den ≤ d := by
  rw [Rat.den_mkRat, if_neg (by omega)]; exact Nat.div_le_self _ _
theorem add_num_le (a b : Rat) : (a + b).num.natAbs ≤ a.num.natAbs * b.den + b.num.natAbs * a.den := by
  rw [Rat.add_def']
  refine Nat.le_trans (mk_num_le _ (Nat.mul_pos a.den_pos b.den_pos)) ?_
  refine Nat.le_trans (Int.natAbs_add_le _ _) ?_
  simp [Int.natAbs_mul]
theorem add_den_le (a b : Rat) : (a + b).den ≤ a.den * b.den := by
  rw [Rat.add_def']; exact mk_den_le _ (Nat.mul_pos a.den_pos b.den_pos)
theorem mul_num_le (a b : Rat) : (a * b).num.natAbs ≤ a.num.natAbs * b.num.natAbs := by
  rw [Rat.mul_def']
  refine Nat.le_trans (mk_num_le _ (Nat.mul_pos a.den_pos b.den_pos)) ?_
  rw [Int.natAbs_mul]; exact Nat.le_refl _
theorem mul_den_le (a b : Rat) : (a * b).den ≤ a.den * b.den := by
  rw [Rat.mul_def']; exact mk_den_le _ (Nat.mul_pos a.den_pos b.den_pos)
theorem neg_num_le (a : Rat) : (-a).num.natAbs = a.num.natAbs := by simp
theorem inv_num_le (a : Rat) : (a⁻¹).num.natAbs ≤ a.den := by
  rw [Rat.num_inv, Int.natAbs_mul, Int.natAbs_sign]
  split <;> simp
theorem inv_den_le (a : Rat) (h : a ≠ 0) : (a⁻¹).den ≤ a.num.natAbs := by
  rw [Rat.den_inv, if_neg (by rw [Rat.num_eq_zero]; exact h)]; exact Nat.le_refl _
theorem rat_floor {x : Bool} {N D : Nat} (hD : 0 < D) : (rat x N D).floor = sgn x N / D := by
  unfold rat
  rw [Rat.floor_def, Rat.num_mkRat, Rat.den_mkRat, if_neg (by omega), if_neg (by omega)]
  obtain ⟨a, ha⟩ : (↑(D.gcd (sgn x N).natAbs) : Int) ∣ sgn x N := Int.ofNat_dvd_left.2 (Nat.gcd_dvd_right _ _)
  obtain ⟨b, hb⟩ : D.gcd (sgn x N).natAbs ∣ D := Nat.gcd_dvd_left _ _
  have hg : 0 < D.gcd (sgn x N).natAbs := Nat.gcd_pos_of_pos_left _ hD
  generalize D.gcd (sgn x N).natAbs = g at *
  rw [ha, hb, Int.mul_ediv_cancel_left _ (by omega), Nat.mul_div_cancel_left _ hg]
  rw [Int.natCast_mul, Int.mul_ediv_mul_of_pos _ _ (by omega)]
/-- rounded away from 0, or towards 0 -/
def rnd (away : Bool) (N D : Nat) : Nat := N / D + (if away && decide (0 < N % D) then 1 else 0)
theorem floor_rnd {x : Bool} {N D : Nat} (hD : 0 < D) : (rat x N D).floor = sgn x (rnd x N D) := by
  rw [rat_floor hD]
  unfold sgn rnd
  cases x
  · simp
  · have hd : (D : Int) * (N / D : Nat) + (N % D : Nat) = N := by rw [← Int.natCast_mul, ← Int.natCast_add, Nat.div_add_mod]
    have hm := Nat.mod_lt N hD
    generalize N / D = q at *
    generalize N % D = m at *
    simp only [if_true, Bool.true_and, decide_eq_true_eq]
    rw [← hd, Int.ediv_eq_iff_of_pos (by omega)] <;> grind
def ceil (a : Rat) : Int := -(-a).floor
theorem ceil_rnd {x : Bool} {N D : Nat} (hD : 0 < D) (hx : x = true → 0 < N) : ceil (rat x N D) = sgn x (rnd (!x) N D) := by
  unfold ceil
  rw [rat_opp hx, floor_rnd hD]
  unfold sgn rnd
  cases x
  · by_cases h0 : 0 < N
    · simp [h0]
    · obtain rfl : N = 0 := by omega
      simp
  · simp
theorem cmp_both {N M : Nat} {p q : Int} (hp : p = N) (hq : q = M) : (if p < q then (-1 : Int) else if q < p then 1 else 0) = ncmp N M := by
  subst hp; subst hq; rfl
/-- how the program compares -/
def fcmp (x y : Bool) (L R : Nat) : Int := if x && y then ncmp R L else if x then -1 else if y then 1 else ncmp L R
theorem rat_fcmp {x y : Bool} {A B C D : Nat} (hB : 0 < B) (hD : 0 < D) (hx : x = true → 0 < A) (hy : y = true → 0 < C) : rcmp (rat x A B) (rat y C D) = fcmp x y (A * D) (C * B) := by
  rw [rat_cmp hB hD]
  unfold fcmp
  have hl : x = true → 0 < A * D := fun h => Nat.mul_pos (hx h) hD
  have hr : y = true → 0 < C * B := fun h => Nat.mul_pos (hy h) hB
  have hp : sgn x A * D = sgn x (A * D) := by unfold sgn; split <;> simp [Int.neg_mul]
  have hq : sgn y C * B = sgn y (C * B) := by unfold sgn; split <;> simp [Int.neg_mul]
  rw [hp, hq]
  generalize A * D = p at *
  generalize C * B = q at *
  unfold sgn ncmp Lib.compareInt
  cases x <;> cases y <;> simp at hl hr ⊢ <;> (repeat' split) <;> omega
/-- both parts have at most k limbs -/
def Bd (k : Nat) (r : Rat) : Prop := (nd r.num.natAbs).length ≤ k ∧ (nd r.den).length ≤ k
theorem nd_le_len' {A B k : Nat} (hA : (nd A).length ≤ k) (h : B ≤ A) : (nd B).length ≤ k := by
  rw [nd_len] at *; omega
theorem nd_mul' {A B i j : Nat} (hA : (nd A).length ≤ i) (hB : (nd B).length ≤ j) : (nd (A * B)).length ≤ i + j := by
  rw [nd_len] at *
  rw [Nat.pow_add]
  exact Nat.mul_lt_mul_of_lt_of_le hA (Nat.le_of_lt hB) (bp_pos j)
theorem nd_add' {A B k : Nat} (hA : (nd A).length ≤ k) (hB : (nd B).length ≤ k) : (nd (A + B)).length ≤ k + 1 := by
  rw [nd_len] at *; rw [bp_succ]; omega
theorem Bd.mono {i j : Nat} {r : Rat} (h : Bd i r) (hij : i ≤ j) : Bd j r := ⟨Nat.le_trans h.1 hij, Nat.le_trans h.2 hij⟩
theorem Bd.add {i j : Nat} {a b : Rat} (ha : Bd i a) (hb : Bd j b) : Bd (i + j + 1) (a + b) :=
  ⟨nd_le_len' (nd_add' (nd_mul' ha.1 hb.2) (by have := nd_mul' hb.1 ha.2; omega)) (add_num_le a b), Nat.le_trans (nd_le_len' (nd_mul' ha.2 hb.2) (add_den_le a b)) (by omega)⟩
theorem Bd.neg {i : Nat} {a : Rat} (ha : Bd i a) : Bd i (-a) := by unfold Bd at *; rw [neg_num_le, Rat.neg_den]; exact ha
theorem Bd.sub {i j : Nat} {a b : Rat} (ha : Bd i a) (hb : Bd j b) : Bd (i + j + 1) (a - b) := by rw [Rat.sub_eq_add_neg]; exact ha.add hb.neg
theorem Bd.mul {i j : Nat} {a b : Rat} (ha : Bd i a) (hb : Bd j b) : Bd (i + j) (a * b) :=
  ⟨nd_le_len' (nd_mul' ha.1 hb.1) (mul_num_le a b), nd_le_len' (nd_mul' ha.2 hb.2) (mul_den_le a b)⟩
theorem Bd.inv {i : Nat} {a : Rat} (ha : Bd i a) (h : a ≠ 0) : Bd i (a⁻¹) := ⟨nd_le_len' ha.2 (inv_num_le a), nd_le_len' ha.1 (inv_den_le a h)⟩
theorem Bd.div {i j : Nat} {a b : Rat} (ha : Bd i a) (hb : Bd j b) (h : b ≠ 0) : Bd (i + j) (a / b) := by rw [Rat.div_def]; exact ha.mul (hb.inv h)
theorem bd_rat {x : Bool} {N D k : Nat} (hD : 0 < D) (hN : (nd N).length ≤ k) (hd : (nd D).length ≤ k) : Bd k (rat x N D) := by
  refine ⟨nd_le_len' hN ?_, nd_le_len' hd ?_⟩
  · rw [rat_num_abs hD]; exact Nat.div_le_self _ _
  · rw [rat_den hD]; exact Nat.div_le_self _ _
end Go.Proofs.YtikkobmccagdlaaGreatDoor
