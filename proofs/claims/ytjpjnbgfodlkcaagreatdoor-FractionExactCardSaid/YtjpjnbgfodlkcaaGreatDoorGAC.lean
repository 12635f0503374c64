/- Several texts in one. -/
import Derived.Test.YtjpjnbgfodlkcaaGreatDoorGAB
import Derived.WalkKit
import Derived.WalkSpells
import Derived.WalkLawsBesides
import Derived.WalkSmall
import Derived.Handy
import Derived.BigQuiet
import Derived.Deep.QuietTactic
import Derived.Deep.RegionHeld3
import Derived.Deep.DeepFit
import Derived.Below
import Derived.Lib.Hide
import Derived.Lib.QuietBelow
import Derived.Deep.DeepCutAuto
/- Fractions as rational numbers: plain mathematics. -/
namespace Go.Proofs.YtjpjnbgfodlkcaaGreatDoor
/-- the signed number -/
def sgn (neg : Bool) (N : Nat) : Int := if neg then -(N : Int) else N
theorem sgn_abs (neg : Bool) (N : Nat) : (sgn neg N).natAbs = N := by unfold sgn; split <;> omega
/-- the value of a fraction with these parts -/
def rat (neg : Bool) (N D : Nat) : Rat := mkRat (sgn neg N) D
theorem rat_num_abs {neg : Bool} {N D : Nat} (hD : 0 < D) : (rat neg N D).num.natAbs = N / N.gcd D := by
  unfold rat
  rw [Rat.num_mkRat, if_neg (by omega), sgn_abs, Nat.gcd_comm D N, Int.natAbs_ediv_of_dvd, sgn_abs]
  · rfl
  · apply Int.ofNat_dvd_left.2; rw [sgn_abs]; exact Nat.gcd_dvd_left _ _
theorem rat_den {neg : Bool} {N D : Nat} (hD : 0 < D) : (rat neg N D).den = D / N.gcd D := by
  unfold rat
  rw [Rat.den_mkRat, if_neg (by omega), sgn_abs, Nat.gcd_comm]
theorem rat_neg {neg : Bool} {N D : Nat} (hD : 0 < D) : decide ((rat neg N D).num < 0) = (neg && decide (0 < N)) := by
  unfold rat
  rw [Rat.num_mkRat, if_neg (by omega), sgn_abs]
  have hg : 0 < D.gcd N := Nat.gcd_pos_of_pos_left _ hD
  have key : sgn neg N / (D.gcd N : Nat) < 0 ↔ sgn neg N < 0 := by
    constructor
    · intro h
      apply Decidable.byContradiction; intro hc
      have := Int.ediv_nonneg (a := sgn neg N) (b := (D.gcd N : Nat)) (by omega) (by omega)
      omega
    · intro h; exact Int.ediv_neg_of_neg_of_pos h (by omega)
  rw [Bool.eq_iff_iff]
  simp only [decide_eq_true_eq, Bool.and_eq_true]
  rw [key]
  unfold sgn
  cases neg <;> simp
theorem rat_add {x y : Bool} {A B C D : Nat} (hB : 0 < B) (hD : 0 < D) : rat x A B + rat y C D = mkRat (sgn x A * D + sgn y C * B) (B * D) := by
  unfold rat; rw [Rat.mkRat_add_mkRat _ _ (by omega) (by omega)]
theorem rat_mul {x y : Bool} {A B C D : Nat} : rat x A B * rat y C D = rat (x != y) (A * C) (B * D) := by
  unfold rat; rw [Rat.mkRat_mul_mkRat]
  congr 1
  unfold sgn
  cases x <;> cases y <;> simp [Int.neg_mul, Int.mul_neg]
theorem rat_opp {x : Bool} {A B : Nat} (h : x = true → 0 < A) : -rat x A B = rat (!x && decide (0 < A)) A B := by
  unfold rat; rw [Rat.neg_mkRat]
  congr 1
  unfold sgn
  cases x
  · by_cases h0 : 0 < A
    · simp [h0]
    · obtain rfl : A = 0 := by omega
      simp
  · simp
theorem rat_same {x : Bool} {A B C D : Nat} : mkRat (sgn x A * D + sgn x C * B) (B * D) = rat x (A * D + C * B) (B * D) := by
  unfold rat sgn; congr 1; cases x <;> simp [Int.neg_mul] <;> omega
theorem rat_diff_ge {x : Bool} {A B C D : Nat} (h : C * B ≤ A * D) : mkRat (sgn x A * D + sgn (!x) C * B) (B * D) = rat x (A * D - C * B) (B * D) := by
  unfold rat sgn; congr 1
  generalize hp : A * D = p at *; generalize hq : C * B = q at *
  have hp' : (A : Int) * D = p := by rw [← hp]; simp
  have hq' : (C : Int) * B = q := by rw [← hq]; simp
  cases x <;> simp [Int.neg_mul, hp', hq'] <;> omega
theorem rat_diff_lt {x : Bool} {A B C D : Nat} (h : A * D ≤ C * B) : mkRat (sgn x A * D + sgn (!x) C * B) (B * D) = rat (!x) (C * B - A * D) (B * D) := by
  unfold rat sgn; congr 1
  generalize hp : A * D = p at *; generalize hq : C * B = q at *
  have hp' : (A : Int) * D = p := by rw [← hp]; simp
  have hq' : (C : Int) * B = q := by rw [← hq]; simp
  cases x <;> simp [Int.neg_mul, hp', hq'] <;> omega
theorem rat_zero (x : Bool) (B : Nat) : rat x 0 B = 0 := by unfold rat sgn; cases x <;> simp
theorem rat_eq_zero {x : Bool} {A B : Nat} (hB : 0 < B) : rat x A B = 0 ↔ A = 0 := by
  unfold rat; rw [Rat.mkRat_eq_zero (by omega)]; unfold sgn; cases x <;> simp
theorem rat_inv {y : Bool} {C D : Nat} (hD : 0 < D) (hC : 0 < C) : (rat y C D)⁻¹ = rat y D C := by
  apply Rat.inv_eq_of_mul_eq_one
  rw [rat_mul]
  unfold rat sgn
  simp
  rw [Nat.mul_comm D C]
  have := (Rat.mkRat_eq_iff (n₁ := (C : Int) * D) (d₁ := C * D) (n₂ := 1) (d₂ := 1) (Nat.mul_ne_zero (by omega) (by omega)) (by omega)).2 (by simp)
  rw [this]; rfl
theorem rat_div {x y : Bool} {A B C D : Nat} (hD : 0 < D) (hC : 0 < C) : rat x A B / rat y C D = rat (x != y) (A * D) (C * B) := by
  rw [Rat.div_def, rat_inv hD hC, rat_mul, Nat.mul_comm B C]
theorem mk_num_neg {z : Int} {d : Nat} (hd : 0 < d) : (mkRat z d).num < 0 ↔ z < 0 := by
  rw [Rat.num_mkRat, if_neg (by omega)]
  have hg : 0 < d.gcd z.natAbs := Nat.gcd_pos_of_pos_left _ hd
  constructor
  · intro h
    apply Decidable.byContradiction; intro hc
    have := Int.ediv_nonneg (a := z) (b := (d.gcd z.natAbs : Nat)) (by omega) (by omega)
    omega
  · intro h; exact Int.ediv_neg_of_neg_of_pos h (by omega)
theorem neg_iff (r : Rat) : r < 0 ↔ r.num < 0 := by rw [← Rat.not_le, ← Rat.num_nonneg]; omega
theorem lt_iff_sub (a b : Rat) : a < b ↔ (a - b).num < 0 := by
  rw [← neg_iff, Rat.lt_iff_sub_pos, ← Rat.neg_lt_neg_iff, Rat.neg_sub]; rfl
theorem rat_lt {x y : Bool} {A B C D : Nat} (hB : 0 < B) (hD : 0 < D) : rat x A B < rat y C D ↔ sgn x A * D < sgn y C * B := by
  rw [lt_iff_sub, Rat.sub_eq_add_neg]
  unfold rat
  rw [Rat.neg_mkRat, Rat.mkRat_add_mkRat _ _ (by omega) (by omega), mk_num_neg (Nat.mul_pos hB hD), Int.neg_mul]
  omega
def rcmp (a b : Rat) : Int := if a < b then -1 else if b < a then 1 else 0
theorem rat_cmp {x y : Bool} {A B C D : Nat} (hB : 0 < B) (hD : 0 < D) : rcmp (rat x A B) (rat y C D) = if sgn x A * D < sgn y C * B then -1 else if sgn y C * B < sgn x A * D then 1 else 0 := by
  unfold rcmp; simp only [rat_lt hB hD, rat_lt hD hB]
theorem mk_num_le (z : Int) {d : Nat} (hd : 0 < d) : (mkRat z d).num.natAbs ≤ z.natAbs := by
  rw [Rat.num_mkRat, if_neg (by omega), Int.natAbs_ediv_of_dvd]
  · exact Nat.div_le_self _ _
  · apply Int.ofNat_dvd_left.2; exact Nat.gcd_dvd_right _ _
theorem mk_den_le (z : Int) {d : Nat} (hd : 0 < d) : (mkRat z d).den ≤ d := by
  rw [Rat.den_mkRat, if_neg (by omega)]; exact Nat.div_le_self _ _
theorem add_num_le (a b : Rat) : (a + b).num.natAbs ≤ a.num.natAbs * b.den + b.num.natAbs * a.den := by
  rw [Rat.add_def']
  refine Nat.le_trans (mk_num_le _ (Nat.mul_pos a.den_pos b.den_pos)) ?_
  refine Nat.le_trans (Int.natAbs_add_le _ _) ?_
  simp [Int.natAbs_mul]
theorem add_den_le (a b : Rat) : (a + b).den ≤ a.den * b.den := by
  rw [Rat.add_def']; exact mk_den_le _ (Nat.mul_pos a.den_pos b.den_pos)
theorem mul_num_le (a b : Rat) : (a * b).num.natAbs ≤ a.num.natAbs * b.num.natAbs := by
  rw [Rat.mul_def']
  refine Nat.le_trans (mk_num_le _ (Nat.mul_pos a.den_pos b.den_pos)) ?_
  rw [Int.natAbs_mul]; exact Nat.le_refl _
theorem mul_den_le (a b : Rat) : (a * b).den ≤ a.den * b.den := by
  rw [Rat.mul_def']; exact mk_den_le _ (Nat.mul_pos a.den_pos b.den_pos)
theorem neg_num_le (a : Rat) : (-a).num.natAbs = a.num.natAbs := by simp
theorem inv_num_le (a : Rat) : (a⁻¹).num.natAbs ≤ a.den := by
  rw [Rat.num_inv, Int.natAbs_mul, Int.natAbs_sign]
  split <;> simp
theorem inv_den_le (a : Rat) (h : a ≠ 0) : (a⁻¹).den ≤ a.num.natAbs := by
  rw [Rat.den_inv, if_neg (by rw [Rat.num_eq_zero]; exact h)]; exact Nat.le_refl _
theorem rat_floor {x : Bool} {N D : Nat} (hD : 0 < D) : (rat x N D).floor = sgn x N / D := by
  unfold rat
  rw [Rat.floor_def, Rat.num_mkRat, Rat.den_mkRat, if_neg (by omega), if_neg (by omega)]
  obtain ⟨a, ha⟩ : (↑(D.gcd (sgn x N).natAbs) : Int) ∣ sgn x N := Int.ofNat_dvd_left.2 (Nat.gcd_dvd_right _ _)
  obtain ⟨b, hb⟩ : D.gcd (sgn x N).natAbs ∣ D := Nat.gcd_dvd_left _ _
  have hg : 0 < D.gcd (sgn x N).natAbs := Nat.gcd_pos_of_pos_left _ hD
  generalize D.gcd (sgn x N).natAbs = g at *
  rw [ha, hb, Int.mul_ediv_cancel_left _ (by omega), Nat.mul_div_cancel_left _ hg]
  rw [Int.natCast_mul, Int.mul_ediv_mul_of_pos _ _ (by omega)]
/-- rounded away from 0, or towards 0 -/
def rnd (away : Bool) (N D : Nat) : Nat := N / D + (if away && decide (0 < N % D) then 1 else 0)
theorem floor_rnd {x : Bool} {N D : Nat} (hD : 0 < D) : (rat x N D).floor = sgn x (rnd x N D) := by
  rw [rat_floor hD]
  unfold sgn rnd
  cases x
  · simp
  · have hd : (D : Int) * (N / D : Nat) + (N % D : Nat) = N := by rw [← Int.natCast_mul, ← Int.natCast_add, Nat.div_add_mod]
    have hm := Nat.mod_lt N hD
    generalize N / D = q at *
    generalize N % D = m at *
    simp only [if_true, Bool.true_and, decide_eq_true_eq]
    rw [← hd, Int.ediv_eq_iff_of_pos (by omega)] <;> grind
def ceil (a : Rat) : Int := -(-a).floor
theorem ceil_rnd {x : Bool} {N D : Nat} (hD : 0 < D) (hx : x = true → 0 < N) : ceil (rat x N D) = sgn x (rnd (!x) N D) := by
  unfold ceil
  rw [rat_opp hx, floor_rnd hD]
  unfold sgn rnd
  cases x
  · by_cases h0 : 0 < N
    · simp [h0]
    · obtain rfl : N = 0 := by omega
      simp
  · simp
theorem cmp_both {N M : Nat} {p q : Int} (hp : p = N) (hq : q = M) : (if p < q then (-1 : Int) else if q < p then 1 else 0) = ncmp N M := by
  subst hp; subst hq; rfl
/-- how the program compares -/
def fcmp (x y : Bool) (L R : Nat) : Int := if x && y then ncmp R L else if x then -1 else if y then 1 else ncmp L R
theorem rat_fcmp {x y : Bool} {A B C D : Nat} (hB : 0 < B) (hD : 0 < D) (hx : x = true → 0 < A) (hy : y = true → 0 < C) : rcmp (rat x A B) (rat y C D) = fcmp x y (A * D) (C * B) := by
  rw [rat_cmp hB hD]
  unfold fcmp
  have hl : x = true → 0 < A * D := fun h => Nat.mul_pos (hx h) hD
  have hr : y = true → 0 < C * B := fun h => Nat.mul_pos (hy h) hB
  have hp : sgn x A * D = sgn x (A * D) := by unfold sgn; split <;> simp [Int.neg_mul]
  have hq : sgn y C * B = sgn y (C * B) := by unfold sgn; split <;> simp [Int.neg_mul]
  rw [hp, hq]
  generalize A * D = p at *
  generalize C * B = q at *
  unfold sgn ncmp Lib.compareInt
  cases x <;> cases y <;> simp at hl hr ⊢ <;> (repeat' split) <;> omega
/-- both parts have at most k limbs -/
def Bd (k : Nat) (r : Rat) : Prop := (nd r.num.natAbs).length ≤ k ∧ (nd r.den).length ≤ k
theorem nd_le_len' {A B k : Nat} (hA : (nd A).length ≤ k) (h : B ≤ A) : (nd B).length ≤ k := by
  rw [nd_len] at *; omega
theorem nd_mul' {A B i j : Nat} (hA : (nd A).length ≤ i) (hB : (nd B).length ≤ j) : (nd (A * B)).length ≤ i + j := by
  rw [nd_len] at *
  rw [Nat.pow_add]
  exact Nat.mul_lt_mul_of_lt_of_le hA (Nat.le_of_lt hB) (bp_pos j)
theorem nd_add' {A B k : Nat} (hA : (nd A).length ≤ k) (hB : (nd B).length ≤ k) : (nd (A + B)).length ≤ k + 1 := by
  rw [nd_len] at *; rw [bp_succ]; omega
theorem Bd.mono {i j : Nat} {r : Rat} (h : Bd i r) (hij : i ≤ j) : Bd j r := ⟨Nat.le_trans h.1 hij, Nat.le_trans h.2 hij⟩
theorem Bd.add {i j : Nat} {a b : Rat} (ha : Bd i a) (hb : Bd j b) : Bd (i + j + 1) (a + b) :=
  ⟨nd_le_len' (nd_add' (nd_mul' ha.1 hb.2) (by have := nd_mul' hb.1 ha.2; omega)) (add_num_le a b), Nat.le_trans (nd_le_len' (nd_mul' ha.2 hb.2) (add_den_le a b)) (by omega)⟩
theorem Bd.neg {i : Nat} {a : Rat} (ha : Bd i a) : Bd i (-a) := by unfold Bd at *; rw [neg_num_le, Rat.neg_den]; exact ha
theorem Bd.sub {i j : Nat} {a b : Rat} (ha : Bd i a) (hb : Bd j b) : Bd (i + j + 1) (a - b) := by rw [Rat.sub_eq_add_neg]; exact ha.add hb.neg
theorem Bd.mul {i j : Nat} {a b : Rat} (ha : Bd i a) (hb : Bd j b) : Bd (i + j) (a * b) :=
  ⟨nd_le_len' (nd_mul' ha.1 hb.1) (mul_num_le a b), nd_le_len' (nd_mul' ha.2 hb.2) (mul_den_le a b)⟩
theorem Bd.inv {i : Nat} {a : Rat} (ha : Bd i a) (h : a ≠ 0) : Bd i (a⁻¹) := ⟨nd_le_len' ha.2 (inv_num_le a), nd_le_len' ha.1 (inv_den_le a h)⟩
theorem Bd.div {i j : Nat} {a b : Rat} (ha : Bd i a) (hb : Bd j b) (h : b ≠ 0) : Bd (i + j) (a / b) := by rw [Rat.div_def]; exact ha.mul (hb.inv h)
theorem bd_rat {x : Bool} {N D k : Nat} (hD : 0 < D) (hN : (nd N).length ≤ k) (hd : (nd D).length ≤ k) : Bd k (rat x N D) := by
  refine ⟨nd_le_len' hN ?_, nd_le_len' hd ?_⟩
  · rw [rat_num_abs hD]; exact Nat.div_le_self _ _
  · rw [rat_den hD]; exact Nat.div_le_self _ _
end Go.Proofs.YtjpjnbgfodlkcaaGreatDoor
/- Fractions in memory; Valid. -/
namespace Go.Proofs.YtjpjnbgfodlkcaaGreatDoor
open Go Go.RowKit Go.Sort
set_option maxRecDepth 100000
set_option linter.unusedVariables false
theorem num_slice {w : World} {v : Value} {N : Nat} (h : Num w v N) : ∃ (a : Option Addr) (cap : Nat), v = .slice a (nd N).length cap := by
  obtain ⟨a, cap, e, -⟩ := h
  exact ⟨a, cap, e⟩
/-- a valid fraction with this value -/
def Fra (w : World) (v : Value) (r : Rat) : Prop :=
  ∃ (x : Bool) (vn vd : Value) (N D : Nat), v = .agg #[.bool x, vn, vd] ∧ Num w vn N ∧ Num w vd D ∧ 0 < D ∧ (x = true → 0 < N) ∧ (nd N).length ≤ 64 ∧ (nd D).length ≤ 64 ∧ r = rat x N D
theorem Fra.gr {w w' : World} {v : Value} {r : Rat} (h : Fra w v r) (g : Gr w w') : Fra w' v r := by
  obtain ⟨x, vn, vd, N, D, h1, h2, h3, h4⟩ := h
  exact ⟨x, vn, vd, N, D, h1, h2.gr g, h3.gr g, h4⟩
/-- the reduced fraction with this value -/
def Red (w : World) (v : Value) (r : Rat) : Prop :=
  ∃ vn vd : Value, v = .agg #[.bool (decide (r.num < 0)), vn, vd] ∧ Num w vn r.num.natAbs ∧ Num w vd r.den
theorem Red.gr {w w' : World} {v : Value} {r : Rat} (h : Red w v r) (g : Gr w w') : Red w' v r := by
  obtain ⟨vn, vd, h1, h2, h3⟩ := h
  exact ⟨vn, vd, h1, h2.gr g, h3.gr g⟩
theorem rat_self (r : Rat) : rat (decide (r.num < 0)) r.num.natAbs r.den = r := by
  unfold rat sgn
  have : (if decide (r.num < 0) = true then -(r.num.natAbs : Int) else r.num.natAbs) = r.num := by
    by_cases h : r.num < 0
    · rw [if_pos (by simpa using h)]; omega
    · rw [if_neg (by simpa using h)]; omega
  rw [this, Rat.mkRat_self]
theorem Red.fra {w : World} {v : Value} {r : Rat} (h : Red w v r) (hb : Bd 64 r) : Fra w v r := by
  obtain ⟨vn, vd, h1, h2, h3⟩ := h
  refine ⟨_, vn, vd, _, _, h1, h2, h3, r.den_pos, fun hx => ?_, hb.1, hb.2, (rat_self r).symm⟩
  have := of_decide_eq_true hx
  omega
/-- no fraction, beside an error -/
def fzero : Value := .agg #[.bool false, .slice none 0 0, .slice none 0 0]
/-- the reduced fraction, or ErrLimit -/
def FRes (w : World) (r : Rat) (e : Ending) (w' : World) : Prop :=
  ∃ (v : Value) (er : Int), e = .returned (.tuple #[v, .int .i64 er]) ∧ ((Bd 64 r ∧ er = 0 ∧ Red w' v r) ∨ (¬ Bd 64 r ∧ er = 5 ∧ v = fzero)) ∧ Gr w w'
/-- a block of three cells that can be written -/
structure C3 (w : World) (r : Nat) (x y z : Value) : Prop where
  c0 : w.cell? ⟨r, 0, none⟩ = some x
  c1 : w.cell? ⟨r, 1, none⟩ = some y
  c2 : w.cell? ⟨r, 2, none⟩ = some z
  f0 : w.frozen? ⟨r, 0, none⟩ = false
  f1 : w.frozen? ⟨r, 1, none⟩ = false
  f2 : w.frozen? ⟨r, 2, none⟩ = false
  lt : r < w.heap.size
  no : ∀ o, 3 ≤ o → w.cell? ⟨r, o, none⟩ = none
theorem C3.same {w w' : World} {r : Nat} {x y z : Value} (h : C3 w r x y z) (c : ∀ o, w'.cell? ⟨r, o, none⟩ = w.cell? ⟨r, o, none⟩) (f : ∀ o, w'.frozen? ⟨r, o, none⟩ = w.frozen? ⟨r, o, none⟩) (hr : r < w'.heap.size) : C3 w' r x y z :=
  ⟨by rw [c]; exact h.c0, by rw [c]; exact h.c1, by rw [c]; exact h.c2, by rw [f]; exact h.f0, by rw [f]; exact h.f1, by rw [f]; exact h.f2, hr, fun o ho => by rw [c]; exact h.no o ho⟩
theorem C3.gr {w w' : World} {r : Nat} {x y z : Value} (h : C3 w r x y z) (g : Gr w w') : C3 w' r x y z :=
  h.same (fun o => (Gr.cells g).1 _ _ h.lt) (fun o => (Gr.cells g).2 _ _ h.lt) (Nat.lt_of_lt_of_le h.lt (Gr.size g))
theorem C3.new (w : World) (x y z : Value) (T : TypeId) (r : Nat) (hr : r = w.heap.size) : C3 (w.alloc (.cells #[x, y, z] T)) r x y z := by
  subst hr
  exact ⟨by simp, by simp, by simp, by simp, by simp, by simp, by simp, fun _ ho => by simp; omega⟩
theorem C3.other {w : World} {r s o : Nat} {x y z : Value} (h : C3 w r x y z) (v : Value) (hs : r ≠ s) : C3 (w.setCell ⟨s, o, none⟩ v) r x y z :=
  h.same (fun k => World.cell?_setCell_other _ _ _ _ (by intro e; cases e; exact hs rfl)) (fun k => by simp) (by simpa using h.lt)
theorem C3.set0 {w : World} {r : Nat} {x y z : Value} (h : C3 w r x y z) (v : Value) : C3 (w.setCell ⟨r, 0, none⟩ v) r v y z :=
  ⟨World.cell?_setCell_same' _ _ _ (by rw [h.c0]; rfl), by rw [World.cell?_setCell_other _ _ _ _ (by intro e; cases e)]; exact h.c1, by rw [World.cell?_setCell_other _ _ _ _ (by intro e; cases e)]; exact h.c2, by simpa using h.f0, by simpa using h.f1, by simpa using h.f2, by simpa using h.lt,
    fun o ho => by rw [World.cell?_setCell_other _ _ _ _ (by intro e; have := congrArg Addr.off e; simp at this; omega)]; exact h.no o ho⟩
theorem C3.set1 {w : World} {r : Nat} {x y z : Value} (h : C3 w r x y z) (v : Value) : C3 (w.setCell ⟨r, 1, none⟩ v) r x v z :=
  ⟨by rw [World.cell?_setCell_other _ _ _ _ (by intro e; cases e)]; exact h.c0, World.cell?_setCell_same' _ _ _ (by rw [h.c1]; rfl), by rw [World.cell?_setCell_other _ _ _ _ (by intro e; cases e)]; exact h.c2, by simpa using h.f0, by simpa using h.f1, by simpa using h.f2, by simpa using h.lt,
    fun o ho => by rw [World.cell?_setCell_other _ _ _ _ (by intro e; have := congrArg Addr.off e; simp at this; omega)]; exact h.no o ho⟩
theorem C3.set2 {w : World} {r : Nat} {x y z : Value} (h : C3 w r x y z) (v : Value) : C3 (w.setCell ⟨r, 2, none⟩ v) r x y v :=
  ⟨by rw [World.cell?_setCell_other _ _ _ _ (by intro e; cases e)]; exact h.c0, by rw [World.cell?_setCell_other _ _ _ _ (by intro e; cases e)]; exact h.c1, World.cell?_setCell_same' _ _ _ (by rw [h.c2]; rfl), by simpa using h.f0, by simpa using h.f1, by simpa using h.f2, by simpa using h.lt,
    fun o ho => by rw [World.cell?_setCell_other _ _ _ _ (by intro e; have := congrArg Addr.off e; simp at this; omega)]; exact h.no o ho⟩
/-- limbs do not lie in the block of a fraction -/
theorem C3.off {w : World} {r : Nat} {b : Bool} {a1 a2 : Option Addr} {n1 n2 k1 k2 : Nat} (c : C3 w r (.bool b) (.slice a1 n1 k1) (.slice a2 n2 k2)) {v : Value} {N : Nat} (h : Num w v N) : Rd (· ≠ r) w v (nd N) := by
  obtain ⟨a, cap, e, hl, hc, H⟩ := h
  refine ⟨a, cap, e, hl, hc, fun i hi => ?_⟩
  obtain ⟨p, off, ea, -, hcell⟩ := H i hi
  refine ⟨p, off, ea, ?_, hcell⟩
  rintro rfl
  generalize off + i = o at hcell
  match o, hcell with
  | 0, hcell => rw [c.c0] at hcell; cases hcell
  | 1, hcell => rw [c.c1] at hcell; cases hcell
  | 2, hcell => rw [c.c2] at hcell; cases hcell
  | o + 3, hcell => rw [c.no _ (by omega)] at hcell; cases hcell
theorem C3.num {w : World} {r o : Nat} {b : Bool} {a1 a2 : Option Addr} {n1 n2 k1 k2 : Nat} (c : C3 w r (.bool b) (.slice a1 n1 k1) (.slice a2 n2 k2)) {v : Value} {N : Nat} (h : Num w v N) (x : Value) : Num (w.setCell ⟨r, o, none⟩ x) v N :=
  ((c.off h).ex (Ex.set (Ex.refl r w) o x)).any
/-- a fraction is stored in the block -/
theorem C3.fill {w : World} {r : Nat} {b : Bool} {a1 a2 : Option Addr} {n1 n2 k1 k2 : Nat} (c : C3 w r (.bool b) (.slice a1 n1 k1) (.slice a2 n2 k2)) (b' : Bool) (p1 p2 : Option Addr) (m1 m2 j1 j2 : Nat) :
    C3 (((w.setCell ⟨r, 0, none⟩ (.bool b')).setCell ⟨r, 1, none⟩ (.slice p1 m1 j1)).setCell ⟨r, 2, none⟩ (.slice p2 m2 j2)) r (.bool b') (.slice p1 m1 j1) (.slice p2 m2 j2) ∧
    ∀ {v : Value} {N : Nat}, Num w v N → Num (((w.setCell ⟨r, 0, none⟩ (.bool b')).setCell ⟨r, 1, none⟩ (.slice p1 m1 j1)).setCell ⟨r, 2, none⟩ (.slice p2 m2 j2)) v N := by
  have h0 := c.set0 (.bool b')
  have h1 := h0.set1 (.slice p1 m1 j1)
  exact ⟨h1.set2 _, fun h => h1.num (h0.num (c.num h _) _) _⟩
theorem low_ok {N D : Nat} {x y : Bool} {w : World} {vq vp : Value} (hD0 : 0 < D) (hy : y = (x && decide (0 < (nd N).length))) (hq : Num w vq (N / N.gcd D)) (hp : Num w vp (D / N.gcd D)) : Red w (.agg #[.bool y, vq, vp]) (rat x N D) := by
  refine ⟨vq, vp, ?_, by rw [rat_num_abs hD0]; exact hq, by rw [rat_den hD0]; exact hp⟩
  have : decide (0 < (nd N).length) = decide (0 < N) := by
    rw [decide_eq_decide]
    constructor
    · intro h; apply Nat.pos_of_ne_zero; rintro rfl; rw [nd_zero] at h; simp at h
    · intro h; rw [nd_pos h]; simp
  rw [rat_neg hD0, hy, this]
theorem low_bd {N D : Nat} {x b1 b2 : Bool} (hD0 : 0 < D) (h1 : decide ((nd (N / N.gcd D)).length ≤ 64) = b1) (h2 : decide ((nd (D / N.gcd D)).length ≤ 64) = b2) : Bd 64 (rat x N D) ↔ (b1 && b2) = true := by
  unfold Bd
  rw [rat_num_abs hD0, rat_den hD0, ← h1, ← h2]
  simp
theorem part_any {N : Nat} (v : Value) (w : World) (b : Bool) (h : Num w v N) (hN : (nd N).length ≤ 256) (hb : decide ((nd N).length ≤ 64) = b) :
    Calls Tryz.prog 58 #[v] w fun e w' => e = .returned (.bool b) ∧ w = w' := by
  obtain ⟨a, cap, rfl⟩ := num_slice h
  have HV := Lib.hid (num_valid h hN)
  have HB := Lib.hid hb
  clear h hb
  go_enter Tryz.func58, Tryz.ntmps58
  go_wp2_with fail
  refine HV.out.mono ?_
  rintro e w' ⟨rfl, rfl⟩
  go_wp2
  go_ret
  exact ⟨ret_bool (by rw [← HB.out, decide_eq_decide]; omega), rfl⟩
set_option maxHeartbeats 1000000 in
theorem fvalid_any {N D : Nat} (x : Bool) (vn vd : Value) (w : World) (b1 b2 : Bool) (hN : Num w vn N) (hD : Num w vd D) (hD0 : 0 < D) (hx : x = true → 0 < N) (hn : (nd N).length ≤ 256) (hd : (nd D).length ≤ 256)
    (hb1 : decide ((nd N).length ≤ 64) = b1) (hb2 : decide ((nd D).length ≤ 64) = b2) :
    Calls Tryz.prog 29 #[.agg #[.bool x, vn, vd]] w fun e w' => e = .returned (.bool (b1 && b2)) ∧ Gr w w' := by
  have HN := Lib.hid hN
  have HD := Lib.hid hD
  have HB1 := Lib.hid hb1
  have HB2 := Lib.hid hb2
  obtain ⟨an, cn, rfl⟩ := num_slice hN
  obtain ⟨ad, cd, rfl⟩ := num_slice hD
  have hdl : 0 < (nd D).length := by rw [nd_pos hD0]; simp
  have d1 : decide (0 < (nd D).length) = true := by simpa using hdl
  clear hN hD hD0 hb1 hb2
  by_cases h0 : 0 < N
  · have hnl : 0 < (nd N).length := by rw [nd_pos h0]; simp
    have d2 : decide (0 < (nd N).length) = true := by simpa using hnl
    clear hx h0
    cases b1
    · skip
      go_enter Tryz.func29, Tryz.ntmps29
      go_wp2_with fail
      refine (part_any _ _ false (HN.out.gr (Gr.alloc (Gr.refl _) _)) hn HB1.out).mono ?_
      rintro e w' ⟨rfl, rfl⟩
      go_wp2
      go_ret
      exact ⟨rfl, (by repeat' (first | (with_reducible exact Gr.refl _) | (with_reducible assumption) | (with_reducible refine Gr.drewN ?_ _) | (with_reducible refine Gr.drew ?_) | (with_reducible refine Gr.alloc ?_ _) | (with_reducible refine Gr.setCell ?_ ?_ _) | (with_reducible refine Gr.grow ?_ _ _) | (refine Gr.step ?_ (by with_reducible assumption)) | go_size))⟩
    · cases b2
      · skip
        go_enter Tryz.func29, Tryz.ntmps29
        go_wp2_with fail
        refine (part_any _ _ true (HN.out.gr (Gr.alloc (Gr.refl _) _)) hn HB1.out).mono ?_
        rintro e w' ⟨rfl, rfl⟩
        go_wp2_with fail
        refine (part_any _ _ false (HD.out.gr (Gr.alloc (Gr.refl _) _)) hd HB2.out).mono ?_
        rintro e w' ⟨rfl, rfl⟩
        go_wp2
        go_ret
        exact ⟨rfl, (by repeat' (first | (with_reducible exact Gr.refl _) | (with_reducible assumption) | (with_reducible refine Gr.drewN ?_ _) | (with_reducible refine Gr.drew ?_) | (with_reducible refine Gr.alloc ?_ _) | (with_reducible refine Gr.setCell ?_ ?_ _) | (with_reducible refine Gr.grow ?_ _ _) | (refine Gr.step ?_ (by with_reducible assumption)) | go_size))⟩
      · skip
        go_enter Tryz.func29, Tryz.ntmps29
        go_wp2_with fail
        refine (part_any _ _ true (HN.out.gr (Gr.alloc (Gr.refl _) _)) hn HB1.out).mono ?_
        rintro e w' ⟨rfl, rfl⟩
        go_wp2_with fail
        refine (part_any _ _ true (HD.out.gr (Gr.alloc (Gr.refl _) _)) hd HB2.out).mono ?_
        rintro e w' ⟨rfl, rfl⟩
        go_wp2
        go_ret
        exact ⟨rfl, (by repeat' (first | (with_reducible exact Gr.refl _) | (with_reducible assumption) | (with_reducible refine Gr.drewN ?_ _) | (with_reducible refine Gr.drew ?_) | (with_reducible refine Gr.alloc ?_ _) | (with_reducible refine Gr.setCell ?_ ?_ _) | (with_reducible refine Gr.grow ?_ _ _) | (refine Gr.step ?_ (by with_reducible assumption)) | go_size))⟩
  · obtain rfl : N = 0 := by omega
    obtain rfl : x = false := by
      cases x
      · rfl
      · exact absurd (hx rfl) (by omega)
    have hnl : (nd 0).length = 0 := by rw [nd_zero]; rfl
    have d2 : decide (0 < (nd 0).length) = false := by rw [hnl]; rfl
    clear hx h0 hnl
    cases b1
    · skip
      go_enter Tryz.func29, Tryz.ntmps29
      go_wp2_with fail
      refine (part_any _ _ false (HN.out.gr (Gr.alloc (Gr.refl _) _)) hn HB1.out).mono ?_
      rintro e w' ⟨rfl, rfl⟩
      go_wp2
      go_ret
      exact ⟨rfl, (by repeat' (first | (with_reducible exact Gr.refl _) | (with_reducible assumption) | (with_reducible refine Gr.drewN ?_ _) | (with_reducible refine Gr.drew ?_) | (with_reducible refine Gr.alloc ?_ _) | (with_reducible refine Gr.setCell ?_ ?_ _) | (with_reducible refine Gr.grow ?_ _ _) | (refine Gr.step ?_ (by with_reducible assumption)) | go_size))⟩
    · cases b2
      · skip
        go_enter Tryz.func29, Tryz.ntmps29
        go_wp2_with fail
        refine (part_any _ _ true (HN.out.gr (Gr.alloc (Gr.refl _) _)) hn HB1.out).mono ?_
        rintro e w' ⟨rfl, rfl⟩
        go_wp2_with fail
        refine (part_any _ _ false (HD.out.gr (Gr.alloc (Gr.refl _) _)) hd HB2.out).mono ?_
        rintro e w' ⟨rfl, rfl⟩
        go_wp2
        go_ret
        exact ⟨rfl, (by repeat' (first | (with_reducible exact Gr.refl _) | (with_reducible assumption) | (with_reducible refine Gr.drewN ?_ _) | (with_reducible refine Gr.drew ?_) | (with_reducible refine Gr.alloc ?_ _) | (with_reducible refine Gr.setCell ?_ ?_ _) | (with_reducible refine Gr.grow ?_ _ _) | (refine Gr.step ?_ (by with_reducible assumption)) | go_size))⟩
      · skip
        go_enter Tryz.func29, Tryz.ntmps29
        go_wp2_with fail
        refine (part_any _ _ true (HN.out.gr (Gr.alloc (Gr.refl _) _)) hn HB1.out).mono ?_
        rintro e w' ⟨rfl, rfl⟩
        go_wp2_with fail
        refine (part_any _ _ true (HD.out.gr (Gr.alloc (Gr.refl _) _)) hd HB2.out).mono ?_
        rintro e w' ⟨rfl, rfl⟩
        go_wp2
        go_ret
        exact ⟨rfl, (by repeat' (first | (with_reducible exact Gr.refl _) | (with_reducible assumption) | (with_reducible refine Gr.drewN ?_ _) | (with_reducible refine Gr.drew ?_) | (with_reducible refine Gr.alloc ?_ _) | (with_reducible refine Gr.setCell ?_ ?_ _) | (with_reducible refine Gr.grow ?_ _ _) | (refine Gr.step ?_ (by with_reducible assumption)) | go_size))⟩
theorem fvalid_yes {N D : Nat} (x : Bool) (vn vd : Value) (w : World) (hN : Num w vn N) (hD : Num w vd D) (hD0 : 0 < D) (hx : x = true → 0 < N) (hn : (nd N).length ≤ 64) (hd : (nd D).length ≤ 64) :
    Calls Tryz.prog 29 #[.agg #[.bool x, vn, vd]] w fun e w' => e = .returned (.bool true) ∧ Gr w w' :=
  fvalid_any x vn vd w true true hN hD hD0 hx (by omega) (by omega) (decide_eq_true hn) (decide_eq_true hd)
end Go.Proofs.YtjpjnbgfodlkcaaGreatDoor
/- Add. -/
namespace Go.Proofs.YtjpjnbgfodlkcaaGreatDoor
open Go Go.RowKit Go.Sort
set_option maxRecDepth 100000
set_option linter.unusedVariables false

theorem iv {a b : Int} (h : a = b) : Value.int .i64 a = .int .i64 b := by rw [h]
theorem add_step {p n c m j x y : Nat} (h : n + c * p = m + j) : (n + p * ((c + (x + y)) % 1073741824)) + (c + (x + y)) / 1073741824 * (1073741824 * p) = (m + p * x) + (j + p * y) := by
  have hd := Nat.mod_add_div (c + (x + y)) 1073741824
  generalize (c + (x + y)) % 1073741824 = d at *
  generalize (c + (x + y)) / 1073741824 = q at *
  grind
theorem add_lo {A B k c n : Nat} (h : n + c * 1073741824 ^ k = nv ((nd A).take k) + nv ((nd B).take k)) (hc : k < (nd A).length ∨ k < (nd B).length ∨ 0 < c) : 1073741824 ^ k ≤ A + B := by
  have lo : ∀ N, k < (nd N).length → 1073741824 ^ k ≤ N := fun N hN => by
    have h0 : 0 < N := by apply Nat.pos_of_ne_zero; intro hz; subst hz; simp [nd_zero] at hN
    exact Nat.le_trans (bp_mono (by omega)) (nd_lo h0)
  have le : ∀ N, nv ((nd N).take k) ≤ N := fun N => by
    by_cases hk : k ≤ (nd N).length
    · have := nv_take_drop (nd N) k hk
      rw [nv_nd] at this; omega
    · rw [List.take_of_length_le (by omega), nv_nd]; exact Nat.le_refl _
  have h1 := le A
  have h2 := le B
  rcases hc with hc | hc | hc
  · have := lo A hc; omega
  · have := lo B hc; omega
  · have := Nat.mul_le_mul_right (1073741824 ^ k) hc
    omega
/-- what the loop of Add keeps -/
def AddRel (w : World) (A B : Nat) (v s cv : Value) (wr : World) : Prop :=
  ∃ (k c : Nat) (l : List Nat), s = .int .i64 k ∧ cv = .int .i64 c ∧ c ≤ 1 ∧ l.length = k ∧ Lim l ∧ nv l + c * 1073741824 ^ k = nv ((nd A).take k) + nv ((nd B).take k) ∧ (k = 0 ∨ 1073741824 ^ (k - 1) ≤ A + B) ∧
    (k ≤ (nd A).length ∨ k ≤ (nd B).length ∨ c = 0) ∧ Own wr w.heap.size v l ∧ Gr w wr
set_option maxHeartbeats 1000000 in
theorem add_any {A B : Nat} (va vb : Value) (w : World) (hA : Num w va A) (hB : Num w vb B) (lA : (nd A).length ≤ 256) (lB : (nd B).length ≤ 256) :
    Calls Tryz.prog 38 #[va, vb] w (Res w (A + B)) := by
  have hA0 := hA
  have hB0 := hB
  obtain ⟨aa, acap, rfl, -, -, -⟩ := hA
  obtain ⟨ab, bcap, rfl, -, -, -⟩ := hB
  have hA := Lib.hid hA0
  have hB := Lib.hid hB0
  have va := Lib.hid (num_valid hA0 lA)
  have vb := Lib.hid (num_valid hB0 lB)
  clear hA0 hB0
  go_enter Tryz.func38, Tryz.ntmps38
  go_wp2_with fail
  refine va.out.mono ?_
  rintro e w' ⟨rfl, rfl⟩
  go_wp2_with fail
  refine vb.out.mono ?_
  rintro e w' ⟨rfl, rfl⟩
  go_wp2_with fail
  go_loopw [6, 7, 8] (fun v s cv wr => AddRel w A B v s cv wr) (fun _ s _ _ => (nd A).length + (nd B).length + 1 - (intOf s).toNat)
  case atStart => exact ⟨0, 0, [], rfl, rfl, by omega, rfl, lim_nil, by simp [nv], .inl rfl, .inl (Nat.zero_le _), Own.nil _ _, Gr.refl _⟩
  case round =>
    obtain ⟨k, c, l, rfl, rfl, hc1, hlen, hLl, hv, hlo, hk3, hown, hgr⟩ := hrel
    have HV := Lib.hid hv
    have HL := Lib.hid hlo
    clear hv hlo
    by_cases c1 : k < (nd A).length
    · have d1 : decide (k < (nd A).length) = true := by simpa using c1
      have hC : k < (nd A).length ∨ k < (nd B).length ∨ 0 < c := .inl c1
      have hx := lim_getD (lim_nd A) k
      have hy := lim_getD (lim_nd B) k
      have ca := limb_any k wr (hA.out.gr hgr)
      have cb := limb_any k wr (hB.out.gr hgr)
      have HLO := Lib.hid (add_lo HV.out hC)
      have HS := Lib.hid (add_step (x := (nd A).getD k 0) (y := (nd B).getD k 0) HV.out)
      generalize hxx : (nd A).getD k 0 = x at ca hx HS
      generalize hyy : (nd B).getD k 0 = y at cb hy HS
      have HXX := Lib.hid hxx
      have HYY := Lib.hid hyy
      have x1 : (x : Int) < 1073741824 := by omega
      have y1 : (y : Int) < 1073741824 := by omega
      have c2 : (c : Int) ≤ 1 := by omega
      obtain ⟨d, hd⟩ : ∃ d : Nat, d = (c + (x + y)) % 1073741824 := ⟨_, rfl⟩
      have ha : bits .and .i64 ((c : Int) + ((x : Int) + (y : Int))) 1073741823 = (d : Int) := by rw [and30]; omega
      have HD := Lib.hid hd
      have CA := Lib.hid ca
      have CB := Lib.hid cb
      have HK := Lib.hid hlen
      obtain ⟨ti, hi1, hi2, hi3, hi4⟩ := intInfo
      have hown0 := hown
      unfold Own at hown
      have kz : l.length ≤ 256 := by have := hlen; have := hk3; omega
      clear hxx hyy hd ca cb hlen
      go_wp2_with fail
      refine CA.out.mono ?_
      rintro e w' ⟨rfl, rfl⟩
      go_wp2_with fail
      refine CB.out.mono ?_
      rintro e w' ⟨rfl, rfl⟩
      go_wp2_with (at_builtin; refine wpList_append_own_at _ rfl _ _ 24 rfl w.heap.size 3 ti (.int .i64 0) 1 8 Tryz.underlying24 hi1 hi2 hi3 hi4 rfl (by decide) _ _ _ rfl (hown.alloc _) ⟨wr.heap.size, 0, none⟩ 1 1 [.int .i64 d] rfl rfl (cell_one_new _ _ _) (by simp [Value.oneCell']) (by unfold maxLen; omega) (by omega) (by have := Gr.size hgr; simp; omega) ?_; intro v' w2 hown2 hgrow hnil hloc)
      clear hnil hloc
      refine ⟨⟨k + 1, (c + (x + y)) / 1073741824, l ++ [d], by go_num, iv (by omega), by omega, by simp [HK.out], lim_append.2 ⟨hLl, lim_cons.2 ⟨by rw [HD.out]; omega, lim_nil⟩⟩, ?_, .inr (by simpa using HLO.out), ?_, ?_, ?_⟩, ?_⟩
      · have hs := HS.out
        rw [← HD.out] at hs
        rw [nv_append, HK.out, take_split', take_split', HXX.out, HYY.out, bp_succ]
        simpa [nv] using hs
      · by_cases e1 : k + 1 ≤ (nd A).length
        · exact .inl e1
        · by_cases e2 : k + 1 ≤ (nd B).length
          · exact .inr (.inl e2)
          · have := HXX.out
            rw [getD_ge (by omega)] at this
            have := HYY.out
            rw [getD_ge (by omega)] at this
            exact .inr (.inr (by omega))
      · unfold Own
        rw [List.length_append, List.map_append]
        exact hown2
      · exact Gr.grown (by repeat' (first | (with_reducible exact Gr.refl _) | (with_reducible assumption) | (with_reducible refine Gr.drewN ?_ _) | (with_reducible refine Gr.drew ?_) | (with_reducible refine Gr.alloc ?_ _) | (with_reducible refine Gr.setCell ?_ ?_ _) | (with_reducible refine Gr.grow ?_ _ _) | (refine Gr.step ?_ (by with_reducible assumption)) | go_size)) hgrow (fun k hk => (hown.lt k hk).1)
      · have := hk3
        simp only [intOf]; omega
    · have d1 : decide (k < (nd A).length) = false := by simpa using c1
      by_cases c2 : k < (nd B).length
      · have d2 : decide (k < (nd B).length) = true := by simpa using c2
        have hC : k < (nd A).length ∨ k < (nd B).length ∨ 0 < c := .inr (.inl c2)
        have hx := lim_getD (lim_nd A) k
        have hy := lim_getD (lim_nd B) k
        have ca := limb_any k wr (hA.out.gr hgr)
        have cb := limb_any k wr (hB.out.gr hgr)
        have HLO := Lib.hid (add_lo HV.out hC)
        have HS := Lib.hid (add_step (x := (nd A).getD k 0) (y := (nd B).getD k 0) HV.out)
        generalize hxx : (nd A).getD k 0 = x at ca hx HS
        generalize hyy : (nd B).getD k 0 = y at cb hy HS
        have HXX := Lib.hid hxx
        have HYY := Lib.hid hyy
        have x1 : (x : Int) < 1073741824 := by omega
        have y1 : (y : Int) < 1073741824 := by omega
        have c2 : (c : Int) ≤ 1 := by omega
        obtain ⟨d, hd⟩ : ∃ d : Nat, d = (c + (x + y)) % 1073741824 := ⟨_, rfl⟩
        have ha : bits .and .i64 ((c : Int) + ((x : Int) + (y : Int))) 1073741823 = (d : Int) := by rw [and30]; omega
        have HD := Lib.hid hd
        have CA := Lib.hid ca
        have CB := Lib.hid cb
        have HK := Lib.hid hlen
        obtain ⟨ti, hi1, hi2, hi3, hi4⟩ := intInfo
        have hown0 := hown
        unfold Own at hown
        have kz : l.length ≤ 256 := by have := hlen; have := hk3; omega
        clear hxx hyy hd ca cb hlen
        go_wp2_with fail
        refine CA.out.mono ?_
        rintro e w' ⟨rfl, rfl⟩
        go_wp2_with fail
        refine CB.out.mono ?_
        rintro e w' ⟨rfl, rfl⟩
        go_wp2_with (at_builtin; refine wpList_append_own_at _ rfl _ _ 24 rfl w.heap.size 3 ti (.int .i64 0) 1 8 Tryz.underlying24 hi1 hi2 hi3 hi4 rfl (by decide) _ _ _ rfl (hown.alloc _) ⟨wr.heap.size, 0, none⟩ 1 1 [.int .i64 d] rfl rfl (cell_one_new _ _ _) (by simp [Value.oneCell']) (by unfold maxLen; omega) (by omega) (by have := Gr.size hgr; simp; omega) ?_; intro v' w2 hown2 hgrow hnil hloc)
        clear hnil hloc
        refine ⟨⟨k + 1, (c + (x + y)) / 1073741824, l ++ [d], by go_num, iv (by omega), by omega, by simp [HK.out], lim_append.2 ⟨hLl, lim_cons.2 ⟨by rw [HD.out]; omega, lim_nil⟩⟩, ?_, .inr (by simpa using HLO.out), ?_, ?_, ?_⟩, ?_⟩
        · have hs := HS.out
          rw [← HD.out] at hs
          rw [nv_append, HK.out, take_split', take_split', HXX.out, HYY.out, bp_succ]
          simpa [nv] using hs
        · by_cases e1 : k + 1 ≤ (nd A).length
          · exact .inl e1
          · by_cases e2 : k + 1 ≤ (nd B).length
            · exact .inr (.inl e2)
            · have := HXX.out
              rw [getD_ge (by omega)] at this
              have := HYY.out
              rw [getD_ge (by omega)] at this
              exact .inr (.inr (by omega))
        · unfold Own
          rw [List.length_append, List.map_append]
          exact hown2
        · exact Gr.grown (by repeat' (first | (with_reducible exact Gr.refl _) | (with_reducible assumption) | (with_reducible refine Gr.drewN ?_ _) | (with_reducible refine Gr.drew ?_) | (with_reducible refine Gr.alloc ?_ _) | (with_reducible refine Gr.setCell ?_ ?_ _) | (with_reducible refine Gr.grow ?_ _ _) | (refine Gr.step ?_ (by with_reducible assumption)) | go_size)) hgrow (fun k hk => (hown.lt k hk).1)
        · have := hk3
          simp only [intOf]; omega
      · have d2 : decide (k < (nd B).length) = false := by simpa using c2
        by_cases c3 : 0 < c
        · have hC : k < (nd A).length ∨ k < (nd B).length ∨ 0 < c := .inr (.inr c3)
          have d3 : decide (0 < c) = true := by simpa using c3
          have hx := lim_getD (lim_nd A) k
          have hy := lim_getD (lim_nd B) k
          have ca := limb_any k wr (hA.out.gr hgr)
          have cb := limb_any k wr (hB.out.gr hgr)
          have HLO := Lib.hid (add_lo HV.out hC)
          have HS := Lib.hid (add_step (x := (nd A).getD k 0) (y := (nd B).getD k 0) HV.out)
          generalize hxx : (nd A).getD k 0 = x at ca hx HS
          generalize hyy : (nd B).getD k 0 = y at cb hy HS
          have HXX := Lib.hid hxx
          have HYY := Lib.hid hyy
          have x1 : (x : Int) < 1073741824 := by omega
          have y1 : (y : Int) < 1073741824 := by omega
          have c2 : (c : Int) ≤ 1 := by omega
          obtain ⟨d, hd⟩ : ∃ d : Nat, d = (c + (x + y)) % 1073741824 := ⟨_, rfl⟩
          have ha : bits .and .i64 ((c : Int) + ((x : Int) + (y : Int))) 1073741823 = (d : Int) := by rw [and30]; omega
          have HD := Lib.hid hd
          have CA := Lib.hid ca
          have CB := Lib.hid cb
          have HK := Lib.hid hlen
          obtain ⟨ti, hi1, hi2, hi3, hi4⟩ := intInfo
          have hown0 := hown
          unfold Own at hown
          have kz : l.length ≤ 256 := by have := hlen; have := hk3; omega
          clear hxx hyy hd ca cb hlen
          go_wp2_with fail
          refine CA.out.mono ?_
          rintro e w' ⟨rfl, rfl⟩
          go_wp2_with fail
          refine CB.out.mono ?_
          rintro e w' ⟨rfl, rfl⟩
          go_wp2_with (at_builtin; refine wpList_append_own_at _ rfl _ _ 24 rfl w.heap.size 3 ti (.int .i64 0) 1 8 Tryz.underlying24 hi1 hi2 hi3 hi4 rfl (by decide) _ _ _ rfl (hown.alloc _) ⟨wr.heap.size, 0, none⟩ 1 1 [.int .i64 d] rfl rfl (cell_one_new _ _ _) (by simp [Value.oneCell']) (by unfold maxLen; omega) (by omega) (by have := Gr.size hgr; simp; omega) ?_; intro v' w2 hown2 hgrow hnil hloc)
          clear hnil hloc
          refine ⟨⟨k + 1, (c + (x + y)) / 1073741824, l ++ [d], by go_num, iv (by omega), by omega, by simp [HK.out], lim_append.2 ⟨hLl, lim_cons.2 ⟨by rw [HD.out]; omega, lim_nil⟩⟩, ?_, .inr (by simpa using HLO.out), ?_, ?_, ?_⟩, ?_⟩
          · have hs := HS.out
            rw [← HD.out] at hs
            rw [nv_append, HK.out, take_split', take_split', HXX.out, HYY.out, bp_succ]
            simpa [nv] using hs
          · by_cases e1 : k + 1 ≤ (nd A).length
            · exact .inl e1
            · by_cases e2 : k + 1 ≤ (nd B).length
              · exact .inr (.inl e2)
              · have := HXX.out
                rw [getD_ge (by omega)] at this
                have := HYY.out
                rw [getD_ge (by omega)] at this
                exact .inr (.inr (by omega))
          · unfold Own
            rw [List.length_append, List.map_append]
            exact hown2
          · exact Gr.grown (by repeat' (first | (with_reducible exact Gr.refl _) | (with_reducible assumption) | (with_reducible refine Gr.drewN ?_ _) | (with_reducible refine Gr.drew ?_) | (with_reducible refine Gr.alloc ?_ _) | (with_reducible refine Gr.setCell ?_ ?_ _) | (with_reducible refine Gr.grow ?_ _ _) | (refine Gr.step ?_ (by with_reducible assumption)) | go_size)) hgrow (fun k hk => (hown.lt k hk).1)
          · have := hk3
            simp only [intOf]; omega
        · have hc0 : c = 0 := by omega
          have d3 : decide (0 < c) = false := by simpa using c3
          have hn : nv l = A + B := by
            have := HV.out
            rw [List.take_of_length_le (by omega), List.take_of_length_le (by omega), nv_nd, nv_nd, hc0] at this
            omega
          have hl : l = nd (A + B) := by
            rw [← hn]
            refine nd_of hLl ?_
            rw [hlen, hn]
            rcases HL.out with h | h
            · exact .inl (List.length_eq_zero_iff.1 (by omega))
            · exact .inr h
          have hfit := num_fit (W := w) (hl ▸ hown.rd) hgr
          have HF := Lib.hid hfit
          clear hl hn hfit hown hlen hc0 c3 c1 c2 hc1 hk3
          go_wp2_with fail
          refine HF.out.mono ?_
          rintro e w' ⟨v, er, rfl, hres, hg⟩
          go_wp2_with fail
          go_ret2
          exact ⟨v, er, rfl, hres, hg⟩
end Go.Proofs.YtjpjnbgfodlkcaaGreatDoor
/- shrink. -/
namespace Go.Proofs.YtjpjnbgfodlkcaaGreatDoor
open Go Go.RowKit Go.Shelf
set_option maxRecDepth 100000
set_option linter.unusedVariables false
attribute [local go_sem] Oper.semAt_some

theorem Ex.grown' {b : Nat} {u v w : World} {row : Option Nat} (h : Ex b u v) (g : v.grownBy w row) (hr : ∀ k, row = some k → u.heap.size ≤ k) : Ex b u w :=
  ⟨g.os.trans h.os, g.tape.trans h.tape, g.output.trans h.output, Nat.le_trans h.size g.size, fun j hj hs => (g.block j (Nat.lt_of_lt_of_le hs h.size) (fun hc => by have := hr j hc.symm; omega)).trans (h.block j hj hs)⟩
/-- a region that ends in one way -/
def QN (A : Act) (W : World) : Exit → Act → World → Prop
  | .normal, a, w => a = A ∧ w = W
  | _, _, _ => False
theorem region_cut {F : Fence} {n : Nat} {P : Program} {c : Code} {Q : Exit → Act → World → Prop} {a : Act} {w : World} (A : Act) (W : World) (h : c.wpIn F n P (QN A W) a w) (hQ : Q .normal A W) : c.wpIn F n P Q a w :=
  wpIn_mono h (fun e a' w' h => by cases e <;> first | exact h.elim | (obtain ⟨rfl, rfl⟩ := h; exact hQ))
def okT (_ : Nat) (_ : Int) : Prop := True
/-- what the rounds of shrink keep: the limbs that are there, the remainder, and, as long as the indexes come in order, what they are -/
def ShI (L : List Nat) (d g h : Nat) (sv : Value) (w : World) (pre : List (Ix L.length okT)) (W : World) : Prop :=
  (∃ (Q : List Nat) (r : Nat), Q.length = L.length ∧ Lim Q ∧ r < d ∧ Arr W g 0 Q ∧ W.cell? ⟨h + 1 + 1, 0, none⟩ = some (.int .i64 r) ∧ W.frozen? ⟨h + 1 + 1, 0, none⟩ = false ∧ W.cell? ⟨h, 0, none⟩ = some sv ∧ W.cell? ⟨h + 1, 0, none⟩ = some (.int .i64 d) ∧
    (∀ m, m ≤ L.length → ixs pre = dn L.length m → Q.take m = L.take m ∧ nv (L.drop m) = nv (Q.drop m) * d + r)) ∧ Ex g w W
theorem arr_kept {W W' : World} {row : Option Nat} {g o : Nat} {l : List Nat} (h : Arr W g o l) (hg : W.grownBy W' row) (hr : ∀ r, row = some r → ∃ o : Obj, W.heap[r]? = some o ∧ o.isCells = false) : Arr W' g o l :=
  fun i hi => ⟨cell_kept (h i hi).1 hg hr, (frozen_kept (h i hi).1 hg hr).trans (h i hi).2⟩
theorem ownFrom_ex {β : Type} {g n : Nat} {w : World} (hn : w.heap.size ≤ n) : OwnFrom n (fun (_ : β) W => Ex g w W) := fun _ _ _ _ hs hg hr => Ex.grown' hs hg (fun k e => Nat.le_trans hn (hr k e).1)
theorem shI_own (L : List Nat) (d g h : Nat) (sv : Value) (w : World) {n : Nat} (hn : w.heap.size ≤ n) : OwnFrom n (ShI L d g h sv w) :=
  OwnFrom.and (Go.Own.from (fun _ _ _ _ hs hg hr => by
    obtain ⟨Q, r, h1, h2, h3, h4, h5, h6, h7, h8, h9⟩ := hs
    exact ⟨Q, r, h1, h2, h3, arr_kept h4 hg hr, cell_kept h5 hg hr, (frozen_kept h5 hg hr).trans h6, cell_kept h7 hg hr, cell_kept h8 hg hr, h9⟩) _) (ownFrom_ex hn)
/-- what shrink leaves: the quotient in the same block; nothing below the base has changed but that block -/
def ShPost (g : Nat) (L : List Nat) (d : Nat) (w : World) (e : Ending) (w' : World) : Prop :=
  ∃ Q : List Nat, e = .returned (.int .i64 (nv L % d : Nat)) ∧ Q.length = L.length ∧ Lim Q ∧ nv Q = nv L / d ∧ Arr w' g 0 Q ∧ Ex g w w'
set_option maxHeartbeats 2000000 in
theorem shrink_any (L : List Nat) (d g cap : Nat) (w : World) (hA : Arr w g 0 L) (hL : Lim L) (hl : L.length ≤ 1000000) (hl0 : 0 < L.length) (hd : 0 < d) (hd1 : d ≤ 1073741824) :
    Calls Tryz.prog 85 #[.slice (some ⟨g, 0, none⟩) L.length cap, .int .i64 d] w (ShPost g L d w) := by
  have HA := Lib.hid hA
  have HL := Lib.hid hL
  have hgw : g < w.heap.size := World.block_lt_of_cell? _ _ (hA 0 hl0).1
  clear hA hL
  refine (callsIn_wide (n := 4)).1 ?_
  refine callsIn_of_wp_marks Tryz.func85 rfl trivial ?_ rfl
  simp only [Tryz.ntmps85, List.size_toArray, List.length_cons, List.length_nil, Nat.reduceAdd, Nat.reduceSub, Array.replicate_succ, Array.replicate_zero, List.push_toArray, List.append_toArray, List.nil_append, List.cons_append]
  gi_wp2_with (refine ⟨trivial, ?_⟩; gi_at_call 77; refine (back_in Fence.wide (4 - 1) trivial rfl _ _ _ _).mono ?_; rintro e w' ⟨rfl, rfl⟩)
  have b0 := Boxed.new w 24 (.slice (some ⟨g, 0, none⟩) L.length cap)
  have b1 := Boxed.new (w.alloc (.cells #[.slice (some ⟨g, 0, none⟩) L.length cap] 24)) 3 (.int .i64 d)
  have b2 := Boxed.new ((w.alloc (.cells #[.slice (some ⟨g, 0, none⟩) L.length cap] 24)).alloc (.cells #[.int .i64 d] 3)) 3 (.int .i64 0)
  have b3 := Boxed.new (((w.alloc (.cells #[.slice (some ⟨g, 0, none⟩) L.length cap] 24)).alloc (.cells #[.int .i64 d] 3)).alloc (.cells #[.int .i64 0] 3)) 24 (.slice (some ⟨g, 0, none⟩) L.length cap)
  simp only [World.size_alloc] at b1 b2 b3
  have b0 := ((b0.alloc (.cells #[.int .i64 d] 3)).alloc (.cells #[.int .i64 0] 3)).alloc (.cells #[.slice (some ⟨g, 0, none⟩) L.length cap] 24)
  have b1 := (b1.alloc (.cells #[.int .i64 0] 3)).alloc (.cells #[.slice (some ⟨g, 0, none⟩) L.length cap] 24)
  have b2 := b2.alloc (.cells #[.slice (some ⟨g, 0, none⟩) L.length cap] 24)
  have hG0 : Gr w ((((w.alloc (.cells #[.slice (some ⟨g, 0, none⟩) L.length cap] 24)).alloc (.cells #[.int .i64 d] 3)).alloc (.cells #[.int .i64 0] 3)).alloc (.cells #[.slice (some ⟨g, 0, none⟩) L.length cap] 24)) := (Gr.refl _).alloc _ |>.alloc _ |>.alloc _ |>.alloc _
  have hsz : ((((w.alloc (.cells #[.slice (some ⟨g, 0, none⟩) L.length cap] 24)).alloc (.cells #[.int .i64 d] 3)).alloc (.cells #[.int .i64 0] 3)).alloc (.cells #[.slice (some ⟨g, 0, none⟩) L.length cap] 24)).heap.size = w.heap.size + 1 + 1 + 1 + 1 := by simp
  generalize ((((w.alloc (.cells #[.slice (some ⟨g, 0, none⟩) L.length cap] 24)).alloc (.cells #[.int .i64 d] 3)).alloc (.cells #[.int .i64 0] 3)).alloc (.cells #[.slice (some ⟨g, 0, none⟩) L.length cap] 24)) = W0 at *
  have hA0 := HA.out.gr hG0
  refine wpIn_rangeFunc_ownG rfl (by decide) (gf := 100) (lb := #[.pointer (some ⟨w.heap.size + 1 + 1 + 1, 0, none⟩)]) rfl trivial (enters_of Tryz.func100 (by kernel_rfl) rfl)
    (back_stops Fence.wide (4 - 1) trivial rfl (by decide) (w.heap.size + 1 + 1 + 1) g 0 L.length cap (some ⟨g, 0, none⟩) okT hl W0 (by omega) b3.cell (.inr ⟨rfl, by omega, fun j hj => ⟨_, (hA0 j hj).1, trivial⟩⟩)) bkp_t (fun W l o o' _ h hc _ => bkp_b W l o o' h hc) (Below.refl _ _) (fun _ => rfl)
    (ShI L d g w.heap.size (.slice (some ⟨g, 0, none⟩) L.length cap) w) (fun _ _ _ => False) (shI_own L d g _ _ w (by omega)) (fun _ _ _ _ _ hs _ _ => hs)
    ⟨⟨L, 0, rfl, HL.out, hd, hA0, b2.cell, b2.frozen, b0.cell, b1.cell, fun m hm h => ⟨rfl, by
      have : m = L.length := dn_inj hm (Nat.le_refl _) (by rw [← h, dn_end]; rfl)
      subst this; simp [nv]⟩⟩, Ex.ofGr hG0⟩
    (fun x => { tmps := #[.slice (some ⟨g, 0, none⟩) L.length cap, .int .i64 d, .pointer (some ⟨w.heap.size, 0, none⟩), .pointer (some ⟨w.heap.size + 1, 0, none⟩), .int .i64 0, .pointer (some ⟨w.heap.size + 1 + 1, 0, none⟩), .int .i64 (x.1.1 : Nat), .slice (some ⟨g, 0, none⟩) L.length cap,
      .func (.func 100) #[] #[.pointer (some ⟨w.heap.size + 1 + 1 + 1, 0, none⟩)], .int .i64 (x.1.1 : Nat), .int .i64 x.1.2, undef, undef, undef, undef, undef, undef, undef, undef, undef, undef, undef, undef, undef, undef, undef, undef, undef], defers := [] }) ?assign ?body ?done ?stop
  case assign =>
    intro l x W K hK
    gi_wp2
    exact hK
  case body =>
    rintro l pre x W ⟨⟨Q, r, hQl, hQL, hr, hQa, hcr, hfr, hcs, hcd, hinv⟩, hex⟩ -
    obtain ⟨⟨i, z⟩, hi, hz⟩ := x
    have hci : W.cell? ⟨g, i, none⟩ = some (.int .i64 (Q.getD i 0 : Nat)) := by have := (hQa i (by rw [hQl]; exact hi)).1; rwa [Nat.zero_add] at this
    have hfi : W.frozen? ⟨g, i, none⟩ = false := by have := (hQa i (by rw [hQl]; exact hi)).2; rwa [Nat.zero_add] at this
    have HI := Lib.hid hinv
    have HQ := Lib.hid hQa
    have HQl := Lib.hid hQl
    have hq := lim_getD hQL i
    generalize hqq : Q.getD i 0 = q at hci hq
    have HQQ := Lib.hid hqq
    clear hinv hQa hQl hqq
    dsimp only
    dsimp only at hi
    have i1 : (i : Int) < (L.length : Int) := by omega
    have i0 : (0 : Int) ≤ (i : Int) := by omega
    have hs0 : r * 1073741824 ≤ 1073741823 * 1073741824 := Nat.mul_le_mul_right _ (by omega)
    obtain ⟨s, hs⟩ : ∃ s : Nat, s = r * 1073741824 := ⟨_, rfl⟩
    obtain ⟨t, ht⟩ : ∃ t : Nat, t = s + q := ⟨_, rfl⟩
    have m1 : IntKind.i64.wrap ((r : Int) * 1073741824) = (s : Int) := by rw [show (r : Int) * 1073741824 = (s : Int) by omega]; exact IntWalk.i64_in _ (by omega)
    have m2 : IntKind.i64.wrap ((s : Int) + (q : Int)) = (t : Int) := by rw [show (s : Int) + (q : Int) = (t : Int) by omega]; exact IntWalk.i64_in _ (by omega)
    have HS := Lib.hid hs
    have HT := Lib.hid ht
    clear hs ht hs0
    have hmx : Tryz.prog.follows .mixedOrders = true := by kernel_rfl
    gi_wp2
    refine region_cut { tmps := #[.slice (some ⟨g, 0, none⟩) L.length cap, .int .i64 d, .pointer (some ⟨w.heap.size, 0, none⟩), .pointer (some ⟨w.heap.size + 1, 0, none⟩), .int .i64 0, .pointer (some ⟨w.heap.size + 1 + 1, 0, none⟩), .int .i64 (i : Nat), .slice (some ⟨g, 0, none⟩) L.length cap,
      .func (.func 100) #[] #[.pointer (some ⟨w.heap.size + 1 + 1 + 1, 0, none⟩)], .int .i64 (i : Nat), .int .i64 z, .int .i64 (r : Nat), .int .i64 (s : Nat), .slice (some ⟨g, 0, none⟩) L.length cap, .int .i64 (i : Nat), .pointer (some ⟨g, i, none⟩), .int .i64 (q : Nat), .int .i64 (t : Nat), undef, undef, undef, undef, undef, undef, undef, undef, undef, undef], defers := [] } (W.setCell ⟨w.heap.size + 1 + 1, 0, none⟩ (.int .i64 (t : Nat))).drew ?r4 ?q4
    case r4 =>
      gi_region_with_o (fail)
      all_goals exact ⟨rfl, rfl⟩
    case q4 =>
      have g2 : (⟨w.heap.size + 1 + 1, 0, none⟩ : Addr) ≠ ⟨w.heap.size, 0, none⟩ := by simp
      have hne : ∀ c o, c ≠ w.heap.size + 1 + 1 → (W.setCell ⟨w.heap.size + 1 + 1, 0, none⟩ (.int .i64 (t : Nat))).drew.cell? ⟨c, o, none⟩ = W.cell? ⟨c, o, none⟩ := fun c o hc => by
        rw [World.cell?_drew, World.cell?_setCell_other _ _ _ _ (by intro e; cases e; exact hc rfl)]
      have k0 := hne w.heap.size 0 (by omega)
      have k1 := hne (w.heap.size + 1) 0 (by omega)
      have k2 : (W.setCell ⟨w.heap.size + 1 + 1, 0, none⟩ (.int .i64 (t : Nat))).drew.cell? ⟨w.heap.size + 1 + 1, 0, none⟩ = some (.int .i64 (t : Nat)) := by
        rw [World.cell?_drew]; exact World.cell?_setCell_same' _ _ _ (by rw [hcr]; rfl)
      have k3 := hne g i (by omega)
      have k6 := hne (w.heap.size + 1 + 1 + 1) 0 (by omega)
      rw [hcs] at k0
      rw [hcd] at k1
      rw [hci] at k3
      have k4 : (W.setCell ⟨w.heap.size + 1 + 1, 0, none⟩ (.int .i64 (t : Nat))).drew.frozen? ⟨g, i, none⟩ = false := by rw [World.frozen?_drew, World.frozen?_setCell]; exact hfi
      have k5 : (W.setCell ⟨w.heap.size + 1 + 1, 0, none⟩ (.int .i64 (t : Nat))).drew.frozen? ⟨w.heap.size + 1 + 1, 0, none⟩ = false := by rw [World.frozen?_drew, World.frozen?_setCell]; exact hfr
      have kA : Arr (W.setCell ⟨w.heap.size + 1 + 1, 0, none⟩ (.int .i64 (t : Nat))).drew g 0 Q := (HQ.out.ex (Ex.set (Ex.refl _ _) _ _) (by omega)).gr (Gr.drew (Gr.refl _))
      have kE : Ex g w (W.setCell ⟨w.heap.size + 1 + 1, 0, none⟩ (.int .i64 (t : Nat))).drew := (hex.setNew (by simp; omega) _).drew
      have kK : KeepsFrom W0.heap.size W (W.setCell ⟨w.heap.size + 1 + 1, 0, none⟩ (.int .i64 (t : Nat))).drew := ((KeepsOthers.setCell _ _ _).trans (KeepsOthers.drew _)).from _
      have HKA := Lib.hid kA
      generalize (W.setCell ⟨w.heap.size + 1 + 1, 0, none⟩ (.int .i64 (t : Nat))).drew = W1 at *
      clear hne g2 kA
      obtain ⟨p, hp⟩ : ∃ p : Nat, p = t / d := ⟨_, rfl⟩
      obtain ⟨r', hr'⟩ : ∃ r' : Nat, r' = t % d := ⟨_, rfl⟩
      have n1 : (t : Int).tdiv (d : Int) = (p : Int) := by rw [Int.tdiv_eq_ediv_of_nonneg (by omega), hp]; simp
      have n2 : wrap64 (p : Int) = (p : Int) := by
        refine IntWalk.wrap64_in _ ?_
        have := Nat.div_le_self t d
        have := HT.out; have := HS.out; have : r * 1073741824 ≤ 1073741823 * 1073741824 := Nat.mul_le_mul_right _ (by omega)
        omega
      have n3 : ((d : Int) == 0) = false := by rw [beq_eq_false_iff_ne]; omega
      have n4 : (t : Int) % (d : Int) = (r' : Int) := by rw [hr']; simp
      have n5 : (t : Int).tmod (d : Int) = (r' : Int) := by rw [Int.tmod_eq_emod_of_nonneg (by omega)]; exact n4
      have HP := Lib.hid hp
      have HR' := Lib.hid hr'
      clear hp hr'
      gi_wp2
      refine region_cut { tmps := #[.slice (some ⟨g, 0, none⟩) L.length cap, .int .i64 d, .pointer (some ⟨w.heap.size, 0, none⟩), .pointer (some ⟨w.heap.size + 1, 0, none⟩), .int .i64 0, .pointer (some ⟨w.heap.size + 1 + 1, 0, none⟩), .int .i64 (i : Nat), .slice (some ⟨g, 0, none⟩) L.length cap,
      .func (.func 100) #[] #[.pointer (some ⟨w.heap.size + 1 + 1 + 1, 0, none⟩)], .int .i64 (i : Nat), .int .i64 z, .int .i64 (r : Nat), .int .i64 (s : Nat), .slice (some ⟨g, 0, none⟩) L.length cap, .int .i64 (i : Nat), .pointer (some ⟨g, i, none⟩), .int .i64 (q : Nat), .int .i64 (t : Nat), .slice (some ⟨g, 0, none⟩) L.length cap, .int .i64 (i : Nat), .int .i64 (t : Nat), .int .i64 (d : Nat), .int .i64 (p : Nat), .pointer (some ⟨g, i, none⟩), undef, undef, undef, undef], defers := [] } (W1.setCell ⟨g, i, none⟩ (.int .i64 (p : Nat))).drew ?r5 ?q5
      case r5 =>
        gi_region_with_o (fail)
        all_goals exact ⟨rfl, rfl⟩
      case q5 =>
        have hA2 := HKA.out.set (i := i) (by rw [HQl.out]; exact hi) p
        rw [Nat.zero_add] at hA2
        have hg1 : ∀ c o, c ≠ g → (W1.setCell ⟨g, i, none⟩ (.int .i64 (p : Nat))).drew.cell? ⟨c, o, none⟩ = W1.cell? ⟨c, o, none⟩ := fun c o hc => by
          rw [World.cell?_drew, World.cell?_setCell_other _ _ _ _ (by intro e; cases e; exact hc rfl)]
        have j0 := hg1 w.heap.size 0 (by omega)
        have j1 := hg1 (w.heap.size + 1) 0 (by omega)
        have j2 := hg1 (w.heap.size + 1 + 1) 0 (by omega)
        have j3 : (W1.setCell ⟨g, i, none⟩ (.int .i64 (p : Nat))).drew.frozen? ⟨w.heap.size + 1 + 1, 0, none⟩ = false := by rw [World.frozen?_drew, World.frozen?_setCell]; exact k5
        have j6 := hg1 (w.heap.size + 1 + 1 + 1) 0 (by omega)
        rw [k6] at j6
        rw [k0] at j0
        rw [k1] at j1
        rw [k2] at j2
        have jA : Arr (W1.setCell ⟨g, i, none⟩ (.int .i64 (p : Nat))).drew g 0 (Q.set i p) := hA2.gr (Gr.drew (Gr.refl _))
        have jE : Ex g w (W1.setCell ⟨g, i, none⟩ (.int .i64 (p : Nat))).drew := (kE.set _ _).drew
        have jK : KeepsFrom W0.heap.size W (W1.setCell ⟨g, i, none⟩ (.int .i64 (p : Nat))).drew := kK.trans (((KeepsOthers.setCell _ _ _).trans (KeepsOthers.drew _)).from _)
        have HJA := Lib.hid jA
        generalize (W1.setCell ⟨g, i, none⟩ (.int .i64 (p : Nat))).drew = W2 at *
        clear hg1 jA hA2 k0 k1 k2 k3 k4 k5 k6
        gi_wp2
        have hlt := shr_lt hr hq
        have et : t = r * 1073741824 + q := by rw [HT.out, HS.out]
        refine ⟨jK.trans ((KeepsOthers.setCell _ _ _).from _), ⟨fun e => ?_, fun _ j hj => ?_⟩, ⟨Q.set i p, r', by rw [List.length_set]; exact HQl.out, lim_set hQL _ (by rw [HP.out, et]; exact hlt.1), by rw [HR'.out, et]; exact hlt.2, HJA.out.ex (Ex.set (Ex.refl _ _) _ _) (by omega), World.cell?_setCell_same' _ _ _ (by rw [j2]; rfl), by rw [World.frozen?_setCell]; exact j3, ?_, ?_, ?_⟩, jE.setNew (by simp; omega) _⟩
        · rw [World.cell?_setCell_other _ _ _ _ (by simp), j6]; exact e
        · rw [World.cell?_setCell_other _ _ _ _ (by intro hc; have := congrArg Addr.block hc; simp at this; omega)]
          exact ⟨_, (HJA.out j (by rw [List.length_set, HQl.out]; exact hj)).1, trivial⟩
        · rw [World.cell?_setCell_other _ _ _ _ (by simp)]; exact j0
        · rw [World.cell?_setCell_other _ _ _ _ (by simp)]; exact j1
        · intro m hm hmx
          rw [ixs_snoc] at hmx
          obtain ⟨hml, hpre, him⟩ := dn_last hm hmx
          have him : i = m := him
          subst him
          obtain ⟨e1, e2⟩ := HI.out (i + 1) (by omega) hpre
          have e3 := getD_take e1 (Nat.lt_succ_self i)
          have hst := shrink_step (L := L) (Q := Q) (i := i) (d := d) (r := r) hml (by rw [HQl.out]; exact hml) e2 hr HL.out e3
          rw [← e3, HQQ.out, ← et, ← HP.out, ← HR'.out] at hst
          refine ⟨?_, hst.1⟩
          rw [List.take_set_of_le (Nat.le_refl _)]
          have := congrArg (List.take i) e1
          rwa [List.take_take, List.take_take, Nat.min_eq_left (by omega)] at this
  case done =>
    rintro D ys W hD hys ⟨⟨Q, r, hQl, hQL, hr, hQa, hcr, hfr, hcs, hcd, hinv⟩, hex⟩ hK
    obtain ⟨-, hv⟩ := hinv 0 (by omega) hys
    rw [List.drop_zero, List.drop_zero] at hv
    have HV := Lib.hid hv
    have HQ := Lib.hid hQa
    clear hinv hv hQa
    gi_wp2
    refine ⟨by simp, .inl ⟨_, _, rfl, run_takeDeferred hK, ?_⟩⟩
    have hdiv : nv Q = nv L / d := by rw [HV.out, Nat.mul_comm, Nat.mul_add_div hd, Nat.div_eq_of_lt hr]; rfl
    have hmod : r = nv L % d := by rw [HV.out, Nat.mul_comm, Nat.mul_add_mod, Nat.mod_eq_of_lt hr]
    refine ⟨_, results_tmp rfl _ _ _, Q, by rw [← hmod]; rfl, hQl, hQL, hdiv, arr_kept HQ.out (grownBy_putObj' _ D (.deferred none)) (fun r e => by cases e; exact ⟨_, hK, rfl⟩), Ex.grown' hex (grownBy_putObj' _ D (.deferred none)) (fun k e => by cases e; omega)⟩
  case stop =>
    rintro D c pre W _ _ h _
    exact h.elim
end Go.Proofs.YtjpjnbgfodlkcaaGreatDoor
