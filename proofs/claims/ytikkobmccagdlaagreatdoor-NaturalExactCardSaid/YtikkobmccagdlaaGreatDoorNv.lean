/- Natural numbers as lists of limbs: plain mathematics. -/
namespace Go.Proofs.YtikkobmccagdlaaGreatDoor
/-- the value of limbs, the least significant one first -/
def nv : List Nat → Nat
  | [] => 0
  | x :: r => x + 1073741824 * nv r
/-- the limbs of a number -/
def nd (n : Nat) : List Nat := if n = 0 then [] else n % 1073741824 :: nd (n / 1073741824)
decreasing_by omega
def Lim (l : List Nat) : Prop := ∀ x ∈ l, x < 1073741824
abbrev bp (k : Nat) : Nat := 1073741824 ^ k
theorem bp_succ (k : Nat) : 1073741824 ^ (k + 1) = 1073741824 * 1073741824 ^ k := by rw [Nat.pow_succ, Nat.mul_comm]
theorem bp_pos (k : Nat) : 0 < 1073741824 ^ k := Nat.pow_pos (by omega)
theorem bp_mono {j k : Nat} (h : j ≤ k) : 1073741824 ^ j ≤ 1073741824 ^ k := Nat.pow_le_pow_right (by omega) h
theorem nd_zero : nd 0 = [] := by rw [nd]; simp
theorem nd_pos {n : Nat} (h : 0 < n) : nd n = n % 1073741824 :: nd (n / 1073741824) := by rw [nd, if_neg (by omega)]
theorem nv_nd (n : Nat) : nv (nd n) = n := by
  induction n using Nat.strongRecOn with
  | _ n ih =>
    by_cases h : n = 0
    · subst h; simp [nd_zero, nv]
    · rw [nd_pos (by omega), nv, ih _ (by omega)]; omega
theorem lim_nil : Lim [] := fun _ h => by cases h
theorem lim_cons {x : Nat} {l : List Nat} : Lim (x :: l) ↔ x < 1073741824 ∧ Lim l := by simp [Lim]
theorem lim_append {a b : List Nat} : Lim (a ++ b) ↔ Lim a ∧ Lim b := by
  simp only [Lim, List.mem_append]; exact ⟨fun h => ⟨fun x hx => h x (.inl hx), fun x hx => h x (.inr hx)⟩, fun h x hx => hx.elim (h.1 x) (h.2 x)⟩
theorem lim_nd (n : Nat) : Lim (nd n) := by
  induction n using Nat.strongRecOn with
  | _ n ih =>
    by_cases h : n = 0
    · subst h; rw [nd_zero]; exact lim_nil
    · rw [nd_pos (by omega), lim_cons]; exact ⟨by omega, ih _ (by omega)⟩
theorem lim_take {l : List Nat} (h : Lim l) (k : Nat) : Lim (l.take k) := fun x hx => h x (List.mem_of_mem_take hx)
theorem lim_drop {l : List Nat} (h : Lim l) (k : Nat) : Lim (l.drop k) := fun x hx => h x (List.mem_of_mem_drop hx)
theorem lim_getD {l : List Nat} (h : Lim l) (k : Nat) : l.getD k 0 < 1073741824 := by
  rw [List.getD_eq_getElem?_getD]
  cases e : l[k]? with
  | none => simp
  | some x => simpa using h x (List.mem_of_getElem? e)
theorem nv_append (a b : List Nat) : nv (a ++ b) = nv a + 1073741824 ^ a.length * nv b := by
  induction a with
  | nil => simp [nv]
  | cons x a ih => simp only [List.cons_append, nv, List.length_cons, ih, bp_succ]; grind
theorem nv_lt {l : List Nat} (h : Lim l) : nv l < 1073741824 ^ l.length := by
  induction l with
  | nil => simp [nv]
  | cons x l ih =>
    have := ih (lim_cons.1 h).2
    have := (lim_cons.1 h).1
    simp only [nv, List.length_cons, bp_succ]; omega
theorem nv_inj : ∀ {a b : List Nat}, Lim a → Lim b → a.length = b.length → nv a = nv b → a = b
  | [], [], _, _, _, _ => rfl
  | [], _ :: _, _, _, h, _ => by simp at h
  | _ :: _, [], _, _, h, _ => by simp at h
  | x :: a, y :: b, ha, hb, hl, hv => by
    have ⟨hx, ha2⟩ := lim_cons.1 ha
    have ⟨hy, hb2⟩ := lim_cons.1 hb
    simp only [nv] at hv
    have e : x = y := by omega
    rw [e, nv_inj ha2 hb2 (by simpa using hl) (by omega)]
theorem nd_len (n k : Nat) : (nd n).length ≤ k ↔ n < 1073741824 ^ k := by
  induction k generalizing n with
  | zero =>
    by_cases h : n = 0
    · subst h; simp [nd_zero]
    · rw [nd_pos (by omega)]; simp; omega
  | succ k ih =>
    by_cases h : n = 0
    · subst h; simp [nd_zero, bp_pos]
    · rw [nd_pos (by omega), List.length_cons, Nat.add_le_add_iff_right, ih, bp_succ]; omega
theorem nd_lo {n : Nat} (h : 0 < n) : 1073741824 ^ ((nd n).length - 1) ≤ n := by
  have h1 : 0 < (nd n).length := by rw [nd_pos h]; simp
  have := nd_len n ((nd n).length - 1)
  have : ¬ n < 1073741824 ^ ((nd n).length - 1) := fun hc => by have := this.2 hc; omega
  omega
theorem nd_hi (n : Nat) : n < 1073741824 ^ (nd n).length := (nd_len n _).1 (Nat.le_refl _)
/-- limbs that are the limbs of their value -/
theorem nd_of {l : List Nat} (h : Lim l) (hl : l = [] ∨ 1073741824 ^ (l.length - 1) ≤ nv l) : l = nd (nv l) := by
  refine nv_inj h (lim_nd _) ?_ (nv_nd _).symm
  rcases hl with rfl | hl
  · simp [nv, nd_zero]
  · have h1 := (nd_len (nv l) l.length).2 (nv_lt h)
    by_cases h0 : l.length = 0
    · have : l = [] := List.length_eq_zero_iff.1 h0; subst this; simp [nv, nd_zero]
    · have h2 : ¬ (nd (nv l)).length ≤ l.length - 1 := fun hc => by have := (nd_len _ _).1 hc; omega
      omega
theorem take_split (l : List Nat) {k : Nat} (h : k < l.length) : l.take (k + 1) = l.take k ++ [l.getD k 0] := by
  rw [List.take_succ_eq_append_getElem h, List.getD_eq_getElem?_getD, List.getElem?_eq_getElem h]; rfl
theorem take_split' (l : List Nat) (k : Nat) : nv (l.take (k + 1)) = nv (l.take k) + 1073741824 ^ k * l.getD k 0 := by
  by_cases h : k < l.length
  · rw [take_split l h, nv_append]; simp [nv, Nat.min_eq_left (Nat.le_of_lt h)]
  · rw [List.take_of_length_le (by omega), List.take_of_length_le (by omega), List.getD_eq_getElem?_getD, List.getElem?_eq_none (by omega)]; simp
theorem nd_of_last {l : List Nat} (h : Lim l) (hl : l = [] ∨ l.getD (l.length - 1) 0 ≠ 0) : l = nd (nv l) := by
  refine nd_of h (hl.imp id fun hl => ?_)
  have h0 : l.length ≠ 0 := fun hc => by have : l = [] := List.length_eq_zero_iff.1 hc; subst this; simp at hl
  have e := take_split' l (l.length - 1)
  rw [show l.length - 1 + 1 = l.length by omega, List.take_of_length_le (Nat.le_refl _)] at e
  have := bp_pos (l.length - 1)
  rw [e]
  calc 1073741824 ^ (l.length - 1) = 1073741824 ^ (l.length - 1) * 1 := by omega
    _ ≤ 1073741824 ^ (l.length - 1) * l.getD (l.length - 1) 0 := Nat.mul_le_mul_left _ (by omega)
    _ ≤ _ := by omega
theorem nd_last {n : Nat} (h : 0 < n) : (nd n).getD ((nd n).length - 1) 0 ≠ 0 := by
  intro hc
  have h1 : 0 < (nd n).length := by rw [nd_pos h]; simp
  have e := take_split' (nd n) ((nd n).length - 1)
  rw [show (nd n).length - 1 + 1 = (nd n).length by omega, List.take_of_length_le (Nat.le_refl _), hc, nv_nd] at e
  have h2 := nv_lt (lim_take (lim_nd n) ((nd n).length - 1))
  rw [List.length_take, Nat.min_eq_left (by omega)] at h2
  have := nd_lo h
  omega
/-- taking a zero away from the end -/
theorem nv_trim1 (l : List Nat) {k : Nat} (h : l.getD k 0 = 0) : nv (l.take (k + 1)) = nv (l.take k) := by
  rw [take_split', h]; simp
theorem nd_inj {a b : Nat} (h : nd a = nd b) : a = b := by rw [← nv_nd a, h, nv_nd]
/-- the first difference decides -/
theorem nv_cmp {a b : List Nat} {k : Nat} (ha : Lim a) (hl : a.length = b.length) (hk : k < a.length) (hd : a.drop (k + 1) = b.drop (k + 1)) (hlt : a.getD k 0 < b.getD k 0) : nv a < nv b := by
  have ea : a = a.take (k + 1) ++ a.drop (k + 1) := (List.take_append_drop _ _).symm
  have eb : b = b.take (k + 1) ++ b.drop (k + 1) := (List.take_append_drop _ _).symm
  rw [ea, eb, nv_append, nv_append, hd, take_split', take_split']
  have h1 := nv_lt (lim_take ha k)
  simp only [List.length_take] at h1 ⊢
  rw [Nat.min_eq_left (by omega)] at h1
  rw [Nat.min_eq_left (by omega), Nat.min_eq_left (by omega)]
  have : 1073741824 ^ k * (a.getD k 0 + 1) ≤ 1073741824 ^ k * b.getD k 0 := Nat.mul_le_mul_left _ hlt
  rw [Nat.mul_add] at this
  omega
theorem nd_lt_len {a b : Nat} (h : (nd a).length < (nd b).length) : a < b := by
  have h1 := nd_hi a
  have h2 : 0 < b := by
    apply Nat.pos_of_ne_zero; intro hc; subst hc; simp [nd_zero] at h
  have h3 := nd_lo h2
  have := bp_mono (show (nd a).length ≤ (nd b).length - 1 by omega)
  omega
/-- one step of adding a multiple -/
theorem at_step {p n' c n f m x y : Int} (h : n' + c * p = n + f * m) :
    (n' + p * ((c + x + f * y) % 1073741824)) + (c + x + f * y) / 1073741824 * (1073741824 * p) = (n + p * x) + f * (m + p * y) := by
  have hd := Int.emod_add_mul_ediv (c + x + f * y) 1073741824
  generalize (c + x + f * y) % 1073741824 = d at *
  generalize (c + x + f * y) / 1073741824 = q at *
  grind
theorem at_bound {c f : Int} {x y : Nat} (c0 : -1073741824 < c) (c1 : c < 1073741824) (f0 : -1073741824 < f) (f1 : f < 1073741824) (hx : x < 1073741824) (hy : y < 1073741824) :
    -1152921504606846976 < c + (x + f * y) ∧ c + (x + f * y) < 1152921504606846976 ∧ -1073741824 < (c + (x + f * y)) / 1073741824 ∧ (c + (x + f * y)) / 1073741824 < 1073741824 ∧ -1152921503533105153 < f * y ∧ f * y < 1152921503533105153 := by
  have h1 : f * y ≤ 1073741823 * y := Int.mul_le_mul_of_nonneg_right (by omega) (by omega)
  have h2 : -1073741823 * y ≤ f * y := Int.mul_le_mul_of_nonneg_right (by omega) (by omega)
  have h3 : (y : Int) ≤ 1073741823 := by omega
  have h4 : (0 : Int) ≤ y := by omega
  generalize f * (y : Int) = z at *
  omega
/-- replacing the limbs from i on -/
theorem nv_win (l m r : List Nat) : nv (l ++ (m ++ r)) = nv l + 1073741824 ^ l.length * (nv m + 1073741824 ^ m.length * nv r) := by rw [nv_append, nv_append]
theorem nv_take_drop (l : List Nat) (k : Nat) (h : k ≤ l.length) : nv l = nv (l.take k) + 1073741824 ^ k * nv (l.drop k) := by
  conv => lhs; rw [← List.take_append_drop k l, nv_append]
  rw [List.length_take, Nat.min_eq_left h]
theorem nv_zero {l : List Nat} (h : ∀ j, l.getD j 0 = 0) : nv l = 0 := by
  induction l with
  | nil => rfl
  | cons x l ih =>
    have h0 := h 0
    have := ih (fun j => by simpa using h (j + 1))
    simp at h0
    simp [nv, h0, this]
theorem nv_replicate (n : Nat) : nv (List.replicate n 0) = 0 := by
  induction n with
  | zero => rfl
  | succ n ih => simp [List.replicate_succ, nv, ih]
theorem lim_replicate (n : Nat) : Lim (List.replicate n 0) := fun x hx => by rw [List.mem_replicate] at hx; omega
/-- what does not fit into the limbs is determined -/
theorem carry_zero {n c p : Int} (v : Int) (h : n + c * p = v) (n0 : 0 ≤ n) (n1 : n < p) (v0 : 0 ≤ v) (v1 : v < p) : c = 0 := by
  apply Decidable.byContradiction; intro hc
  rcases Int.lt_or_gt_of_ne hc with hc | hc
  · have : c * p ≤ -1 * p := Int.mul_le_mul_of_nonneg_right (by omega) (by omega)
    omega
  · have : 1 * p ≤ c * p := Int.mul_le_mul_of_nonneg_right (by omega) (by omega)
    omega
theorem carry_neg {n c p : Int} (v : Int) (h : n + c * p = v) (n0 : 0 ≤ n) (n1 : n < p) (v0 : -p ≤ v) (v1 : v < 0) : c = -1 := by
  have h2 : n + (c + 1) * p = v + p := by grind
  have := carry_zero (v + p) h2 n0 n1 (by omega) (by omega)
  omega
/-- a row of the product: the window's new limbs, and nothing is left over -/
theorem mul_step {P W' b : List Nat} {i x na : Nat} {c : Int} (hP : nv P = na * nv b) (hi : i + b.length + 1 ≤ P.length) (hz : ∀ j, i + b.length ≤ j → P.getD j 0 = 0) (lP : Lim P) (lb : Lim b) (lW : Lim W') (hW : W'.length = b.length + 1) (hx : x < 1073741824)
    (h : ((nv W' : Nat) : Int) + c * 1073741824 ^ (b.length + 1) = (nv ((P.drop i).take (b.length + 1)) : Nat) + (x : Int) * (nv b : Nat)) :
    c = 0 ∧ nv (P.take i ++ (W' ++ P.drop (i + (b.length + 1)))) = (na + 1073741824 ^ i * x) * nv b := by
  have e1 : (P.drop i).take (b.length + 1) = (P.drop i).take b.length ++ [0] := by
    rw [take_split _ (by simp; omega)]
    congr 1
    have := hz (i + b.length) (Nat.le_refl _)
    rw [List.getD_eq_getElem?_getD] at this ⊢
    rw [List.getElem?_drop, this]
  have e2 := nv_lt (lim_take (lim_drop lP i) b.length)
  have e3 : nv ((P.drop i).take (b.length + 1)) = nv ((P.drop i).take b.length) := by rw [e1, nv_append]; simp [nv]
  have e4 := nv_lt lb
  have e5 := nv_lt lW
  rw [List.length_take, List.length_drop, Nat.min_eq_left (by omega)] at e2
  rw [hW] at e5
  have e6 : x * nv b ≤ 1073741823 * nv b := Nat.mul_le_mul_right _ (by omega)
  have hc : c = 0 := by
    refine carry_zero _ h (by omega) ?_ (by omega) ?_
    · rw [show (1073741824 : Int) ^ (b.length + 1) = ((1073741824 ^ (b.length + 1) : Nat) : Int) by simp]; omega
    · rw [show (1073741824 : Int) ^ (b.length + 1) = ((1073741824 ^ (b.length + 1) : Nat) : Int) by simp, bp_succ, e3]
      have : (x : Int) * (nv b : Nat) = ((x * nv b : Nat) : Int) := by simp
      rw [this]; omega
  refine ⟨hc, ?_⟩
  subst hc
  rw [Int.zero_mul, Int.add_zero] at h
  have h2 : nv W' = nv ((P.drop i).take (b.length + 1)) + x * nv b := by
    have : (x : Int) * (nv b : Nat) = ((x * nv b : Nat) : Int) := by simp
    omega
  have e7 : P = P.take i ++ ((P.drop i).take (b.length + 1) ++ P.drop (i + (b.length + 1))) := by
    rw [← List.drop_drop, List.take_append_drop, List.take_append_drop]
  have e8 := congrArg nv e7
  rw [nv_win] at e8 ⊢
  rw [hW]
  rw [show ((P.drop i).take (b.length + 1)).length = b.length + 1 by simp; omega] at e8
  rw [show (P.take i).length = i by simp; omega] at e8 ⊢
  rw [h2]
  rw [hP] at e8
  generalize nv (List.take (b.length + 1) (List.drop i P)) = u at *
  generalize nv (List.drop (i + (b.length + 1)) P) = v at *
  generalize (1073741824 ^ (b.length + 1) : Nat) = p at *
  generalize (1073741824 ^ i : Nat) = q at *
  grind
theorem win_len {P l : List Nat} {i m : Nat} (hl : l.length = m) (hi : i + m ≤ P.length) : (P.take i ++ (l ++ P.drop (i + m))).length = P.length := by
  simp only [List.length_append, List.length_take, List.length_drop]; omega
theorem win_zero {P l : List Nat} {i m : Nat} (hl : l.length = m) (hi : i + m ≤ P.length) (hz : ∀ j, i + m ≤ j → P.getD j 0 = 0) (j : Nat) (hj : i + m ≤ j) : (P.take i ++ (l ++ P.drop (i + m))).getD j 0 = 0 := by
  rw [List.getD_eq_getElem?_getD, List.getElem?_append_right (by rw [List.length_take]; omega), List.length_take, Nat.min_eq_left (by omega), List.getElem?_append_right (by omega), List.getElem?_drop, ← List.getD_eq_getElem?_getD, hl]
  rw [show i + m + (j - i - m) = j by omega]
  exact hz j hj
theorem win_lim {P l : List Nat} {i m : Nat} (hP : Lim P) (hl : Lim l) : Lim (P.take i ++ (l ++ P.drop (i + m))) := lim_append.2 ⟨lim_take hP _, lim_append.2 ⟨hl, lim_drop hP _⟩⟩
/-- the guess is at least the digit -/
theorem guess_ge {R D : List Nat} {n : Nat} (lR : Lim R) (hR : R.length = n + 2) (hD : D.length = n + 1) (ht : 0 < D.getD n 0) :
    0 < nv D ∧ nv R / nv D ≤ (R.getD (n + 1) 0 * 1073741824 + R.getD n 0) / D.getD n 0 := by
  have d1 := take_split' D n
  rw [List.take_of_length_le (by omega)] at d1
  have r1 := take_split' R (n + 1)
  have r2 := take_split' R n
  rw [List.take_of_length_le (by omega)] at r1
  have r3 := nv_lt (lim_take lR n)
  rw [List.length_take, Nat.min_eq_left (by omega)] at r3
  have hp := bp_pos n
  have hD0 : 0 < nv D := by
    rw [d1]
    have := Nat.mul_pos hp ht
    omega
  refine ⟨hD0, ?_⟩
  rw [Nat.le_div_iff_mul_le ht]
  have h1 : nv R / nv D * nv D ≤ nv R := Nat.div_mul_le_self _ _
  have h2 : nv R / nv D * (1073741824 ^ n * D.getD n 0) ≤ nv R := Nat.le_trans (Nat.mul_le_mul_left _ (by omega)) h1
  rw [r1, r2, bp_succ] at h2
  have h3 : nv R / nv D * (1073741824 ^ n * D.getD n 0) = 1073741824 ^ n * (nv R / nv D * D.getD n 0) := by
    rw [Nat.mul_left_comm]
  rw [r1, r2, bp_succ] at h3
  rw [h3] at h2
  have h4 : 1073741824 ^ n * ((nv (R.take n) + 1073741824 ^ n * R.getD n 0 + 1073741824 * 1073741824 ^ n * R.getD (n + 1) 0) / nv D * D.getD n 0) < 1073741824 ^ n * (R.getD (n + 1) 0 * 1073741824 + R.getD n 0 + 1) := by
    refine Nat.lt_of_le_of_lt h2 ?_
    have : 1073741824 ^ n * (R.getD (n + 1) 0 * 1073741824 + R.getD n 0 + 1) = 1073741824 ^ n * R.getD n 0 + 1073741824 * 1073741824 ^ n * R.getD (n + 1) 0 + 1073741824 ^ n := by
      generalize (1073741824 ^ n : Nat) = q; grind
    rw [this]; omega
  have h5 := Nat.lt_of_mul_lt_mul_left h4
  rw [r1, r2, bp_succ]
  omega
theorem drop_cons {l : List Nat} {i : Nat} (h : i < l.length) : l.drop i = l.getD i 0 :: l.drop (i + 1) := by
  rw [List.drop_eq_getElem_cons h, List.getD_eq_getElem?_getD, List.getElem?_eq_getElem h]; rfl
theorem nv_drop {l : List Nat} {i : Nat} (h : i < l.length) : nv (l.drop i) = l.getD i 0 + 1073741824 * nv (l.drop (i + 1)) := by rw [drop_cons h, nv]
theorem drop_set {l : List Nat} {i x : Nat} (h : i < l.length) : (l.set i x).drop i = x :: l.drop (i + 1) := by
  rw [List.drop_set, if_neg (by omega), Nat.sub_self, drop_cons h, List.set_cons_zero]
theorem div_step {rest q D : List Nat} {i Af : Nat} (h1 : Af = nv rest + 1073741824 ^ (i + 1) * nv (q.drop (i + 1)) * nv D) (h2 : nv (rest.drop (i + 1)) < nv D) (lR : Lim rest) (lD : Lim D) (hi : i + D.length + 1 ≤ rest.length) (hq : i < q.length) :
    nv ((rest.drop i).take (D.length + 1)) < 1073741824 * nv D ∧
    ∀ W' : List Nat, W'.length = D.length + 1 → nv W' = nv ((rest.drop i).take (D.length + 1)) % nv D →
      Af = nv (rest.take i ++ (W' ++ rest.drop (i + (D.length + 1)))) + 1073741824 ^ i * nv ((q.set i (nv ((rest.drop i).take (D.length + 1)) / nv D)).drop i) * nv D ∧
      nv ((rest.take i ++ (W' ++ rest.drop (i + (D.length + 1)))).drop i) < nv D := by
  have hx := lim_getD lR i
  have e1 := nv_drop (l := rest) (i := i) (by omega)
  have e2 := nv_take_drop (rest.drop (i + 1)) D.length (by simp; omega)
  have e3 := nv_take_drop (rest.drop i) (D.length + 1) (by simp; omega)
  have hD := nv_lt lD
  have hp := bp_pos D.length
  rw [List.drop_drop] at e2 e3
  rw [show i + 1 + D.length = i + (D.length + 1) by omega] at e2
  have hz : nv (rest.drop (i + (D.length + 1))) = 0 := by
    apply Decidable.byContradiction; intro hc
    have := Nat.mul_le_mul_left (1073741824 ^ D.length) (Nat.pos_of_ne_zero hc)
    omega
  rw [hz, Nat.mul_zero, Nat.add_zero] at e3
  refine ⟨by omega, fun W' hW hv => ?_⟩
  have hD0 : 0 < nv D := by omega
  have hl : (rest.take i).length = i := by simp; omega
  have hr : nv rest = nv (rest.take i) + 1073741824 ^ i * nv (rest.drop i) := nv_take_drop rest i (by omega)
  constructor
  · rw [nv_win, hl, hz, Nat.mul_zero, Nat.add_zero, drop_set hq, nv, hv]
    have hdm := Nat.mod_add_div (nv ((rest.drop i).take (D.length + 1))) (nv D)
    rw [h1, hr, e3, bp_succ]
    generalize nv ((rest.drop i).take (D.length + 1)) % nv D = r at *
    generalize nv ((rest.drop i).take (D.length + 1)) / nv D = s at *
    rw [← hdm]
    generalize nv (rest.take i) = t
    generalize nv (q.drop (i + 1)) = u
    generalize (1073741824 ^ i : Nat) = p
    generalize nv D = d
    grind
  · rw [List.drop_append, hl, Nat.sub_self, List.drop_zero, List.drop_of_length_le (by omega), List.nil_append, nv_append, hz, Nat.mul_zero, Nat.add_zero, hv]
    exact Nat.mod_lt _ hD0
theorem div_start {rest : List Nat} {A Bv f la lb : Nat} (hr : nv rest = A * f) (hl : rest.length = la + 1) (hb : 1 ≤ lb) (hab : lb ≤ la) (hA : A < 1073741824 ^ la) (hB : 1073741824 ^ (lb - 1) ≤ Bv) (hf : 0 < f) : nv (rest.drop (la - lb + 1)) < Bv * f := by
  have e := nv_take_drop rest (la - lb + 1) (by omega)
  have h1 : 1073741824 ^ (la - lb + 1) * nv (rest.drop (la - lb + 1)) ≤ A * f := by omega
  have h2 : A * f < 1073741824 ^ la * f := Nat.mul_lt_mul_of_pos_right hA hf
  have h3 : (1073741824 : Nat) ^ la = 1073741824 ^ (la - lb + 1) * 1073741824 ^ (lb - 1) := by rw [← Nat.pow_add]; congr 1; omega
  have h4 : 1073741824 ^ (la - lb + 1) * (1073741824 ^ (lb - 1) * f) ≤ 1073741824 ^ (la - lb + 1) * (Bv * f) := Nat.mul_le_mul_left _ (Nat.mul_le_mul_right _ hB)
  rw [h3, Nat.mul_assoc] at h2
  exact Nat.lt_of_mul_lt_mul_left (Nat.lt_of_lt_of_le (Nat.lt_of_le_of_lt h1 h2) h4)
theorem div_end {A Bv f r q : Nat} (h : A * f = r + q * (Bv * f)) (hr : r < Bv * f) (hf : 0 < f) : q = A / Bv ∧ r / f = A % Bv ∧ r = A % Bv * f := by
  have hB : 0 < Bv := by
    apply Nat.pos_of_ne_zero; intro hc; subst hc; simp at hr
  have h1 : q * Bv ≤ A := by
    have : q * Bv * f ≤ A * f := by rw [h, Nat.mul_assoc]; omega
    exact Nat.le_of_mul_le_mul_right this hf
  have h2 : r = (A - q * Bv) * f := by rw [Nat.sub_mul, h, Nat.mul_assoc]; omega
  have h3 : A - q * Bv < Bv := by rw [h2] at hr; exact Nat.lt_of_mul_lt_mul_right hr
  have h4 : A = Bv * q + (A - q * Bv) := by rw [Nat.mul_comm Bv q]; omega
  have h5 : A / Bv = q := by rw [h4, Nat.mul_add_div hB, Nat.div_eq_of_lt h3]; omega
  have h6 : A % Bv = A - q * Bv := by
    have := Nat.mod_add_div A Bv
    rw [h5, Nat.mul_comm Bv q] at this; omega
  exact ⟨h5.symm, by rw [h2, Nat.mul_div_cancel _ hf, h6], by rw [h6]; exact h2⟩
/-- the digit: guesses come down to the quotient -/
theorem digit_sign {R D g : Nat} {n s p : Int} (h : n + s * p = (R : Int) - g * D) (n0 : 0 ≤ n) (n1 : n < p) (hR : (R : Int) < p) (hg : (g : Int) * D ≤ p) (hD : 0 < D) : (s < 0 ↔ R / D < g) ∧ -1 ≤ s ∧ s ≤ 0 ∧ (s = 0 → R / D = g → n = (R % D : Nat)) := by
  have hg0 : (0 : Int) ≤ (g : Int) * D := by
    rw [← Int.natCast_mul]; omega
  have hd := Nat.mod_add_div R D
  have hm := Nat.mod_lt R hD
  have key : ((R : Int) - g * D < 0) ↔ R / D < g := by
    rw [Nat.div_lt_iff_lt_mul hD, show (g : Int) * D = ((g * D : Nat) : Int) by simp]; omega
  by_cases hv : (R : Int) - g * D < 0
  · have := carry_neg _ h n0 n1 (by omega) hv
    exact ⟨⟨fun _ => key.1 hv, fun _ => by omega⟩, by omega, by omega, fun h => by omega⟩
  · have := carry_zero _ h n0 n1 (by omega) (by omega)
    refine ⟨⟨fun _ => by omega, fun h => absurd (key.2 h) hv⟩, by omega, by omega, fun _ hq => ?_⟩
    subst this
    rw [← hq] at h
    have : ((R / D : Nat) : Int) * D = ((D * (R / D) : Nat) : Int) := by rw [Int.natCast_mul, Int.mul_comm]
    rw [this] at h
    omega
theorem shrink_step {L Q : List Nat} {i d r : Nat} (hi : i < L.length) (hQ : i < Q.length) (h : nv (L.drop (i + 1)) = nv (Q.drop (i + 1)) * d + r) (hr : r < d) (lL : Lim L) (hx : Q.getD i 0 = L.getD i 0) :
    nv (L.drop i) = nv ((Q.set i ((r * 1073741824 + L.getD i 0) / d)).drop i) * d + (r * 1073741824 + L.getD i 0) % d ∧ (r * 1073741824 + L.getD i 0) % d < d ∧ (r * 1073741824 + L.getD i 0) / d < 1073741824 := by
  have hx := lim_getD lL i
  have hd := Nat.mod_add_div (r * 1073741824 + L.getD i 0) d
  refine ⟨?_, Nat.mod_lt _ (by omega), ?_⟩
  · rw [nv_drop hi, drop_set hQ, nv, h]
    generalize (r * 1073741824 + L.getD i 0) % d = m at *
    generalize (r * 1073741824 + L.getD i 0) / d = s at *
    generalize L.getD i 0 = x at *
    generalize nv (Q.drop (i + 1)) = u
    grind
  · rw [Nat.div_lt_iff_lt_mul (by omega)]
    have : (r + 1) * 1073741824 ≤ d * 1073741824 := Nat.mul_le_mul_right _ hr
    omega
theorem shr_lt {r q d : Nat} (hr : r < d) (hq : q < 1073741824) : (r * 1073741824 + q) / d < 1073741824 ∧ (r * 1073741824 + q) % d < d := by
  refine ⟨?_, Nat.mod_lt _ (by omega)⟩
  rw [Nat.div_lt_iff_lt_mul (by omega)]
  have : (r + 1) * 1073741824 ≤ d * 1073741824 := Nat.mul_le_mul_right _ hr
  omega
theorem getD_take {l m : List Nat} {i k : Nat} (h : l.take k = m.take k) (hi : i < k) : l.getD i 0 = m.getD i 0 := by
  have := congrArg (fun x => x.getD i 0) h
  simpa [List.getD_eq_getElem?_getD, List.getElem?_take_of_lt hi] using this
theorem lim_set {l : List Nat} (h : Lim l) (i : Nat) {x : Nat} (hx : x < 1073741824) : Lim (l.set i x) := fun y hy => by
  rcases List.mem_or_eq_of_mem_set hy with hy | rfl
  · exact h y hy
  · exact hx
theorem scale_step {c f x : Nat} {nn c0 v p : Nat} (h : nn + c * p = c0 + f * v) : (nn + p * ((c + f * x) % 1073741824)) + (c + f * x) / 1073741824 * (1073741824 * p) = c0 + f * (v + p * x) := by
  have hd := Nat.mod_add_div (c + f * x) 1073741824
  generalize (c + f * x) % 1073741824 = m at *
  generalize (c + f * x) / 1073741824 = s at *
  grind
theorem scale_bound {c f x : Nat} (hc : c < 1073741824) (hf : f < 1073741824) (hx : x < 1073741824) : f * x ≤ 1152921502459363329 ∧ (c + f * x) / 1073741824 < 1073741824 := by
  have : f * x ≤ 1073741823 * x := Nat.mul_le_mul_right _ (by omega)
  omega
end Go.Proofs.YtikkobmccagdlaaGreatDoor
