/- The shortest list of prefixes of a range: which it is, how long it is, what it contains. -/
import Derived.WalkKit
namespace Go.Proofs.YtoaboflepfmkpaaDoor
open Go

/-- one step more: the next size divides the place and fits -/
def fits (s e f : Nat) : Prop := 2 ^ f ∣ s ∧ s + 2 ^ f ≤ e
instance (s e f : Nat) : Decidable (fits s e f) := by unfold fits; infer_instance
def upF (s e : Nat) : Nat → Nat → Nat
  | 0, f => f
  | n + 1, f => if fits s e (f + 1) then upF s e n (f + 1) else f
def best (s e : Nat) : Nat := upF s e 32 0
theorem upF_spec (s e : Nat) : ∀ n f, fits s e f → fits s e (upF s e n f) ∧ f ≤ upF s e n f ∧ upF s e n f ≤ f + n ∧ (upF s e n f = f + n ∨ ¬ fits s e (upF s e n f + 1))
  | 0, f, h => ⟨h, Nat.le_refl _, Nat.le_refl _, .inl rfl⟩
  | n + 1, f, h => by
    unfold upF
    split
    · rename_i h1
      have ⟨a, b, c, d⟩ := upF_spec s e n (f + 1) h1
      exact ⟨a, by omega, by omega, d.imp (fun x => by omega) id⟩
    · rename_i h1
      exact ⟨h, Nat.le_refl _, by omega, .inr h1⟩
theorem best_spec {s e : Nat} (h : s < e) (he : e ≤ 2 ^ 32) : fits s e (best s e) ∧ best s e ≤ 32 ∧ ¬ fits s e (best s e + 1) := by
  have ⟨a, _, c, d⟩ := upF_spec s e 32 0 ⟨by simp, by simp; omega⟩
  refine ⟨a, by unfold best; omega, ?_⟩
  rcases d with d | d
  · intro hc
    have h2 := hc.2
    change s + 2 ^ (upF s e 32 0 + 1) ≤ e at h2
    rw [d] at h2
    omega
  · exact d
theorem fits_mono {s e f g : Nat} (h : fits s e g) (hfg : f ≤ g) : fits s e f :=
  ⟨Nat.dvd_trans (Nat.pow_dvd_pow 2 hfg) h.1, Nat.le_trans (Nat.add_le_add_left (Nat.pow_le_pow_right (by omega) hfg) s) h.2⟩
theorem best_unique {s e f : Nat} (h : s < e) (he : e ≤ 2 ^ 32) (h1 : fits s e f) (h2 : ¬ fits s e (f + 1)) : f = best s e := by
  have ⟨a, _, b⟩ := best_spec h he
  rcases Nat.lt_trichotomy f (best s e) with hlt | rfl | hgt
  · exact absurd (fits_mono a hlt) h2
  · rfl
  · exact absurd (fits_mono h1 hgt) b
def cov (s e : Nat) : List (Nat × Nat) := if h : s < e then (s, best s e) :: cov (s + 2 ^ best s e) e else []
termination_by e - s
decreasing_by have := Nat.pow_pos (n := best s e) (show 0 < 2 by omega); omega
theorem cov_step {s e : Nat} (h : s < e) : cov s e = (s, best s e) :: cov (s + 2 ^ best s e) e := by rw [cov]; simp [h]
theorem cov_done {s e : Nat} (h : ¬ s < e) : cov s e = [] := by rw [cov]; simp [h]
theorem cov_ind {e : Nat} {P : Nat → Prop} (hs : ∀ s, s < e → P (s + 2 ^ best s e) → P s) (hd : ∀ s, ¬ s < e → P s) : ∀ n s, e - s ≤ n → P s
  | 0, s, h => hd s (by omega)
  | n + 1, s, h => by
    by_cases hlt : s < e
    · have := Nat.pow_pos (n := best s e) (show 0 < 2 by omega)
      exact hs s hlt (cov_ind hs hd n _ (by omega))
    · exact hd s hlt
theorem len_down {e : Nat} (he : e ≤ 2 ^ 32) : ∀ n k s, k ≤ n → 2 ^ k ∣ s → e < s + 2 ^ k → (cov s e).length ≤ k
  | 0, k, s, hk, hd, hlt => by
    obtain rfl : k = 0 := by omega
    rw [cov_done (by simp at hlt; omega)]; simp
  | n + 1, k, s, hk, hd, hlt => by
    by_cases h : s < e
    · have ⟨⟨a1, a2⟩, _, b⟩ := best_spec h he
      rw [cov_step h]
      generalize best s e = f at *
      have hfk : f < k := by
        apply Decidable.byContradiction; intro hc
        have := Nat.pow_le_pow_right (show 0 < 2 by omega) (show k ≤ f by omega)
        omega
      have hlim : e < s + 2 ^ (f + 1) := by
        apply Decidable.byContradiction; intro hc
        exact b ⟨Nat.dvd_trans (Nat.pow_dvd_pow 2 hfk) hd, by omega⟩
      have ih := len_down he n f (s + 2 ^ f) (by omega) (Nat.dvd_add a1 (Nat.dvd_refl _)) (by rw [Nat.pow_succ] at hlim; omega)
      simp only [List.length_cons]; omega
    · rw [cov_done h]; simp
theorem len_up {e : Nat} (he : e ≤ 2 ^ 32) : ∀ n k s, e - s ≤ n → 0 < s → 2 ^ k ∣ s → k ≤ 31 → (cov s e).length ≤ 62 - k
  | 0, k, s, hn, h0, hd, hk => by rw [cov_done (by omega)]; simp
  | n + 1, k, s, hn, h0, hd, hk => by
    by_cases h : s < e
    · have ⟨⟨a1, a2⟩, _, b⟩ := best_spec h he
      rw [cov_step h]
      generalize best s e = f at *
      have hp := Nat.pow_pos (n := f) (show 0 < 2 by omega)
      have hsmall : ∀ g, 2 ^ g ∣ s → g ≤ 31 := by
        intro g hg
        apply Decidable.byContradiction; intro hc
        have h1 := Nat.le_of_dvd h0 hg
        have h2 := Nat.pow_le_pow_right (show 0 < 2 by omega) (show 32 ≤ g by omega)
        omega
      simp only [List.length_cons]
      by_cases hal : 2 ^ (f + 1) ∣ s
      · have hf := hsmall _ hal
        have hlim : e < s + 2 ^ (f + 1) := by
          apply Decidable.byContradiction; intro hc
          exact b ⟨hal, by omega⟩
        have := len_down he f f (s + 2 ^ f) (Nat.le_refl _) (Nat.dvd_add a1 (Nat.dvd_refl _)) (by rw [Nat.pow_succ] at hlim; omega)
        omega
      · have hf := hsmall _ a1
        have hkf : k ≤ f := by
          apply Decidable.byContradiction; intro hc
          exact hal (Nat.dvd_trans (Nat.pow_dvd_pow 2 (by omega)) hd)
        have hd2 : 2 ^ (f + 1) ∣ s + 2 ^ f := by
          obtain ⟨q, rfl⟩ := a1
          rw [Nat.pow_succ] at hal ⊢
          have hq : q % 2 = 1 := by
            apply Decidable.byContradiction; intro hc
            exact hal (Nat.mul_dvd_mul (Nat.dvd_refl _) (Nat.dvd_of_mod_eq_zero (by omega)))
          rw [show 2 ^ f * q + 2 ^ f = 2 ^ f * (q + 1) by rw [Nat.mul_add, Nat.mul_one]]
          exact Nat.mul_dvd_mul (Nat.dvd_refl _) (Nat.dvd_of_mod_eq_zero (by omega))
        by_cases hf31 : f = 31
        · subst hf31
          obtain ⟨q, hq⟩ := hd2
          rw [cov_done (by rw [Nat.pow_succ] at hq; omega)]; simp; omega
        · have := len_up he n (f + 1) (s + 2 ^ f) (by omega) (by omega) hd2 (by omega)
          omega
    · rw [cov_done h]; simp
theorem len_cov {s e : Nat} (he : e ≤ 2 ^ 32) : (cov s e).length ≤ 62 := by
  by_cases h0 : 0 < s
  · exact len_up he _ 0 s (Nat.le_refl _) h0 (by simp) (by omega)
  · obtain rfl : s = 0 := by omega
    by_cases h : 0 < e
    · have ⟨⟨a1, a2⟩, hf, b⟩ := best_spec h he
      rw [cov_step h]
      generalize best 0 e = f at *
      have hlim : e < 0 + 2 ^ (f + 1) := by
        apply Decidable.byContradiction; intro hc
        exact b ⟨Nat.dvd_zero _, by omega⟩
      have := len_down he f f (0 + 2 ^ f) (Nat.le_refl _) (Nat.dvd_add a1 (Nat.dvd_refl _)) (by rw [Nat.pow_succ] at hlim; omega)
      simp only [List.length_cons]; omega
    · rw [cov_done h]; simp
/-- whether an address lies in an element -/
def inE (a : Nat) (x : Nat × Nat) : Bool := decide (x.1 ≤ a) && decide (a < x.1 + 2 ^ x.2)
theorem cnt_cov {e : Nat} (he : e ≤ 2 ^ 32) (a s : Nat) : (cov s e).countP (inE a) = if s ≤ a ∧ a < e then 1 else 0 := by
  refine cov_ind (e := e) (P := fun s => (cov s e).countP (inE a) = if s ≤ a ∧ a < e then 1 else 0) ?_ ?_ _ s (Nat.le_refl _)
  · intro s h ih
    have ⟨⟨_, a2⟩, _, _⟩ := best_spec h he
    rw [cov_step h, List.countP_cons, ih]
    generalize best s e = f at *
    have hp := Nat.pow_pos (n := f) (show 0 < 2 by omega)
    simp only [inE, Bool.and_eq_true, decide_eq_true_eq]
    split <;> split <;> split <;> omega
  · intro s h
    rw [cov_done h]; simp; omega
theorem mem_cov {e : Nat} (he : e ≤ 2 ^ 32) (s : Nat) : ∀ x ∈ cov s e, x.2 ≤ 32 ∧ 2 ^ x.2 ∣ x.1 ∧ x.1 + 2 ^ x.2 ≤ e := by
  refine cov_ind (e := e) (P := fun s => ∀ x ∈ cov s e, x.2 ≤ 32 ∧ 2 ^ x.2 ∣ x.1 ∧ x.1 + 2 ^ x.2 ≤ e) ?_ ?_ _ s (Nat.le_refl _)
  · intro s h ih x hx
    have ⟨⟨a1, a2⟩, a3, _⟩ := best_spec h he
    rw [cov_step h] at hx
    rcases List.mem_cons.1 hx with rfl | hx
    · exact ⟨a3, a1, a2⟩
    · exact ih x hx
  · intro s h x hx
    rw [cov_done h] at hx; cases hx
theorem adj_cov {e : Nat} (he : e ≤ 2 ^ 32) (s : Nat) : ∀ (i : Nat) (x y : Nat × Nat), (cov s e)[i]? = some x → (cov s e)[i + 1]? = some y → x.2 = y.2 → x.1 / 2 ^ (x.2 + 1) ≠ y.1 / 2 ^ (x.2 + 1) := by
  refine cov_ind (e := e) (P := fun s => ∀ (i : Nat) (x y : Nat × Nat), (cov s e)[i]? = some x → (cov s e)[i + 1]? = some y → x.2 = y.2 → x.1 / 2 ^ (x.2 + 1) ≠ y.1 / 2 ^ (x.2 + 1)) ?_ ?_ _ s (Nat.le_refl _)
  · intro s h ih i x y hx hy hxy
    have ⟨⟨a1, a2⟩, a3, b⟩ := best_spec h he
    rw [cov_step h] at hx hy
    cases i with
    | succ i => exact ih i x y (by simpa using hx) (by simpa using hy) hxy
    | zero =>
      simp only [List.getElem?_cons_zero, Option.some.injEq] at hx
      subst hx
      simp only [Nat.zero_add, List.getElem?_cons_succ] at hy hxy ⊢
      generalize best s e = f at *
      by_cases h2 : s + 2 ^ f < e
      · have ⟨⟨c1, c2⟩, _, _⟩ := best_spec h2 he
        rw [cov_step h2] at hy
        simp only [List.getElem?_cons_zero, Option.some.injEq] at hy
        subst hy
        simp only at hxy ⊢
        rw [← hxy] at c2
        have hal : ¬ 2 ^ (f + 1) ∣ s := fun hc => b ⟨hc, by rw [Nat.pow_succ]; omega⟩
        obtain ⟨q, rfl⟩ := a1
        have hp := Nat.pow_pos (n := f) (show 0 < 2 by omega)
        rw [Nat.pow_succ] at hal ⊢
        have hq : q % 2 = 1 := by
          apply Decidable.byContradiction; intro hc
          exact hal (Nat.mul_dvd_mul (Nat.dvd_refl _) (Nat.dvd_of_mod_eq_zero (by omega)))
        rw [show 2 ^ f * q + 2 ^ f = 2 ^ f * (q + 1) by rw [Nat.mul_add, Nat.mul_one], Nat.mul_div_mul_left _ _ hp, Nat.mul_div_mul_left _ _ hp]
        omega
      · rw [cov_done h2] at hy; simp at hy
  · intro s h i x y hx
    rw [cov_done h] at hx; simp at hx
end Go.Proofs.YtoaboflepfmkpaaDoor
