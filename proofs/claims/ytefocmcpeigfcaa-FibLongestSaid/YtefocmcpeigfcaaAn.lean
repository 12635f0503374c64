/- Tables as plain lists: sorted by prefixes, put, removed, looked up. -/
import Derived.Test.YtefocmcpeigfcaaAe
import Derived.Test.YtefocmcpeigfcaaAg
import Derived.Test.YtefocmcpeigfcaaAm
namespace Go.Proofs.Ytefocmcpeigfcaa
open Go
set_option maxRecDepth 100000
set_option linter.unusedVariables false
theorem cmpp_lt {a n b m : Int} : cmpp a n b m < 0 ↔ a < b ∨ (a = b ∧ n < m) := by
  unfold cmpp ord
  repeat' split
  all_goals omega
theorem cmpp_zero {a n b m : Int} : cmpp a n b m = 0 ↔ a = b ∧ n = m := by
  unfold cmpp ord
  repeat' split
  all_goals omega
theorem cmr_lt {x y : Rt} : cmr x y < 0 ↔ x.a < y.a ∨ (x.a = y.a ∧ x.n < y.n) := cmpp_lt
theorem cmr_zero {x y : Rt} : cmr x y = 0 ↔ x.a = y.a ∧ x.n = y.n := cmpp_zero
theorem cmr_trans {x y z : Rt} (h : cmr x y < 0) (k : cmr y z < 0) : cmr x z < 0 := by
  rw [cmr_lt] at *; omega
theorem cmr_gt {x y : Rt} : 0 < cmr x y ↔ cmr y x < 0 := by
  rw [cmr_lt]
  have := cmr_three x y
  have h1 := @cmr_lt x y
  have h2 := @cmr_zero x y
  omega
/-- ascending by prefixes -/
def Asc (l : List Rt) : Prop := l.Pairwise fun x y => cmr x y < 0
theorem asc_cons {x : Rt} {l : List Rt} : Asc (x :: l) ↔ (∀ y ∈ l, cmr x y < 0) ∧ Asc l := List.pairwise_cons
/-- the routes before and behind a route's place -/
def ltL (r : Rt) (l : List Rt) : List Rt := l.filter fun x => decide (cmr x r < 0)
def gtL (r : Rt) (l : List Rt) : List Rt := l.filter fun x => decide (0 < cmr x r)
/-- the table with a route put -/
def putP (r : Rt) (l : List Rt) : List Rt := ltL r l ++ r :: gtL r l
theorem mem_putP {r y : Rt} {l : List Rt} : y ∈ putP r l ↔ y = r ∨ (y ∈ l ∧ cmr y r ≠ 0) := by
  unfold putP ltL gtL
  simp only [List.mem_append, List.mem_cons, List.mem_filter, decide_eq_true_eq]
  have := cmr_three y r
  constructor
  · rintro (⟨h1, h2⟩ | h | ⟨h1, h2⟩)
    · exact .inr ⟨h1, by omega⟩
    · exact .inl h
    · exact .inr ⟨h1, by omega⟩
  · rintro (h | ⟨h1, h2⟩)
    · exact .inr (.inl h)
    · by_cases h3 : cmr y r < 0
      · exact .inl ⟨h1, h3⟩
      · exact .inr (.inr ⟨h1, by omega⟩)
theorem asc_putP {r : Rt} {l : List Rt} (h : Asc l) : Asc (putP r l) := by
  unfold putP Asc
  rw [List.pairwise_append]
  refine ⟨List.Pairwise.filter _ h, ?_, ?_⟩
  · rw [List.pairwise_cons]
    refine ⟨fun y hy => ?_, List.Pairwise.filter _ h⟩
    have := (List.mem_filter.1 hy).2
    rw [decide_eq_true_eq] at this
    exact cmr_gt.1 this
  · intro x hx y hy
    have h1 := (List.mem_filter.1 hx).2
    rw [decide_eq_true_eq] at h1
    rcases List.mem_cons.1 hy with rfl | hy
    · exact h1
    · have h2 := (List.mem_filter.1 hy).2
      rw [decide_eq_true_eq] at h2
      exact cmr_trans h1 (cmr_gt.1 h2)
theorem asc_ext : ∀ {l m : List Rt}, Asc l → Asc m → (∀ y, y ∈ l ↔ y ∈ m) → l = m
  | [], [], _, _, _ => rfl
  | [], y :: m, _, _, h => by have := (h y).2 (by simp); simp at this
  | x :: l, [], _, _, h => by have := (h x).1 (by simp); simp at this
  | x :: l, y :: m, hl, hm, h => by
    obtain ⟨h1, h2⟩ := asc_cons.1 hl
    obtain ⟨k1, k2⟩ := asc_cons.1 hm
    have e : x = y := by
      rcases List.mem_cons.1 ((h x).1 (by simp)) with e | e
      · exact e
      · rcases List.mem_cons.1 ((h y).2 (by simp)) with e' | e'
        · exact e'.symm
        · have a1 := k1 x e
          have a2 := h1 y e'
          have := cmr_gt.2 a1
          omega
    subst e
    rw [asc_ext h2 k2 fun z => ?_]
    have hz := h z
    constructor
    · intro hzl
      rcases List.mem_cons.1 (hz.1 (List.mem_cons_of_mem _ hzl)) with e | e
      · subst e
        have := h1 z hzl
        have hz0 : cmr z z = 0 := cmr_zero.2 ⟨rfl, rfl⟩
        omega
      · exact e
    · intro hzm
      rcases List.mem_cons.1 (hz.2 (List.mem_cons_of_mem _ hzm)) with e | e
      · subst e
        have := k1 z hzm
        have hz0 : cmr z z = 0 := cmr_zero.2 ⟨rfl, rfl⟩
        omega
      · exact e
/-- equal prefixes in one table are one route -/
theorem asc_one {l : List Rt} (h : Asc l) {x y : Rt} (hx : x ∈ l) (hy : y ∈ l) (e : cmr x y = 0) : x = y := by
  induction l with
  | nil => cases hx
  | cons a t ih =>
    obtain ⟨h1, h2⟩ := asc_cons.1 h
    rcases List.mem_cons.1 hx with e1 | hxt
    · rcases List.mem_cons.1 hy with e2 | hyt
      · rw [e1, e2]
      · have := h1 y hyt; rw [e1] at e; omega
    · rcases List.mem_cons.1 hy with e2 | hyt
      · have := cmr_gt.2 (h1 x hxt); rw [e2] at e; omega
      · exact ih h2 hxt hyt
theorem all_gt {r x : Rt} {t : List Rt} (h : 0 ≤ cmr x r) (h1 : ∀ y ∈ t, cmr x y < 0) : ∀ y ∈ t, 0 < cmr y r := by
  intro y hy
  rw [cmr_gt]
  have := h1 y hy
  by_cases e : cmr x r = 0
  · rw [cmr_zero] at e
    rw [cmr_lt] at *
    omega
  · exact cmr_trans (cmr_gt.1 (by omega)) this
theorem ltL_none {r : Rt} {t : List Rt} (h : ∀ y ∈ t, 0 < cmr y r) : ltL r t = [] := by
  unfold ltL
  rw [List.filter_eq_nil_iff]
  intro y hy
  have := h y hy
  simp; omega
theorem gtL_all {r : Rt} {t : List Rt} (h : ∀ y ∈ t, 0 < cmr y r) : gtL r t = t := by
  unfold gtL
  rw [List.filter_eq_self]
  intro y hy
  have := h y hy
  simp; omega
/-- the number of routes before a prefix -/
def cutN : List Rt → Int → Int → Nat
  | [], _, _ => 0
  | r :: t, a, n => if cmpp r.a r.n a n < 0 then cutN t a n + 1 else 0
theorem cut_ok : ∀ {l : List Rt} (r : Rt), Asc l → Cut l r.a r.n (cutN l r.a r.n)
  | [], r, _ => ⟨by simp [cutN], fun j x h => by simp at h⟩
  | x :: t, r, h => by
    obtain ⟨h1, h2⟩ := asc_cons.1 h
    obtain ⟨k1, k2⟩ := cut_ok r h2
    rw [cutN]
    by_cases hc : cmpp x.a x.n r.a r.n < 0
    · rw [if_pos hc]
      refine ⟨by simpa using k1, fun j y hj => ?_⟩
      cases j with
      | zero =>
        simp at hj; subst hj
        exact ⟨fun _ => hc, fun _ => by omega⟩
      | succ j =>
        have := k2 j y (by simpa using hj)
        constructor
        · intro h; exact this.1 (by omega)
        · intro h; have := this.2 h; omega
    · rw [if_neg hc]
      refine ⟨by simp, fun j y hj => ⟨fun h => by omega, fun hlt => ?_⟩⟩
      have hg := all_gt (r := r) (x := x) (t := t) (by show 0 ≤ cmpp _ _ _ _; omega) h1
      cases j with
      | zero =>
        simp at hj; subst hj
        exact absurd hlt hc
      | succ j =>
        have h3 := hg y (List.mem_of_getElem? (by simpa using hj))
        have : cmr y r < 0 := hlt
        omega
theorem cut_parts : ∀ {l : List Rt} (r : Rt), Asc l → l.take (cutN l r.a r.n) = ltL r l ∧ l.drop (endOf l r.a r.n (cutN l r.a r.n)) = gtL r l
  | [], r, _ => ⟨by simp [ltL], by simp [gtL]⟩
  | x :: t, r, h => by
    obtain ⟨h1, h2⟩ := asc_cons.1 h
    obtain ⟨k1, k2⟩ := cut_parts r h2
    rw [cutN]
    by_cases hc : cmpp x.a x.n r.a r.n < 0
    · rw [if_pos hc]
      have hcx : cmr x r < 0 := hc
      have he : endOf (x :: t) r.a r.n (cutN t r.a r.n + 1) = endOf t r.a r.n (cutN t r.a r.n) + 1 := by
        unfold endOf isAt
        rw [List.getElem?_cons_succ]; omega
      refine ⟨?_, ?_⟩
      · rw [List.take_succ_cons, k1]
        unfold ltL
        rw [List.filter_cons, if_pos (by simpa using hcx)]
      · rw [he, List.drop_succ_cons, k2]
        unfold gtL
        rw [List.filter_cons, if_neg (by simp; omega)]
    · rw [if_neg hc]
      have hg := all_gt (r := r) (x := x) (t := t) (by show 0 ≤ cmpp _ _ _ _; omega) h1
      have hcx : ¬ cmr x r < 0 := hc
      refine ⟨?_, ?_⟩
      · have : ltL r (x :: t) = ltL r t := by
          unfold ltL
          rw [List.filter_cons, if_neg (by simpa using hcx)]
        rw [this, ltL_none hg, List.take_zero]
      · by_cases h0 : cmpp x.a x.n r.a r.n = 0
        · have he : endOf (x :: t) r.a r.n 0 = 1 := by unfold endOf isAt; simp [h0]
          have hc0 : cmr x r = 0 := h0
          rw [he]
          have : gtL r (x :: t) = gtL r t := by
            unfold gtL
            rw [List.filter_cons, if_neg (by simp; omega)]
          rw [this, gtL_all hg]; rfl
        · have he : endOf (x :: t) r.a r.n 0 = 0 := by unfold endOf isAt; simp [h0]
          have hc0 : ¬ cmr x r = 0 := h0
          rw [he, List.drop_zero]
          have : gtL r (x :: t) = x :: gtL r t := by
            unfold gtL
            rw [List.filter_cons, if_pos (by simp; omega)]
          rw [this, gtL_all hg]
theorem put_eq {l : List Rt} (r : Rt) (h : Asc l) : l.take (cutN l r.a r.n) ++ r :: l.drop (endOf l r.a r.n (cutN l r.a r.n)) = putP r l := by
  obtain ⟨h1, h2⟩ := cut_parts r h
  rw [h1, h2]; rfl
theorem asc_filter {l : List Rt} (h : Asc l) (f : Rt → Bool) : Asc (l.filter f) := List.Pairwise.filter _ h
theorem eqp_zero {x r : Rt} : eqp x r.a r.n = true ↔ cmr x r = 0 := by
  rw [cmr_zero]; unfold eqp; simp
theorem mem_rem {r y : Rt} {l : List Rt} : y ∈ remL r.a r.n l ↔ y ∈ l ∧ cmr y r ≠ 0 := by
  unfold remL
  rw [List.mem_filter, Bool.not_eq_true', Bool.eq_false_iff]
  exact and_congr_right fun _ => not_congr eqp_zero
theorem asc_rem {l : List Rt} (h : Asc l) (a n : Int) : Asc (remL a n l) := asc_filter h _
theorem rem_eq {l : List Rt} (r : Rt) (h : Asc l) : l.take (cutN l r.a r.n) ++ l.drop (endOf l r.a r.n (cutN l r.a r.n)) = remL r.a r.n l := by
  obtain ⟨h1, h2⟩ := cut_parts r h
  rw [h1, h2]
  have ha : Asc (ltL r l ++ gtL r l) := by
    have := asc_putP (r := r) h
    unfold putP Asc at this
    unfold Asc
    rw [List.pairwise_append] at this ⊢
    exact ⟨this.1, (List.pairwise_cons.1 this.2.1).2, fun x hx y hy => this.2.2 x hx y (List.mem_cons_of_mem _ hy)⟩
  refine asc_ext ha (asc_rem h _ _) fun y => ?_
  rw [mem_rem]
  unfold ltL gtL
  simp only [List.mem_append, List.mem_filter, decide_eq_true_eq]
  have := cmr_three y r
  constructor
  · rintro (⟨h1, h2⟩ | ⟨h1, h2⟩)
    · exact ⟨h1, by omega⟩
    · exact ⟨h1, by omega⟩
  · rintro ⟨h1, h2⟩
    by_cases h3 : cmr y r < 0
    · exact .inl ⟨h1, h3⟩
    · exact .inr ⟨h1, by omega⟩
/-- the document's Put puts at the same place -/
theorem putF_done (r : Rt) : ∀ (l acc : List Rt), (∀ y ∈ l, 0 < cmr y r) → l.foldl (putS r) (acc, true) = (acc ++ l, true)
  | [], acc, _ => by simp
  | x :: t, acc, h => by
    rw [List.foldl_cons]
    have hx := h x (by simp)
    have e : putS r (acc, true) x = (acc ++ [x], true) := by
      unfold putS
      have : ¬ cmr x r = 0 := by omega
      simp [this]
    rw [e, putF_done r t _ fun y hy => h y (by simp [hy])]; simp
theorem putF_rest (r : Rt) : ∀ (l acc : List Rt), Asc l → (l.foldl (putS r) (acc, false)).1 ++ (if (l.foldl (putS r) (acc, false)).2 = true then [] else [r]) = acc ++ putP r l
  | [], acc, _ => by simp [putP, ltL, gtL]
  | x :: t, acc, h => by
    obtain ⟨h1, h2⟩ := asc_cons.1 h
    rw [List.foldl_cons]
    by_cases hc : cmr x r < 0
    · have e : putS r (acc, false) x = (acc ++ [x], false) := by
        unfold putS
        have h3 : ¬ cmr x r = 0 := by omega
        have h4 : ¬ 0 ≤ cmr x r := by omega
        simp [h3, h4]
      rw [e, putF_rest r t _ h2]
      have h5 : ltL r (x :: t) = x :: ltL r t := by
        unfold ltL
        rw [List.filter_cons, if_pos (by simpa using hc)]
      have h6 : gtL r (x :: t) = gtL r t := by
        unfold gtL
        rw [List.filter_cons, if_neg (by simp; omega)]
      unfold putP
      rw [h5, h6]; simp
    · have hg := all_gt (r := r) (x := x) (t := t) (by omega) h1
      have h5 : ltL r (x :: t) = [] := by
        unfold ltL
        rw [List.filter_cons, if_neg (by simpa using hc)]
        exact ltL_none hg
      by_cases h0 : cmr x r = 0
      · have e : putS r (acc, false) x = (acc ++ [r], true) := by
          unfold putS
          simp [h0]
        have h6 : gtL r (x :: t) = t := by
          have : gtL r (x :: t) = gtL r t := by
            unfold gtL
            rw [List.filter_cons, if_neg (by simp; omega)]
          rw [this, gtL_all hg]
        rw [e, putF_done r t _ hg]
        unfold putP
        rw [h5, h6]; simp
      · have e : putS r (acc, false) x = (acc ++ [r, x], true) := by
          unfold putS
          have h4 : 0 ≤ cmr x r := by omega
          simp [h0, h4]
        have h6 : gtL r (x :: t) = x :: t := by
          have : gtL r (x :: t) = x :: gtL r t := by
            unfold gtL
            rw [List.filter_cons, if_pos (by simp; omega)]
          rw [this, gtL_all hg]
        rw [e, putF_done r t _ hg]
        unfold putP
        rw [h5, h6]; simp
theorem putL_eq {l : List Rt} (r : Rt) (h : Asc l) : putL r l = putP r l := by
  have := putF_rest r l [] h
  rw [List.nil_append] at this
  exact this
theorem has_iff {r : Rt} {l : List Rt} : hasL r.a r.n l = true ↔ ∃ y ∈ l, cmr y r = 0 := by
  unfold hasL
  rw [decide_eq_true_eq]
  constructor
  · intro h
    apply Decidable.byContradiction
    intro hc
    have : remL r.a r.n l = l := by
      unfold remL
      rw [List.filter_eq_self]
      intro y hy
      rw [Bool.not_eq_true', Bool.eq_false_iff]
      intro he
      exact hc ⟨y, hy, eqp_zero.1 he⟩
    rw [this] at h
    omega
  · rintro ⟨y, hy, e⟩
    unfold remL
    rw [List.length_filter_lt_length_iff_exists]
    exact ⟨y, hy, by rw [eqp_zero.2 e]; simp⟩
theorem sameR_refl (x : Rt) : sameR x x = true := by unfold sameR; simp
theorem sameL_refl : ∀ l : List Rt, sameL l l = true
  | [] => rfl
  | x :: l => by rw [sameL, sameR_refl, sameL_refl l]; rfl
end Go.Proofs.Ytefocmcpeigfcaa
