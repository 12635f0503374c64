/- The longest prefix in a sorted table; all functions on sorted tables. -/
import Derived.Test.YtefocmcpeigfcaaAn
namespace Go.Proofs.Ytefocmcpeigfcaa
open Go Go.RowKit Go.Sort
set_option maxRecDepth 100000
set_option linter.unusedVariables false
/-- all prefixes are valid -/
def Vl (l : List Rt) : Prop := ∀ r ∈ l, vld r.a r.n = true
/-- o is the route with the longest prefix that contains x -/
def Best (l : List Rt) (x : Int) : Option Rt → Prop
  | none => ∀ r ∈ l, ctn r.a r.n x = false
  | some r => r ∈ l ∧ ctn r.a r.n x = true ∧ ∀ y ∈ l, ctn y.a y.n x = true → y.n ≤ r.n
theorem base_eq {a n x : Int} (h : ctn a n x = true) : a = x - x % sz n := by
  have hv := (ctn_iff.1 h).1
  have := ctn_mask (x := x) hv
  rw [h] at this
  exact (eq_of_beq this).symm
theorem mod_le {n m : Int} (h : n ≤ m) (x : Int) : x % sz m ≤ x % sz n := by
  have hd : sz m ∣ sz n := by
    have h1 := sz_dvd h (sz n) (Int.emod_self)
    exact Int.dvd_of_emod_eq_zero h1
  have hp := sz_pos m
  have hq := sz_pos n
  rw [← Int.emod_emod_of_dvd x hd]
  have h0 : 0 ≤ x % sz n := Int.emod_nonneg _ (by omega)
  generalize x % sz n = z at *
  have h3 := Int.mul_ediv_add_emod z (sz m)
  have h4 : 0 ≤ z / sz m := Int.ediv_nonneg h0 (by omega)
  have h5 : 0 ≤ sz m * (z / sz m) := Int.mul_nonneg (by omega) h4
  omega
theorem nest {y r : Rt} {x : Int} (hy : ctn y.a y.n x = true) (hr : ctn r.a r.n x = true) : cmr y r < 0 ↔ y.n < r.n := by
  have h1 := base_eq hy
  have h2 := base_eq hr
  rw [cmr_lt]
  by_cases h : y.n ≤ r.n
  · have h3 := mod_le h x
    constructor
    · rintro (h4 | h4)
      · apply Decidable.byContradiction
        intro hc
        have e : y.n = r.n := by omega
        rw [e] at h1
        omega
      · exact h4.2
    · intro h4
      by_cases e : y.a = r.a
      · exact .inr ⟨e, h4⟩
      · exact .inl (by omega)
  · have h3 := mod_le (show r.n ≤ y.n by omega) x
    constructor
    · rintro (h4 | h4)
      · omega
      · omega
    · omega
theorem best_last : ∀ {l : List Rt} {x : Int}, Asc l → Best l x (lastC l x)
  | [], x, _ => fun r hr => by cases hr
  | a :: t, x, h => by
    obtain ⟨h1, h2⟩ := asc_cons.1 h
    have ih := best_last (x := x) h2
    rw [lastC]
    cases hl : lastC t x with
    | some y =>
      rw [hl] at ih
      obtain ⟨k1, k2, k3⟩ := ih
      refine ⟨by simp [k1], k2, fun z hz hc => ?_⟩
      rcases List.mem_cons.1 hz with rfl | hz
      · have := (nest hc k2).1 (h1 y k1); omega
      · exact k3 z hz hc
    | none =>
      rw [hl] at ih
      have ih' : ∀ r ∈ t, ctn r.a r.n x = false := ih
      dsimp only
      by_cases hc : ctn a.a a.n x = true
      · rw [if_pos hc]
        refine ⟨by simp, hc, fun z hz hz2 => ?_⟩
        rcases List.mem_cons.1 hz with rfl | hz
        · omega
        · rw [ih' z hz] at hz2; cases hz2
      · rw [if_neg hc]
        intro z hz
        rcases List.mem_cons.1 hz with rfl | hz
        · simpa using hc
        · exact ih' z hz
/-- where the routes that may contain x end -/
def endX (l : List Rt) (x : Int) : Nat := endOf l x 32 (cutN l x 32)
theorem best_look {l : List Rt} {x : Int} (h : Asc l) : Best l x (lastC (l.take (endX l x)) x) := by
  have hA : Asc (l.take (endX l x)) := List.Pairwise.sublist (List.take_sublist _ _) h
  have hb := best_last (x := x) hA
  have hd := (cut_parts (⟨x, 32, [], 0⟩ : Rt) h).2
  have hout : ∀ y ∈ l, ctn y.a y.n x = true → y ∈ l.take (endX l x) := by
    intro y hy hc
    rw [← List.take_append_drop (endX l x) l] at hy
    rcases List.mem_append.1 hy with h1 | h1
    · exact h1
    · exfalso
      have h1' : y ∈ gtL (⟨x, 32, [], 0⟩ : Rt) l := by rw [← hd]; exact h1
      have h2 := (List.mem_filter.1 h1').2
      rw [decide_eq_true_eq, cmr_gt, cmr_lt] at h2
      obtain ⟨hv, h3, h4⟩ := ctn_iff.1 hc
      have h5 := (vld_iff.1 hv).2.1
      dsimp only at h2
      omega
  cases ho : lastC (l.take (endX l x)) x with
  | none =>
    rw [ho] at hb
    have hb' : ∀ r ∈ l.take (endX l x), ctn r.a r.n x = false := hb
    intro r hr
    rw [Bool.eq_false_iff]
    intro hc
    have := hb' r (hout r hr hc)
    rw [hc] at this; cases this
  | some r =>
    rw [ho] at hb
    obtain ⟨k1, k2, k3⟩ := hb
    exact ⟨List.mem_of_mem_take k1, k2, fun y hy hc => k3 y (hout y hy hc) hc⟩
theorem best_one {l : List Rt} {x : Int} (h : Asc l) {o q : Option Rt} (ho : Best l x o) (hq : Best l x q) : o = q := by
  cases o with
  | none =>
    have ho' : ∀ r ∈ l, ctn r.a r.n x = false := ho
    cases q with
    | none => rfl
    | some r => have := ho' r hq.1; rw [hq.2.1] at this; cases this
  | some r =>
    cases q with
    | none =>
      have hq' : ∀ r ∈ l, ctn r.a r.n x = false := hq
      have := hq' r ho.1; rw [ho.2.1] at this; cases this
    | some s =>
      have h1 := ho.2.2 s hq.1 hq.2.1
      have h2 := hq.2.2 r ho.1 ho.2.1
      have e : r.n = s.n := by omega
      have h3 := base_eq ho.2.1
      have h4 := base_eq hq.2.1
      rw [e] at h3
      rw [asc_one h ho.1 hq.1 (cmr_zero.2 ⟨by rw [h3, ← h4], e⟩)]
theorem best_scan (l : List Rt) (x : Int) : ∀ k, k ≤ l.length → (bestK l x k < 0 ∧ ∀ (j : Nat) (y : Rt), j < k → l[j]? = some y → ctn y.a y.n x = false) ∨
    (∃ (b : Nat) (r : Rt), bestK l x k = (b : Int) ∧ l[b]? = some r ∧ ctn r.a r.n x = true ∧ ∀ (j : Nat) (y : Rt), j < k → l[j]? = some y → ctn y.a y.n x = true → y.n ≤ r.n)
  | 0, _ => .inl ⟨by simp [bestK], fun j y hj => by omega⟩
  | k + 1, hk => by
    obtain ⟨r, hr⟩ : ∃ r, l[k]? = some r := ⟨_, List.getElem?_eq_getElem (by omega)⟩
    rw [bestK, hr]
    dsimp only
    rcases best_scan l x k (by omega) with ⟨h1, h2⟩ | ⟨b, rb, h1, h2, h3, h4⟩
    · by_cases hc : ctn r.a r.n x = true
      · rw [if_pos ⟨hc, .inl h1⟩]
        refine .inr ⟨k, r, rfl, hr, hc, fun j y hj hy hyc => ?_⟩
        by_cases e : j = k
        · subst e; rw [hr] at hy; cases hy; omega
        · rw [h2 j y (by omega) hy] at hyc; cases hyc
      · rw [if_neg (fun h => hc h.1)]
        refine .inl ⟨h1, fun j y hj hy => ?_⟩
        by_cases e : j = k
        · subst e; rw [hr] at hy; cases hy; simpa using hc
        · exact h2 j y (by omega) hy
    · rw [h1, Int.toNat_natCast, h2]
      simp only [Option.map_some, Option.getD_some]
      by_cases hc : ctn r.a r.n x = true ∧ rb.n < r.n
      · rw [if_pos ⟨hc.1, .inr hc.2⟩]
        refine .inr ⟨k, r, rfl, hr, hc.1, fun j y hj hy hyc => ?_⟩
        by_cases e : j = k
        · subst e; rw [hr] at hy; cases hy; omega
        · have := h4 j y (by omega) hy hyc; omega
      · rw [if_neg (fun h => hc ⟨h.1, by rcases h.2 with h | h; omega; exact h⟩)]
        refine .inr ⟨b, rb, rfl, h2, h3, fun j y hj hy hyc => ?_⟩
        by_cases e : j = k
        · subst e; rw [hr] at hy; cases hy
          apply Decidable.byContradiction
          intro hn
          exact hc ⟨hyc, by omega⟩
        · exact h4 j y (by omega) hy hyc
theorem best_ref (l : List Rt) (x : Int) : Best l x (lookR l x) := by
  unfold lookR
  rcases best_scan l x l.length (Nat.le_refl _) with ⟨h1, h2⟩ | ⟨b, rb, h1, h2, h3, h4⟩
  · rw [if_pos h1]
    intro r hr
    obtain ⟨j, hj, e⟩ := List.mem_iff_getElem.1 hr
    exact h2 j r hj (by rw [List.getElem?_eq_getElem hj, e])
  · rw [if_neg (by omega), h1, Int.toNat_natCast, h2]
    refine ⟨List.mem_of_getElem? h2, h3, fun y hy hc => ?_⟩
    obtain ⟨j, hj, e⟩ := List.mem_iff_getElem.1 hy
    exact h4 j y hj (by rw [List.getElem?_eq_getElem hj, e]) hc
theorem look_eq {l : List Rt} (h : Asc l) (x : Int) : lastC (l.take (endX l x)) x = lookR l x := best_one h (best_look h) (best_ref l x)
/-- Put, Remove and Lookup on sorted tables -/
theorem sput {p q : Nat → Prop} (v : Value) (l : List Rt) (rv : Value) (r : Rt) (w : World) (h : Tb p w v l) (hv : Pln v) (hf : Few l) (ha : Asc l) (hrv : Rv q w rv r) (hrn : r.nx.length ≤ 1000) :
    Calls Try.prog 19 #[v, rv] w (TabPost (putP r l) w) := by
  have := put_any v l rv r _ w h hv hf hrv hrn (cut_ok r ha)
  rw [put_eq r ha] at this
  exact this
theorem srem {p : Nat → Prop} (v : Value) (l : List Rt) (a n : Int) (w : World) (h : Tb p w v l) (hv : Pln v) (hf : Few l) (ha : Asc l) :
    Calls Try.prog 21 #[v, .agg #[.int .u32 a, .int .i64 n]] w (TabPost (remL a n l) w) := by
  have := rem_any v l a n _ w h hv hf (cut_ok (⟨a, n, [], 0⟩ : Rt) ha)
  have e := rem_eq (⟨a, n, [], 0⟩ : Rt) ha
  dsimp only at this e
  rw [e] at this
  exact this
theorem slook {p : Nat → Prop} (v : Value) (l : List Rt) (x : Int) (w : World) (h : Tb p w v l) (hf : Few l) (ha : Asc l) (hx0 : 0 ≤ x) (hx1 : x < 4294967296) :
    Calls Try.prog 15 #[v, .int .u32 x] w (LkPost (lookR l x) w) := by
  rw [← look_eq ha x]
  obtain ⟨ad, cap, rfl, -, -⟩ := h.form
  exact look_core ad _ cap l x _ _ w h hf hx0 hx1 (cut_ok (⟨x, 32, [], 0⟩ : Rt) ha) rfl
theorem srput {p q : Nat → Prop} (v : Value) (l : List Rt) (rv : Value) (r : Rt) (w : World) (h : Tb p w v l) (hf : Few l) (ha : Asc l) (hrv : Rv q w rv r) (hrn : r.nx.length ≤ 1000) :
    Calls Try.prog 20 #[v, rv] w (TabPost (putP r l) w) := by
  rw [← putL_eq r ha]
  exact rput_any v l rv r w h hf hrv hrn
end Go.Proofs.Ytefocmcpeigfcaa
