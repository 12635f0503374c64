/- Parse of fractions as mathematics; a list of texts in memory. -/
import Derived.Test.YtjpjnbgfodlkcaaGreatDoorHlM
import Derived.Test.YtjpjnbgfodlkcaaGreatDoorHkM
import Derived.WalkKit
import Derived.WalkSpells
import Derived.WalkLawsBesides
import Derived.WalkSmall
import Derived.Handy
import Derived.BigQuiet
import Derived.Deep.QuietTactic
import Derived.Deep.RegionHeld3
import Derived.Deep.DeepFit
import Derived.Below
import Derived.Lib.Hide
import Derived.Lib.QuietBelow
namespace Go.Proofs.YtjpjnbgfodlkcaaGreatDoor
open Go Go.RowKit Go.Sort
set_option maxRecDepth 100000
set_option linter.unusedVariables false
theorem parts_len (c : UInt8) : ∀ (l : List UInt8), ∀ x ∈ parts c l, x.length ≤ l.length
  | [], x, hx => by simp [parts] at hx; subst hx; simp
  | y :: r, x, hx => by
    have ih := parts_len c r
    by_cases h : (y == c) = true
    · rw [parts_yes r h] at hx
      rcases List.mem_cons.1 hx with rfl | hx
      · simp
      · have := ih x hx; simp; omega
    · cases hp : parts c r with
      | nil => have := parts_ne' c r; rw [hp] at this; simp at this
      | cons p t =>
        rw [parts_not r h hp] at hx
        rw [hp] at ih
        rcases List.mem_cons.1 hx with rfl | hx
        · have := ih p (List.mem_cons_self ..); simp; omega
        · have := ih x (List.mem_cons_of_mem _ hx); simp; omega
/-- a list of texts in memory -/
def HasS (w : World) (p : Option Addr) (xs : List (List UInt8)) : Prop := ∀ (j : Nat) (x : List UInt8), xs[j]? = some x → ∃ g, p = some ⟨g, 0, none⟩ ∧ w.cell? ⟨g, j, none⟩ = some (.string (str x))
theorem HasS.gr {w w' : World} {p : Option Addr} {xs : List (List UInt8)} (h : HasS w p xs) (g : Gr w w') : HasS w' p xs := by
  intro j x hx
  obtain ⟨b, hp, h0⟩ := h j x hx
  exact ⟨b, hp, by rw [(Gr.cells g).1 _ _ (World.block_lt_of_cell? _ _ h0)]; exact h0⟩
theorem sv_form {w : World} {b : Nat} {e : TypeId} {v : Value} {xs : List (List UInt8)} (h : w.ownsRow b e 1 v xs.length (xs.map sv)) : ∃ (p : Option Addr) (cap : Nat), v = .slice p xs.length cap ∧ xs.length ≤ cap ∧ HasS w p xs := by
  obtain ⟨h1, ⟨rfl, h2⟩ | ⟨g, cap, cur, rfl, _, hg, hcap, _, _, hx⟩⟩ := h
  · exact ⟨none, 0, by rw [h2], by omega, fun j x hx => by rw [List.eq_nil_of_length_eq_zero h2] at hx; simp at hx⟩
  · refine ⟨some ⟨g, 0, none⟩, cap, rfl, hcap, fun j x hj => ?_⟩
    have hjl : j < xs.length := by
      apply Decidable.byContradiction; intro hc
      rw [List.getElem?_eq_none (by omega)] at hj; cases hj
    have a1 : (xs.map sv)[j]? = some (.string (str x)) := by rw [List.getElem?_map, hj]; rfl
    refine ⟨g, rfl, ?_⟩
    rw [← hx, List.getElem?_take, if_pos (by omega)] at a1
    simpa [World.cell?, hg] using a1

/-- the sign, the top, the bottom of a text -/
def fneg (l : List UInt8) : Bool := l.head? == some 45
def fdig (l : List UInt8) : List UInt8 := if fneg l then l.tail else l
def ftop (l : List UInt8) : List UInt8 := (cutAt 47 (fdig l)).1
def fslash (l : List UInt8) : Bool := (cutAt 47 (fdig l)).2.2
def fbot (l : List UInt8) : List UInt8 := if fslash l then (cutAt 47 (fdig l)).2.1 else [49]
def fform (l : List UInt8) : Prop := txt (ftop l) ∧ txt (fbot l) ∧ (fslash l = true → fbot l ≠ [48] ∧ fbot l ≠ [49]) ∧ ¬ (fneg l = true ∧ ftop l = [48] ∧ fslash l = false)
instance (l : List UInt8) : Decidable (fform l) := inferInstanceAs (Decidable (_ ∧ _))
/-- a text that is a number of some limbs -/
def nok (l : List UInt8) : Prop := l.length ≤ 2400 ∧ (nd (nval l)).length ≤ 256
instance (l : List UInt8) : Decidable (nok l) := inferInstanceAs (Decidable (_ ∧ _))
/-- what Parse returns -/
def FpRes (w : World) (l : List UInt8) (e : Ending) (w' : World) : Prop :=
  if ¬ fform l then e = .returned (.tuple #[fzero, .int .i64 2]) ∧ Gr w w'
  else if ¬ (nok (ftop l) ∧ nok (fbot l)) then e = .returned (.tuple #[fzero, .int .i64 5]) ∧ Gr w w'
  else if (nval (ftop l)).gcd (nval (fbot l)) ≠ 1 then e = .returned (.tuple #[fzero, .int .i64 2]) ∧ Gr w w'
  else FRes w (rat (fneg l) (nval (ftop l)) (nval (fbot l))) e w'
theorem FpRes.form {w w' : World} {l : List UInt8} {e : Ending} (h : ¬ fform l) (he : e = .returned (.tuple #[fzero, .int .i64 2])) (g : Gr w w') : FpRes w l e w' := by
  unfold FpRes; rw [if_pos h]; exact ⟨he, g⟩
theorem FpRes.limit {w w' : World} {l : List UInt8} {e : Ending} (h : fform l) (hn : ¬ (nok (ftop l) ∧ nok (fbot l))) (he : e = .returned (.tuple #[fzero, .int .i64 5])) (g : Gr w w') : FpRes w l e w' := by
  unfold FpRes; rw [if_neg (fun k => k h), if_pos hn]; exact ⟨he, g⟩
theorem FpRes.low {w w' : World} {l : List UInt8} {e : Ending} (h : fform l) (hn : nok (ftop l) ∧ nok (fbot l)) (hg : (nval (ftop l)).gcd (nval (fbot l)) ≠ 1) (he : e = .returned (.tuple #[fzero, .int .i64 2])) (g : Gr w w') : FpRes w l e w' := by
  unfold FpRes; rw [if_neg (fun k => k h), if_neg (fun k => k hn), if_pos hg]; exact ⟨he, g⟩
theorem FpRes.full {w w' : World} {l : List UInt8} {e : Ending} (h : fform l) (hn : nok (ftop l) ∧ nok (fbot l)) (hg : (nval (ftop l)).gcd (nval (fbot l)) = 1) (he : FRes w (rat (fneg l) (nval (ftop l)) (nval (fbot l))) e w') : FpRes w l e w' := by
  unfold FpRes; rw [if_neg (fun k => k h), if_neg (fun k => k hn), if_neg (fun k => k hg)]; exact he
theorem cut_no {c : UInt8} : ∀ {x : List UInt8}, (cutAt c x).2.2 = false → (cutAt c x).1 = x
  | [], _ => rfl
  | y :: r, h => by
    by_cases hy : (y == c) = true
    · rw [cutAt_yes r hy] at h; cases h
    · rw [cutAt_not r hy] at h ⊢
      show y :: (cutAt c r).1 = y :: r
      rw [cut_no h]
theorem cut_mem {c : UInt8} : ∀ {x : List UInt8}, (cutAt c x).2.2 = true → c ∈ x
  | [], h => by cases h
  | y :: r, h => by
    by_cases hy : (y == c) = true
    · rw [beq_iff_eq] at hy; rw [hy]; exact List.mem_cons_self ..
    · rw [cutAt_not r hy] at h
      exact List.mem_cons_of_mem _ (cut_mem h)
theorem parts_one {c : UInt8} {x : List UInt8} (h : (cutAt c x).2.2 = false) : parts c x = [x] := by
  rw [parts_cut, h]; rfl
theorem parts_more {c : UInt8} {x : List UInt8} (h : (cutAt c x).2.2 = true) : parts c x = (cutAt c x).1 :: parts c (cutAt c x).2.1 := by
  rw [parts_cut c x, if_pos h]
theorem parts_pos (c : UInt8) (x : List UInt8) : 0 < (parts c x).length := by
  rw [parts_cut]; split <;> simp
/-- the parts of a text: one, two, or more than two -/
theorem parts_three (l : List UInt8) : (fslash l = false ∧ parts 47 (fdig l) = [ftop l]) ∨ (fslash l = true ∧ parts 47 (fdig l) = [ftop l, fbot l]) ∨ (2 < (parts 47 (fdig l)).length ∧ ¬ fform l) := by
  cases hs : fslash l
  · left
    unfold fslash at hs
    refine ⟨rfl, ?_⟩
    unfold ftop
    rw [parts_one hs, cut_no hs]
  · right
    have hb : fbot l = (cutAt 47 (fdig l)).2.1 := by unfold fbot; rw [hs]; rfl
    unfold fslash at hs
    have h1 : parts 47 (fdig l) = ftop l :: parts 47 (fbot l) := by rw [parts_more hs, hb]; rfl
    cases ht : (cutAt 47 (fbot l)).2.2
    · left; exact ⟨rfl, by rw [h1, parts_one ht]⟩
    · right
      refine ⟨?_, fun hf => ?_⟩
      · rw [h1, parts_more ht]
        have := parts_pos 47 (cutAt 47 (fbot l)).2.1
        simp only [List.length_cons]; omega
      · have hm := hf.2.1.1 47 (cut_mem ht)
        revert hm; decide
theorem part_le (l : List UInt8) : (ftop l).length ≤ l.length ∧ (fbot l).length ≤ l.length + 1 := by
  have hd : (fdig l).length ≤ l.length := by unfold fdig; split <;> simp
  have hc : ∀ x : List UInt8, (cutAt 47 x).1.length ≤ x.length ∧ (cutAt 47 x).2.1.length ≤ x.length := by
    intro x
    induction x with
    | nil => exact ⟨Nat.le_refl _, Nat.le_refl _⟩
    | cons y r ih =>
      by_cases hy : (y == 47) = true
      · rw [cutAt_yes r hy]; simp
      · rw [cutAt_not r hy]; simp only [List.length_cons]; omega
  have := hc (fdig l)
  refine ⟨by unfold ftop; omega, ?_⟩
  unfold fbot
  split
  · omega
  · simp
end Go.Proofs.YtjpjnbgfodlkcaaGreatDoor
