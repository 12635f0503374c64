/- Several texts in one. -/
import Derived.Test.YtjpjnbgfodlkcaaGreatDoorHoM
import Derived.WalkKit
import Derived.WalkSpells
import Derived.WalkLawsBesides
import Derived.WalkSmall
import Derived.Handy
import Derived.BigQuiet
import Derived.Deep.QuietTactic
import Derived.Deep.RegionHeld3
import Derived.Deep.DeepFit
import Derived.Below
import Derived.Lib.Hide
import Derived.Lib.QuietBelow
import Derived.Deep.DeepCutAuto
import Derived.Test.YtjpjnbgfodlkcaaGreatDoorGAH
import Derived.Test.YtjpjnbgfodlkcaaGreatDoorHmM
/- The document's Parse of fractions at any text. -/
namespace Go.Proofs.YtjpjnbgfodlkcaaGreatDoor
open Go Go.RowKit Go.Sort
set_option maxRecDepth 100000
set_option linter.unusedVariables false
theorem rfparse_nil (w : World) :
    Calls Tryz.prog 33 #[.string (str [])] w (FpRes w []) := by
  have HC := Lib.hid (fun w => rcut_any (str []) 47 w (by rw [str_size]; decide))
  rw [str_data] at HC
  have sz : (str []).size = 0 := rfl
  have HD := Lib.hid (fun w => rdigits_any (str []) w (by rw [str_size]; decide))
  rw [str_data, decide_eq_false (show ¬ txt [] from fun h => h.2.1 rfl)] at HD
  have HB : Hid (¬ fform []) := Lib.hid fun h => h.1.2.1 rfl
  go_enter Tryz.func33, Tryz.ntmps33
  go_wp2_with fail
  have hR := (C3.new w (.bool false) (.slice none 0 0) (.slice none 0 0) 26 w.heap.size rfl).gr (Gr.alloc (Gr.refl _) (.cells #[.bool false, .slice none 0 0, .slice none 0 0] 26))
  have hF := C3.new (w.alloc (.cells #[.bool false, .slice none 0 0, .slice none 0 0] 26)) (.bool false) (.slice none 0 0) (.slice none 0 0) 26 (w.heap.size + 1) (by simp)
  have hG : Gr w ((w.alloc (.cells #[.bool false, .slice none 0 0, .slice none 0 0] 26)).alloc (.cells #[.bool false, .slice none 0 0, .slice none 0 0] 26)) := (Gr.alloc (Gr.refl _) _).alloc _
  generalize (w.alloc (.cells #[.bool false, .slice none 0 0, .slice none 0 0] 26)).alloc (.cells #[.bool false, .slice none 0 0, .slice none 0 0] 26) = W0 at *
  refine (HC.out _).mono ?_
  rintro e w1 ⟨v, rfl, hown, hg⟩
  obtain ⟨p, cp, rfl, hcp, hp⟩ := sv_form hown
  have hR := hR.gr hg
  have hF := hF.gr hg
  have hG := hG.step hg
  clear hg hown HC
  obtain ⟨g0, rfl, hc0⟩ := hp 0 [] rfl
  clear hp
  have hlen : (parts 47 []).length = 1 := rfl
  rw [hlen] at hcp ⊢
  obtain ⟨rc0, rc1, rc2, rf0, rf1, rf2, rlt, -⟩ := id hR
  obtain ⟨fc0, fc1, fc2, ff0, ff1, ff2, flt, -⟩ := id hF
  have hfl := (hR.fill false none none 0 0 0 0).1
  obtain ⟨sc0, sc1, sc2, -, -, -, -, -⟩ := id hfl
  have HG2 := Lib.hid (C3.three hG (q := w.heap.size) (Nat.le_refl _) (.bool false) (.slice none 0 0) (.slice none 0 0))
  go_wp2_with fail
  refine (HD.out _).mono ?_
  rintro e w' ⟨rfl, rfl⟩
  go_wp2_with fail
  refine bodyPost_ret (v := .tuple #[fzero, .int .i64 2]) (by simp [results, Tryz.results33, go_sem, sc0, sc1, sc2, fzero]) rfl ?_
  exact FpRes.form HB.out rfl HG2.out
theorem rfparse_any (l : List UInt8) (w : World) (hl : l.length ≤ 100000) :
    Calls Tryz.prog 33 #[.string (str l)] w (FpRes w l) := by
  cases l with
  | nil => exact rfparse_nil w
  | cons x r =>
    by_cases hx : x = 45
    · subst hx; exact rfparse_neg _ w hl rfl
    · exact rfparse_pos x r w hl hx
end Go.Proofs.YtjpjnbgfodlkcaaGreatDoor
/- Fractions with their errors as plain values; same. -/
namespace Go.Proofs.YtjpjnbgfodlkcaaGreatDoor
open Go Go.RowKit Go.Sort
set_option maxRecDepth 100000
set_option linter.unusedVariables false
/-- a fraction as its sign and its parts, also the zero value -/
def FV (w : World) (v : Value) (x : Bool) (A B : Nat) : Prop := ∃ vn vd : Value, v = .agg #[.bool x, vn, vd] ∧ Num w vn A ∧ Num w vd B
theorem FV.gr {w w' : World} {v : Value} {x : Bool} {A B : Nat} (h : FV w v x A B) (g : Gr w w') : FV w' v x A B := by
  obtain ⟨vn, vd, rfl, h1, h2⟩ := h
  exact ⟨vn, vd, rfl, h1.gr g, h2.gr g⟩
theorem FV.zero (w : World) : FV w fzero false 0 0 := ⟨_, _, rfl, Num.nil w, Num.nil w⟩
def FPair (w : World) (x : Bool) (A B : Nat) (E : Int) (e : Ending) (w' : World) : Prop := ∃ v, e = .returned (.tuple #[v, .int .i64 E]) ∧ FV w' v x A B ∧ (nd A).length ≤ 64 ∧ (nd B).length ≤ 64 ∧ Gr w w'
def fqX (r : Rat) : Bool := if (nd r.num.natAbs).length ≤ 64 ∧ (nd r.den).length ≤ 64 then decide (r.num < 0) else false
def fqA (r : Rat) : Nat := if (nd r.num.natAbs).length ≤ 64 ∧ (nd r.den).length ≤ 64 then r.num.natAbs else 0
def fqB (r : Rat) : Nat := if (nd r.num.natAbs).length ≤ 64 ∧ (nd r.den).length ≤ 64 then r.den else 0
def fqE (r : Rat) : Int := if (nd r.num.natAbs).length ≤ 64 ∧ (nd r.den).length ≤ 64 then 0 else 5
theorem FRes.pair {w w' : World} {r : Rat} {e : Ending} (h : FRes w r e w') : FPair w (fqX r) (fqA r) (fqB r) (fqE r) e w' := by
  obtain ⟨v, er, rfl, h, hg⟩ := h
  unfold fqX fqA fqB fqE
  rcases h with ⟨hb, rfl, hr⟩ | ⟨hb, rfl, rfl⟩
  · have hb' : (nd r.num.natAbs).length ≤ 64 ∧ (nd r.den).length ≤ 64 := hb
    rw [if_pos hb', if_pos hb', if_pos hb', if_pos hb']
    exact ⟨v, rfl, hr, hb.1, hb.2, hg⟩
  · have hb' : ¬ ((nd r.num.natAbs).length ≤ 64 ∧ (nd r.den).length ≤ 64) := hb
    rw [if_neg hb', if_neg hb', if_neg hb', if_neg hb']
    exact ⟨_, rfl, FV.zero _, by rw [nd_zero]; simp, by rw [nd_zero]; simp, hg⟩
theorem FPair.err {w w' : World} {E : Int} {e : Ending} (he : e = .returned (.tuple #[fzero, .int .i64 E])) (hg : Gr w w') : FPair w false 0 0 E e w' := ⟨_, he, FV.zero _, by rw [nd_zero]; simp, by rw [nd_zero]; simp, hg⟩
/-- what Parse answers, as plain values -/
def fpO (l : List UInt8) : Bool := decide (fform l ∧ (nok (ftop l) ∧ nok (fbot l)) ∧ (nval (ftop l)).gcd (nval (fbot l)) = 1)
def fpR (l : List UInt8) : Rat := rat (fneg l) (nval (ftop l)) (nval (fbot l))
def fpX (l : List UInt8) : Bool := if fpO l = true then fqX (fpR l) else false
def fpA (l : List UInt8) : Nat := if fpO l = true then fqA (fpR l) else 0
def fpB (l : List UInt8) : Nat := if fpO l = true then fqB (fpR l) else 0
def fpE (l : List UInt8) : Int := if fpO l = true then fqE (fpR l) else if fform l ∧ ¬ (nok (ftop l) ∧ nok (fbot l)) then 5 else 2
theorem FpRes.pair {w w' : World} {l : List UInt8} {e : Ending} (h : FpRes w l e w') : FPair w (fpX l) (fpA l) (fpB l) (fpE l) e w' := by
  unfold FpRes at h
  unfold fpX fpA fpB fpE
  by_cases h1 : fform l
  · rw [if_neg (fun k => k h1)] at h
    by_cases h2 : nok (ftop l) ∧ nok (fbot l)
    · rw [if_neg (fun k => k h2)] at h
      by_cases h3 : (nval (ftop l)).gcd (nval (fbot l)) = 1
      · rw [if_neg (fun k => k h3)] at h
        have ho : fpO l = true := decide_eq_true ⟨h1, h2, h3⟩
        rw [if_pos ho, if_pos ho, if_pos ho, if_pos ho]
        exact h.pair
      · rw [if_pos h3] at h
        have ho : ¬ fpO l = true := fun k => h3 (of_decide_eq_true k).2.2
        rw [if_neg ho, if_neg ho, if_neg ho, if_neg ho, if_neg (fun k => k.2 h2)]
        exact FPair.err h.1 h.2
    · rw [if_pos h2] at h
      have ho : ¬ fpO l = true := fun k => h2 (of_decide_eq_true k).2.1
      rw [if_neg ho, if_neg ho, if_neg ho, if_neg ho, if_pos ⟨h1, h2⟩]
      exact FPair.err h.1 h.2
  · rw [if_pos h1] at h
    have ho : ¬ fpO l = true := fun k => h1 (of_decide_eq_true k).1
    rw [if_neg ho, if_neg ho, if_neg ho, if_neg ho, if_neg (fun k => h1 k.1)]
    exact FPair.err h.1 h.2
set_option maxHeartbeats 2000000 in
/-- Same at equal parts -/
theorem fsame_fv {x : Bool} {A B : Nat} (v u : Value) (w : World) (ha : FV w v x A B) (hb : FV w u x A B) (lA : (nd A).length ≤ 64) (lB : (nd B).length ≤ 64) :
    Calls Tryz.prog 24 #[v, u] w fun e w' => e = .returned (.bool true) ∧ Gr w w' := by
  obtain ⟨va, vb, rfl, hA, hB⟩ := ha
  obtain ⟨vc, vd, rfl, hC, hD⟩ := hb
  obtain ⟨C, hAC⟩ : ∃ C, C = A := ⟨_, rfl⟩
  obtain ⟨D, hBD⟩ : ∃ D, D = B := ⟨_, rfl⟩
  rw [← hAC] at hC
  rw [← hBD] at hD
  have HAC := Lib.hid hAC
  have HBD := Lib.hid hBD
  clear hAC hBD
  have HA := Lib.hid hA
  have HB := Lib.hid hB
  have HC := Lib.hid hC
  have HD := Lib.hid hD
  obtain ⟨aa, ca, rfl⟩ := num_slice hA
  obtain ⟨ab, cb, rfl⟩ := num_slice hB
  obtain ⟨ac, cc, rfl⟩ := num_slice hC
  obtain ⟨ad, cd, rfl⟩ := num_slice hD
  clear hA hB hC hD
  have hX0 := C3.new w (.bool x) (.slice aa (nd A).length ca) (.slice ab (nd B).length cb) 26 w.heap.size rfl
  have hX1 := hX0.gr (Gr.alloc (Gr.refl _) (.cells #[.bool x, .slice ac (nd C).length cc, .slice ad (nd D).length cd] 26))
  have hY1 := C3.new (w.alloc (.cells #[.bool x, .slice aa (nd A).length ca, .slice ab (nd B).length cb] 26)) (.bool x) (.slice ac (nd C).length cc) (.slice ad (nd D).length cd) 26 (w.heap.size + 1) (by simp)
  have hG1 : Gr w ((w.alloc (.cells #[.bool x, .slice aa (nd A).length ca, .slice ab (nd B).length cb] 26)).alloc (.cells #[.bool x, .slice ac (nd C).length cc, .slice ad (nd D).length cd] 26)) := (Gr.alloc (Gr.refl _) _).alloc _
  have dx : (x == x) = true := by cases x <;> rfl
  go_enter Tryz.func24, Tryz.ntmps24
  go_wp2_with fail
  clear hX0
  generalize (w.alloc (.cells #[.bool x, .slice aa (nd A).length ca, .slice ab (nd B).length cb] 26)).alloc (.cells #[.bool x, .slice ac (nd C).length cc, .slice ad (nd D).length cd] 26) = W0 at *
  have hX := hX1
  have hY := hY1
  have hG := hG1
  clear hX1 hY1 hG1
  obtain ⟨xc0, xc1, xc2, -, -, -, -, -⟩ := id hX
  obtain ⟨yc0, yc1, yc2, -, -, -, -, -⟩ := id hY
  refine (num_same (A := A) (B := C) _ _ _ (HA.out.gr hG) (HC.out.gr hG) HAC.out.symm (by omega)).mono ?_
  rintro e w1 ⟨rfl, hg⟩
  replace hX := hX.gr hg
  replace hY := hY.gr hg
  replace hG := hG.step hg
  clear xc0 xc1 xc2 yc0 yc1 yc2 hg
  obtain ⟨xc0, xc1, xc2, -, -, -, -, -⟩ := id hX
  obtain ⟨yc0, yc1, yc2, -, -, -, -, -⟩ := id hY
  go_wp2_with fail
  refine (num_same (A := B) (B := D) _ _ _ (HB.out.gr hG) (HD.out.gr hG) HBD.out.symm (by omega)).mono ?_
  rintro e w2 ⟨rfl, hg⟩
  replace hX := hX.gr hg
  replace hY := hY.gr hg
  replace hG := hG.step hg
  clear xc0 xc1 xc2 yc0 yc1 yc2 hg
  obtain ⟨xc0, xc1, xc2, -, -, -, -, -⟩ := id hX
  obtain ⟨yc0, yc1, yc2, -, -, -, -, -⟩ := id hY
  go_wp2_with fail
  go_ret
  exact ⟨rfl, hG⟩
/-- the law's same -/
theorem lsame_fv {x : Bool} {A B : Nat} (v u : Value) (E : Int) (w : World) (ha : FV w v x A B) (hb : FV w u x A B) (lA : (nd A).length ≤ 64) (lB : (nd B).length ≤ 64) :
    Calls Tryz.prog 9 #[v, .int .i64 E, u, .int .i64 E] w fun e w' => e = .returned (.bool true) ∧ Gr w w' := by
  have HS := Lib.hid (fun w' (k : Gr w w') => fsame_fv v u w' (ha.gr k) (hb.gr k) lA lB)
  obtain ⟨va, vb, rfl, hA, hB⟩ := ha
  obtain ⟨vc, vd, rfl, hC, hD⟩ := hb
  obtain ⟨a1, c1, rfl⟩ := num_slice hA
  obtain ⟨a2, c2, rfl⟩ := num_slice hB
  obtain ⟨a3, c3, rfl⟩ := num_slice hC
  obtain ⟨a4, c4, rfl⟩ := num_slice hD
  clear hA hB hC hD lA lB
  generalize (nd A).length = la at *
  generalize (nd B).length = lb at *
  go_enter Tryz.func9, Tryz.ntmps9
  go_wp2_with fail
  refine (HS.out _ ?_).mono ?_
  · exact (Gr.alloc (Gr.alloc (Gr.refl _) _) _)
  rintro e w1 ⟨rfl, hg⟩
  go_wp2_with fail
  go_ret
  exact ⟨rfl, (by repeat' (first | (with_reducible exact Gr.refl _) | (with_reducible assumption) | (with_reducible refine Gr.drewN ?_ _) | (with_reducible refine Gr.drew ?_) | (with_reducible refine Gr.alloc ?_ _) | (with_reducible refine Gr.setCell ?_ ?_ _) | (with_reducible refine Gr.grow ?_ _ _) | (refine Gr.step ?_ (by with_reducible assumption)) | go_size))⟩
end Go.Proofs.YtjpjnbgfodlkcaaGreatDoor
