/- Several texts in one. -/
import Derived.Test.YtjpjnbgfodlkcaaGreatDoorNdvM
import Derived.Test.YtjpjnbgfodlkcaaGreatDoorGAB
import Derived.WalkKit
import Derived.WalkSpells
import Derived.WalkLawsBesides
import Derived.WalkSmall
import Derived.Handy
import Derived.BigQuiet
import Derived.Deep.QuietTactic
import Derived.Deep.RegionHeld3
import Derived.Deep.DeepFit
import Derived.Below
import Derived.Lib.Hide
import Derived.Lib.QuietBelow
import Derived.Deep.DeepCutAuto
import Derived.Test.YtjpjnbgfodlkcaaGreatDoorGAC
/- divide of a number by a longer one, and DivMod. -/
namespace Go.Proofs.YtjpjnbgfodlkcaaGreatDoor
open Go Go.RowKit Go.Shelf
set_option maxRecDepth 100000
set_option linter.unusedVariables false
attribute [local go_sem] Oper.semAt_some
theorem divide_less {A B : Nat} (va vb : Value) (w : World) (hA : Num w va A) (hB : Num w vb B) (lA : (nd A).length ≤ 1000) (lB : (nd A).length < (nd B).length) :
    Calls Tryz.prog 95 #[va, vb] w (DivPost w A B) := by
  have hA0 := hA
  obtain ⟨aa, acap, rfl, -, -, -⟩ := hA
  obtain ⟨ab, bcap, rfl, -, -, -⟩ := hB
  have HA := Lib.hid hA0
  clear hA0
  have d0 : decide ((nd A).length < (nd B).length) = true := by simpa using lB
  have hlt : A < B := by
    apply Decidable.byContradiction; intro hc
    have := nd_mono (show B ≤ A by omega)
    omega
  have HLT := Lib.hid hlt
  clear hlt
  refine (callsIn_wide (n := 4)).1 ?_
  refine callsIn_of_wp_marks Tryz.func95 rfl trivial ?_ rfl
  simp only [Tryz.ntmps95, List.size_toArray, List.length_cons, List.length_nil, Nat.reduceAdd, Nat.reduceSub, Array.replicate_succ, Array.replicate_zero, List.push_toArray, List.append_toArray, List.nil_append, List.cons_append]
  gi_wp2_with fail
  have bq := (Boxed.new (w.alloc (.cells #[.slice ab (nd B).length bcap] 24)) 24 (.slice none 0 0)).cell
  have bqf := (Boxed.new (w.alloc (.cells #[.slice ab (nd B).length bcap] 24)) 24 (.slice none 0 0)).frozen
  simp only [World.size_alloc] at bq bqf
  have hsz : ((w.alloc (.cells #[.slice ab (nd B).length bcap] 24)).alloc (.cells #[.slice none 0 0] 24)).heap.size = w.heap.size + 1 + 1 := by simp
  have hG0 : Gr w ((w.alloc (.cells #[.slice ab (nd B).length bcap] 24)).alloc (.cells #[.slice none 0 0] 24)) := (Gr.refl _).alloc _ |>.alloc _
  generalize (w.alloc (.cells #[.slice ab (nd B).length bcap] 24)).alloc (.cells #[.slice none 0 0] 24) = W0 at *
  refine ⟨trivial, ?_⟩
  refine (callsIn_wide.2 (clone_any _ _ _ (HA.out.gr hG0) (by omega))).mono ?_
  rintro e w2 ⟨v2, rfl, hown, hg2⟩
  have bq2 : w2.cell? ⟨w.heap.size + 1, 0, none⟩ = some (.slice none 0 0) := by rw [(Gr.cells hg2).1 _ _ (by omega)]; exact bq
  have bqf2 : w2.frozen? ⟨w.heap.size + 1, 0, none⟩ = false := by rw [(Gr.cells hg2).2 _ _ (by omega)]; exact bqf
  have HO := Lib.hid hown
  have hG2 := hG0.step hg2
  clear hown hg2 bq bqf
  gi_wp2_with fail
  have hc5 : (w2.setCell ⟨w.heap.size + 1, 0, none⟩ (.slice none 0 0)).cell? ⟨w.heap.size + 1, 0, none⟩ = some (.slice none 0 0) := World.cell?_setCell_same' _ _ _ (by rw [bq2]; rfl)
  refine ⟨.tuple #[.slice none 0 0, v2], by simp [results, Tryz.f95, go_sem, hc5], ?_⟩
  have hq : A / B = 0 := Nat.div_eq_of_lt HLT.out
  have hr : A % B = A := Nat.mod_eq_of_lt HLT.out
  refine ⟨_, _, rfl, by rw [hq]; exact Num.nil _, ?_, hG2.setCell (p := ⟨w.heap.size + 1, 0, none⟩) (by simp) _⟩
  rw [hr]
  exact ((HO.out.rd.imp (q := (· ≠ w.heap.size + 1)) (fun b _ hb => by omega)).ex (Ex.set (Ex.refl _ _) _ _)).any
theorem divide_full {A B : Nat} (va vb : Value) (w : World) (hA : Num w va A) (hB : Num w vb B) (hB0 : 0 < B) (lA : (nd A).length ≤ 1000) :
    Calls Tryz.prog 95 #[va, vb] w (DivPost w A B) := by
  rcases Nat.lt_or_ge (nd A).length (nd B).length with h | h
  · exact divide_less va vb w hA hB lA h
  · exact divide_any va vb w hA hB hB0 lA h
/-- a quotient and a remainder without an error -/
def DmPost (w : World) (A B : Nat) (e : Ending) (w' : World) : Prop := ∃ vq vr : Value, e = .returned (.tuple #[vq, vr, .int .i64 0]) ∧ Num w' vq (A / B) ∧ Num w' vr (A % B) ∧ Gr w w'
theorem divmod_any {A B : Nat} (va vb : Value) (w : World) (hA : Num w va A) (hB : Num w vb B) (hB0 : 0 < B) (lA : (nd A).length ≤ 256) (lB : (nd B).length ≤ 256) :
    Calls Tryz.prog 75 #[va, vb] w (DmPost w A B) := by
  have hA0 := hA
  have hB1 := hB
  have hbl : 0 < (nd B).length := by rw [nd_pos hB0]; simp
  obtain ⟨aa, acap, rfl, -, -, -⟩ := hA
  obtain ⟨ab, bcap, rfl, -, -, -⟩ := hB
  have va := Lib.hid (num_valid hA0 lA)
  have vb := Lib.hid (num_valid hB1 lB)
  have vd := Lib.hid (divide_full _ _ w hA0 hB1 hB0 (by omega))
  have d0 : (((nd B).length : Int) == 0) = false := by rw [beq_eq_false_iff_ne]; omega
  clear hA0 hB1 hB0
  go_enter Tryz.func75, Tryz.ntmps75
  go_wp2_with fail
  refine va.out.mono ?_
  rintro e w' ⟨rfl, rfl⟩
  go_wp2_with fail
  refine vb.out.mono ?_
  rintro e w' ⟨rfl, rfl⟩
  go_wp2_with fail
  refine vd.out.mono ?_
  rintro e w' ⟨vq, vr, rfl, hq, hr, hg⟩
  go_wp2_with fail
  go_ret3
  exact ⟨_, _, rfl, hq, hr, hg⟩
theorem divmod_zero {A : Nat} (va vb : Value) (w : World) (hA : Num w va A) (hB : Num w vb 0) (lA : (nd A).length ≤ 256) :
    Calls Tryz.prog 75 #[va, vb] w fun e w' => e = .returned (.tuple #[.slice none 0 0, .slice none 0 0, .int .i64 14]) ∧ w = w' := by
  have va := Lib.hid (num_valid hA lA)
  have vb := Lib.hid (num_valid hB (by rw [nd_zero]; simp))
  unfold Num at hB
  rw [nd_zero] at hB
  obtain ⟨aa, acap, rfl, -, -, -⟩ := hA
  obtain ⟨ab, bcap, rfl, -, -, -⟩ := hB
  go_enter Tryz.func75, Tryz.ntmps75
  go_wp2_with fail
  refine va.out.mono ?_
  rintro e w' ⟨rfl, rfl⟩
  go_wp2_with fail
  refine vb.out.mono ?_
  rintro e w' ⟨rfl, rfl⟩
  go_wp2_with fail
  go_ret3
  exact ⟨rfl, rfl⟩
end Go.Proofs.YtjpjnbgfodlkcaaGreatDoor
/- The number that a list reads as, as a function of the world. -/
namespace Go.Proofs.YtjpjnbgfodlkcaaGreatDoor
open Go Go.RowKit
theorem num_len {w : World} {v : Value} {N : Nat} (h : Num w v N) : ∃ (a : Option Addr) (cap : Nat), v = .slice a (nd N).length cap := by
  obtain ⟨a, cap, e, -⟩ := h
  exact ⟨a, cap, e⟩
open Classical in
/-- the number that a list reads as -/
noncomputable def numOf (w : World) (v : Value) : Nat := if h : ∃ N, Num w v N then h.choose else 0
theorem Num.uniq {w : World} {v : Value} {M N : Nat} (h1 : Num w v M) (h2 : Num w v N) : M = N := by
  obtain ⟨a, c, rfl, -, -, H1⟩ := h1
  obtain ⟨a2, c2, e, -, -, H2⟩ := h2
  simp only [Value.slice.injEq] at e
  obtain ⟨rfl, hl, rfl⟩ := e
  refine nd_ext hl fun i hi => ?_
  obtain ⟨b, o, rfl, -, e1⟩ := H1 i hi
  obtain ⟨b2, o2, e2, -, e3⟩ := H2 i (by omega)
  cases e2
  rw [e1] at e3
  simp only [Option.some.injEq, Value.int.injEq, true_and] at e3
  omega
theorem numOf_eq {w : World} {v : Value} {N : Nat} (h : Num w v N) : numOf w v = N := by
  unfold numOf
  rw [dif_pos ⟨N, h⟩]
  exact Num.uniq (Exists.choose_spec (⟨N, h⟩ : ∃ N, Num w v N)) h
end Go.Proofs.YtjpjnbgfodlkcaaGreatDoor
/- Gcd. -/
namespace Go.Proofs.YtjpjnbgfodlkcaaGreatDoor
open Go Go.RowKit Go.Sort
set_option maxRecDepth 100000
set_option linter.unusedVariables false
/-- one number -/
def OnePost (w : World) (N : Nat) (e : Ending) (w' : World) : Prop := ∃ v, e = .returned v ∧ Num w' v N ∧ Gr w w'
def GcRel (A B : Nat) (w : World) (va vb : Value) (wr : World) : Prop :=
  ∃ X Y : Nat, Num wr va X ∧ Num wr vb Y ∧ X.gcd Y = A.gcd B ∧ (nd X).length ≤ 256 ∧ (nd Y).length ≤ 256 ∧ Gr w wr
set_option maxHeartbeats 1000000 in
theorem gcd_any {A B : Nat} (va vb : Value) (w : World) (hA : Num w va A) (hB : Num w vb B) (lA : (nd A).length ≤ 256) (lB : (nd B).length ≤ 256) :
    Calls Tryz.prog 64 #[va, vb] w (OnePost w (A.gcd B)) := by
  have HA := Lib.hid hA
  have HB := Lib.hid hB
  have hv1 := Lib.hid (num_valid hA lA)
  have hv2 := Lib.hid (num_valid hB lB)
  clear hA hB
  go_enter Tryz.func64, Tryz.ntmps64
  go_wp2_with fail
  refine hv1.out.mono ?_
  rintro e w' ⟨rfl, rfl⟩
  go_wp2_with fail
  refine hv2.out.mono ?_
  rintro e w' ⟨rfl, rfl⟩
  go_wp2_with fail
  go_loopw [0, 1] (fun a b wr => GcRel A B w a b wr) (fun _ b wr => numOf wr b)
  case atStart => exact ⟨A, B, HA.out, HB.out, rfl, lA, lB, Gr.refl _⟩
  case round =>
    obtain ⟨X, Y, hx, hy, hgc, lx, ly, hg⟩ := hrel
    have HX := Lib.hid hx
    have HY := Lib.hid hy
    have HGC := Lib.hid hgc
    clear hgc
    by_cases h0 : 0 < Y
    · have HD := Lib.hid (divide_full _ _ _ hx hy h0 (by omega))
      have hyl : 0 < (nd Y).length := by rw [nd_pos h0]; simp
      obtain ⟨ax, xc, rfl⟩ := num_len hx
      obtain ⟨ay, yc, rfl⟩ := num_len hy
      have H0 := Lib.hid h0
      clear hx hy h0
      have d0 : decide (0 < (nd Y).length) = true := by simpa using hyl
      go_wp2_with fail
      refine HD.out.mono ?_
      rintro e w2 ⟨vq, vr, rfl, -, hr, hg2⟩
      have HR := Lib.hid hr
      clear hr
      go_wp2_with fail
      go_roundw
      case rel => exact ⟨Y, X % Y, HY.out.gr hg2, HR.out, by rw [← HGC.out, Nat.gcd_comm X Y, Nat.gcd_rec Y X, Nat.gcd_comm], ly, Nat.le_trans (nd_mono (Nat.le_of_lt (Nat.mod_lt X H0.out))) ly, hg.step hg2⟩
      case measure => rw [numOf_eq HR.out, numOf_eq HY.out]; exact Nat.mod_lt X H0.out
    · have HC := Lib.hid (clone_any _ _ _ hx (by omega))
      obtain rfl : Y = 0 := by omega
      rw [Nat.gcd_zero_right] at HGC
      obtain ⟨ax, xc, rfl⟩ := num_len hx
      obtain ⟨ay, yc, rfl⟩ := num_len hy
      rw [nd_zero]
      have HG := Lib.hid hg
      clear hx hy h0 hg
      go_wp2_with fail
      refine HC.out.mono ?_
      rintro e w2 ⟨v2, rfl, hown, hg2⟩
      have HO := Lib.hid hown
      clear hown
      go_wp2_with fail
      go_ret
      exact ⟨_, rfl, by rw [← HGC.out]; exact HO.out.rd.any, HG.out.step hg2⟩
end Go.Proofs.YtjpjnbgfodlkcaaGreatDoor
/- lowest. -/
namespace Go.Proofs.YtjpjnbgfodlkcaaGreatDoor
open Go Go.RowKit Go.Sort
set_option maxRecDepth 100000
set_option linter.unusedVariables false
set_option maxHeartbeats 1000000 in
theorem lowest_at {N D : Nat} (x y : Bool) (vn vd : Value) (w : World) (hN : Num w vn N) (hD : Num w vd D) (hD0 : 0 < D) (hn : (nd N).length ≤ 256) (hd : (nd D).length ≤ 256) (hy : y = (x && decide (0 < (nd N).length))) :
    Calls Tryz.prog 39 #[.bool x, vn, vd] w (FRes w (rat x N D)) := by
  have HN := Lib.hid hN
  have HD := Lib.hid hD
  obtain ⟨an, cn, rfl⟩ := num_slice hN
  obtain ⟨ad, cd, rfl⟩ := num_slice hD
  clear hN hD
  have hgl : (nd (N.gcd D)).length ≤ 256 := nd_le_len' hd (Nat.gcd_le_right _ hD0)
  have hg0 : 0 < N.gcd D := Nat.gcd_pos_of_pos_right _ hD0
  have HG0 := Lib.hid hg0
  have HPOS : Hid (0 < D / N.gcd D) := Lib.hid (Nat.div_gcd_pos_of_pos_right _ hD0)
  have HLQ : Hid ((nd (N / N.gcd D)).length ≤ 256) := Lib.hid (nd_le_len' hn (Nat.div_le_self _ _))
  have HLP : Hid ((nd (D / N.gcd D)).length ≤ 256) := Lib.hid (nd_le_len' hd (Nat.div_le_self _ _))
  obtain ⟨b1, hb1⟩ : ∃ b, decide ((nd (N / N.gcd D)).length ≤ 64) = b := ⟨_, rfl⟩
  obtain ⟨b2, hb2⟩ : ∃ b, decide ((nd (D / N.gcd D)).length ≤ 64) = b := ⟨_, rfl⟩
  have HB1 := Lib.hid hb1
  have HB2 := Lib.hid hb2
  have HD0 := Lib.hid hD0
  clear hg0 hD0 hb1 hb2
  have HY := Lib.hid hy
  clear hy
  cases x
  · obtain rfl : y = false := by simpa using HY.out
    go_enter Tryz.func39, Tryz.ntmps39
    go_wp2_with fail
    have hR := C3.new w (.bool false) (.slice none 0 0) (.slice none 0 0) 26 w.heap.size rfl
    refine (gcd_any _ _ _ (HN.out.gr (Gr.alloc (Gr.refl _) _)) (HD.out.gr (Gr.alloc (Gr.refl _) _)) hn hd).mono ?_
    rintro e w1 ⟨vg, rfl, hg, hg1⟩
    have HG := Lib.hid hg
    have hR := hR.gr hg1
    have hs1 : w.heap.size < w1.heap.size := by have := Gr.size hg1; simp at this; omega
    have hG1 : Gr w w1 := (Gr.alloc (Gr.refl _) _).step hg1
    clear hg hg1
    go_wp2_with fail
    have hF := C3.new w1 (.bool false) (.slice none 0 0) (.slice none 0 0) 26 w1.heap.size rfl
    have hR := hR.gr (Gr.alloc (Gr.refl w1) (.cells #[.bool false, .slice none 0 0, .slice none 0 0] 26))
    have hG2 : Gr w1 (w1.alloc (.cells #[.bool false, .slice none 0 0, .slice none 0 0] 26)) := Gr.alloc (Gr.refl _) _
    generalize w1.alloc (.cells #[.bool false, .slice none 0 0, .slice none 0 0] 26) = W1 at *
    refine (divmod_any _ _ _ (HN.out.gr (hG1.step hG2)) (HG.out.gr hG2) HG0.out hn hgl).mono ?_
    rintro e w2 ⟨vq, vr, rfl, hq, -, hg2⟩
    obtain ⟨aq, cq, rfl⟩ := num_slice hq
    have hF := hF.gr hg2
    have hR := hR.gr hg2
    have hG2 := hG2.step hg2
    obtain ⟨hc0, hc1, hc2, hf0, hf1, hf2, hlt, -⟩ := id hF
    have HQ := Lib.hid (hF.num (o := 1) hq (.slice aq (nd (N / N.gcd D)).length cq))
    clear hq hg2
    go_wp2_with fail
    have hF := hF.set1 (.slice aq (nd (N / N.gcd D)).length cq)
    have hR := hR.other (o := 1) (.slice aq (nd (N / N.gcd D)).length cq) (Nat.ne_of_lt hs1)
    have hG2 := hG2.setCell (p := ⟨w1.heap.size, 1, none⟩) (Nat.le_refl _) (.slice aq (nd (N / N.gcd D)).length cq)
    clear hc0 hc1 hc2 hf0 hf1 hf2 hlt
    generalize w2.setCell ⟨w1.heap.size, 1, none⟩ (.slice aq (nd (N / N.gcd D)).length cq) = W2 at *
    refine (divmod_any _ _ _ (HD.out.gr (hG1.step hG2)) (HG.out.gr hG2) HG0.out hd hgl).mono ?_
    rintro e w3 ⟨vp, vs, rfl, hp, -, hg3⟩
    obtain ⟨ap, cp, rfl⟩ := num_slice hp
    have hF := hF.gr hg3
    have hR := hR.gr hg3
    have hG2 := hG2.step hg3
    obtain ⟨hc0, hc1, hc2, hf0, hf1, hf2, hlt, -⟩ := id hF
    have HP := Lib.hid (hF.num (o := 2) hp (.slice ap (nd (D / N.gcd D)).length cp))
    have HQ := Lib.hid (hF.num (o := 2) (HQ.out.gr hg3) (.slice ap (nd (D / N.gcd D)).length cp))
    have hF := hF.set2 (.slice ap (nd (D / N.gcd D)).length cp)
    have hR := hR.other (o := 2) (.slice ap (nd (D / N.gcd D)).length cp) (Nat.ne_of_lt hs1)
    have hG2 := hG2.setCell (p := ⟨w1.heap.size, 2, none⟩) (Nat.le_refl _) (.slice ap (nd (D / N.gcd D)).length cp)
    clear hp hg3
    obtain ⟨kc0, kc1, kc2, -, -, -, -, -⟩ := id hF
    go_wp2_with fail
    clear hc0 hc1 hc2 hf0 hf1 hf2 hlt kc0 kc1 kc2
    generalize w3.setCell ⟨w1.heap.size, 2, none⟩ (.slice ap (nd (D / N.gcd D)).length cp) = W3 at *
    refine (fvalid_any false _ _ _ _ _ HQ.out HP.out HPOS.out (fun h => by cases h) HLQ.out HLP.out HB1.out HB2.out).mono ?_
    rintro e w4 ⟨rfl, hg4⟩
    have hF := hF.gr hg4
    have hR := hR.gr hg4
    have hG2 := hG2.step hg4
    obtain ⟨hc0, hc1, hc2, hf0, hf1, hf2, hlt, -⟩ := id hF
    obtain ⟨rc0, rc1, rc2, rf0, rf1, rf2, rlt, -⟩ := id hR
    have HQ := Lib.hid (HQ.out.gr hg4)
    have HP := Lib.hid (HP.out.gr hg4)
    cases b1
    · skip
      have hfl := hR.fill false none none 0 0 0 0
      obtain ⟨sc0, sc1, sc2, -, -, -, -, -⟩ := hfl.1
      go_wp2
      refine bodyPost_ret (v := .tuple #[fzero, .int .i64 5]) (by simp [results, Tryz.results39, go_sem, sc0, sc1, sc2, fzero]) rfl ?_
      exact ⟨_, 5, rfl, .inr ⟨(fun h => by have := (low_bd HD0.out HB1.out HB2.out).1 h; cases this), rfl, rfl⟩, (((hG1.step hG2).setCell (p := ⟨w.heap.size, 0, none⟩) (Nat.le_refl _) _).setCell (p := ⟨w.heap.size, 1, none⟩) (Nat.le_refl _) _).setCell (p := ⟨w.heap.size, 2, none⟩) (Nat.le_refl _) _⟩
    · skip
      cases b2
      · skip
        have hfl := hR.fill false none none 0 0 0 0
        obtain ⟨sc0, sc1, sc2, -, -, -, -, -⟩ := hfl.1
        go_wp2
        refine bodyPost_ret (v := .tuple #[fzero, .int .i64 5]) (by simp [results, Tryz.results39, go_sem, sc0, sc1, sc2, fzero]) rfl ?_
        exact ⟨_, 5, rfl, .inr ⟨(fun h => by have := (low_bd HD0.out HB1.out HB2.out).1 h; cases this), rfl, rfl⟩, (((hG1.step hG2).setCell (p := ⟨w.heap.size, 0, none⟩) (Nat.le_refl _) _).setCell (p := ⟨w.heap.size, 1, none⟩) (Nat.le_refl _) _).setCell (p := ⟨w.heap.size, 2, none⟩) (Nat.le_refl _) _⟩
      · skip
        have hfl := hR.fill false aq ap (nd (N / N.gcd D)).length (nd (D / N.gcd D)).length cq cp
        obtain ⟨sc0, sc1, sc2, -, -, -, -, -⟩ := hfl.1
        go_wp2
        refine bodyPost_ret (v := .tuple #[.agg #[.bool false, .slice aq (nd (N / N.gcd D)).length cq, .slice ap (nd (D / N.gcd D)).length cp], .int .i64 0]) (by simp [results, Tryz.results39, go_sem, sc0, sc1, sc2]) rfl ?_
        exact ⟨_, 0, rfl, .inl ⟨(low_bd HD0.out HB1.out HB2.out).2 rfl, rfl, low_ok HD0.out HY.out (hfl.2 HQ.out) (hfl.2 HP.out)⟩, (((hG1.step hG2).setCell (p := ⟨w.heap.size, 0, none⟩) (Nat.le_refl _) _).setCell (p := ⟨w.heap.size, 1, none⟩) (Nat.le_refl _) _).setCell (p := ⟨w.heap.size, 2, none⟩) (Nat.le_refl _) _⟩
  · by_cases h0 : 0 < N
    · have hnl : 0 < (nd N).length := by rw [nd_pos h0]; simp
      have d2 : decide (0 < (nd N).length) = true := by simpa using hnl
      have HNP : Hid (0 < N / N.gcd D) := Lib.hid (Nat.div_gcd_pos_of_pos_left _ h0)
      obtain rfl : y = true := by rw [HY.out, d2]; rfl
      clear h0 hnl
      go_enter Tryz.func39, Tryz.ntmps39
      go_wp2_with fail
      have hR := C3.new w (.bool false) (.slice none 0 0) (.slice none 0 0) 26 w.heap.size rfl
      refine (gcd_any _ _ _ (HN.out.gr (Gr.alloc (Gr.refl _) _)) (HD.out.gr (Gr.alloc (Gr.refl _) _)) hn hd).mono ?_
      rintro e w1 ⟨vg, rfl, hg, hg1⟩
      have HG := Lib.hid hg
      have hR := hR.gr hg1
      have hs1 : w.heap.size < w1.heap.size := by have := Gr.size hg1; simp at this; omega
      have hG1 : Gr w w1 := (Gr.alloc (Gr.refl _) _).step hg1
      clear hg hg1
      go_wp2_with fail
      have hF := C3.new w1 (.bool true) (.slice none 0 0) (.slice none 0 0) 26 w1.heap.size rfl
      have hR := hR.gr (Gr.alloc (Gr.refl w1) (.cells #[.bool true, .slice none 0 0, .slice none 0 0] 26))
      have hG2 : Gr w1 (w1.alloc (.cells #[.bool true, .slice none 0 0, .slice none 0 0] 26)) := Gr.alloc (Gr.refl _) _
      generalize w1.alloc (.cells #[.bool true, .slice none 0 0, .slice none 0 0] 26) = W1 at *
      refine (divmod_any _ _ _ (HN.out.gr (hG1.step hG2)) (HG.out.gr hG2) HG0.out hn hgl).mono ?_
      rintro e w2 ⟨vq, vr, rfl, hq, -, hg2⟩
      obtain ⟨aq, cq, rfl⟩ := num_slice hq
      have hF := hF.gr hg2
      have hR := hR.gr hg2
      have hG2 := hG2.step hg2
      obtain ⟨hc0, hc1, hc2, hf0, hf1, hf2, hlt, -⟩ := id hF
      have HQ := Lib.hid (hF.num (o := 1) hq (.slice aq (nd (N / N.gcd D)).length cq))
      clear hq hg2
      go_wp2_with fail
      have hF := hF.set1 (.slice aq (nd (N / N.gcd D)).length cq)
      have hR := hR.other (o := 1) (.slice aq (nd (N / N.gcd D)).length cq) (Nat.ne_of_lt hs1)
      have hG2 := hG2.setCell (p := ⟨w1.heap.size, 1, none⟩) (Nat.le_refl _) (.slice aq (nd (N / N.gcd D)).length cq)
      clear hc0 hc1 hc2 hf0 hf1 hf2 hlt
      generalize w2.setCell ⟨w1.heap.size, 1, none⟩ (.slice aq (nd (N / N.gcd D)).length cq) = W2 at *
      refine (divmod_any _ _ _ (HD.out.gr (hG1.step hG2)) (HG.out.gr hG2) HG0.out hd hgl).mono ?_
      rintro e w3 ⟨vp, vs, rfl, hp, -, hg3⟩
      obtain ⟨ap, cp, rfl⟩ := num_slice hp
      have hF := hF.gr hg3
      have hR := hR.gr hg3
      have hG2 := hG2.step hg3
      obtain ⟨hc0, hc1, hc2, hf0, hf1, hf2, hlt, -⟩ := id hF
      have HP := Lib.hid (hF.num (o := 2) hp (.slice ap (nd (D / N.gcd D)).length cp))
      have HQ := Lib.hid (hF.num (o := 2) (HQ.out.gr hg3) (.slice ap (nd (D / N.gcd D)).length cp))
      have hF := hF.set2 (.slice ap (nd (D / N.gcd D)).length cp)
      have hR := hR.other (o := 2) (.slice ap (nd (D / N.gcd D)).length cp) (Nat.ne_of_lt hs1)
      have hG2 := hG2.setCell (p := ⟨w1.heap.size, 2, none⟩) (Nat.le_refl _) (.slice ap (nd (D / N.gcd D)).length cp)
      clear hp hg3
      obtain ⟨kc0, kc1, kc2, -, -, -, -, -⟩ := id hF
      go_wp2_with fail
      clear hc0 hc1 hc2 hf0 hf1 hf2 hlt kc0 kc1 kc2
      generalize w3.setCell ⟨w1.heap.size, 2, none⟩ (.slice ap (nd (D / N.gcd D)).length cp) = W3 at *
      refine (fvalid_any true _ _ _ _ _ HQ.out HP.out HPOS.out (fun _ => HNP.out) HLQ.out HLP.out HB1.out HB2.out).mono ?_
      rintro e w4 ⟨rfl, hg4⟩
      have hF := hF.gr hg4
      have hR := hR.gr hg4
      have hG2 := hG2.step hg4
      obtain ⟨hc0, hc1, hc2, hf0, hf1, hf2, hlt, -⟩ := id hF
      obtain ⟨rc0, rc1, rc2, rf0, rf1, rf2, rlt, -⟩ := id hR
      have HQ := Lib.hid (HQ.out.gr hg4)
      have HP := Lib.hid (HP.out.gr hg4)
      cases b1
      · skip
        have hfl := hR.fill false none none 0 0 0 0
        obtain ⟨sc0, sc1, sc2, -, -, -, -, -⟩ := hfl.1
        go_wp2
        refine bodyPost_ret (v := .tuple #[fzero, .int .i64 5]) (by simp [results, Tryz.results39, go_sem, sc0, sc1, sc2, fzero]) rfl ?_
        exact ⟨_, 5, rfl, .inr ⟨(fun h => by have := (low_bd HD0.out HB1.out HB2.out).1 h; cases this), rfl, rfl⟩, (((hG1.step hG2).setCell (p := ⟨w.heap.size, 0, none⟩) (Nat.le_refl _) _).setCell (p := ⟨w.heap.size, 1, none⟩) (Nat.le_refl _) _).setCell (p := ⟨w.heap.size, 2, none⟩) (Nat.le_refl _) _⟩
      · skip
        cases b2
        · skip
          have hfl := hR.fill false none none 0 0 0 0
          obtain ⟨sc0, sc1, sc2, -, -, -, -, -⟩ := hfl.1
          go_wp2
          refine bodyPost_ret (v := .tuple #[fzero, .int .i64 5]) (by simp [results, Tryz.results39, go_sem, sc0, sc1, sc2, fzero]) rfl ?_
          exact ⟨_, 5, rfl, .inr ⟨(fun h => by have := (low_bd HD0.out HB1.out HB2.out).1 h; cases this), rfl, rfl⟩, (((hG1.step hG2).setCell (p := ⟨w.heap.size, 0, none⟩) (Nat.le_refl _) _).setCell (p := ⟨w.heap.size, 1, none⟩) (Nat.le_refl _) _).setCell (p := ⟨w.heap.size, 2, none⟩) (Nat.le_refl _) _⟩
        · skip
          have hfl := hR.fill true aq ap (nd (N / N.gcd D)).length (nd (D / N.gcd D)).length cq cp
          obtain ⟨sc0, sc1, sc2, -, -, -, -, -⟩ := hfl.1
          go_wp2
          refine bodyPost_ret (v := .tuple #[.agg #[.bool true, .slice aq (nd (N / N.gcd D)).length cq, .slice ap (nd (D / N.gcd D)).length cp], .int .i64 0]) (by simp [results, Tryz.results39, go_sem, sc0, sc1, sc2]) rfl ?_
          exact ⟨_, 0, rfl, .inl ⟨(low_bd HD0.out HB1.out HB2.out).2 rfl, rfl, low_ok HD0.out HY.out (hfl.2 HQ.out) (hfl.2 HP.out)⟩, (((hG1.step hG2).setCell (p := ⟨w.heap.size, 0, none⟩) (Nat.le_refl _) _).setCell (p := ⟨w.heap.size, 1, none⟩) (Nat.le_refl _) _).setCell (p := ⟨w.heap.size, 2, none⟩) (Nat.le_refl _) _⟩
    · have hN0 : N = 0 := by omega
      have hnl : (nd N).length = 0 := by rw [hN0, nd_zero]; rfl
      have d2 : decide (0 < (nd N).length) = false := by rw [hnl]; rfl
      obtain rfl : y = false := by rw [HY.out, d2]; rfl
      clear h0 hnl hN0
      go_enter Tryz.func39, Tryz.ntmps39
      go_wp2_with fail
      have hR := C3.new w (.bool false) (.slice none 0 0) (.slice none 0 0) 26 w.heap.size rfl
      refine (gcd_any _ _ _ (HN.out.gr (Gr.alloc (Gr.refl _) _)) (HD.out.gr (Gr.alloc (Gr.refl _) _)) hn hd).mono ?_
      rintro e w1 ⟨vg, rfl, hg, hg1⟩
      have HG := Lib.hid hg
      have hR := hR.gr hg1
      have hs1 : w.heap.size < w1.heap.size := by have := Gr.size hg1; simp at this; omega
      have hG1 : Gr w w1 := (Gr.alloc (Gr.refl _) _).step hg1
      clear hg hg1
      go_wp2_with fail
      have hF := C3.new w1 (.bool false) (.slice none 0 0) (.slice none 0 0) 26 w1.heap.size rfl
      have hR := hR.gr (Gr.alloc (Gr.refl w1) (.cells #[.bool false, .slice none 0 0, .slice none 0 0] 26))
      have hG2 : Gr w1 (w1.alloc (.cells #[.bool false, .slice none 0 0, .slice none 0 0] 26)) := Gr.alloc (Gr.refl _) _
      generalize w1.alloc (.cells #[.bool false, .slice none 0 0, .slice none 0 0] 26) = W1 at *
      refine (divmod_any _ _ _ (HN.out.gr (hG1.step hG2)) (HG.out.gr hG2) HG0.out hn hgl).mono ?_
      rintro e w2 ⟨vq, vr, rfl, hq, -, hg2⟩
      obtain ⟨aq, cq, rfl⟩ := num_slice hq
      have hF := hF.gr hg2
      have hR := hR.gr hg2
      have hG2 := hG2.step hg2
      obtain ⟨hc0, hc1, hc2, hf0, hf1, hf2, hlt, -⟩ := id hF
      have HQ := Lib.hid (hF.num (o := 1) hq (.slice aq (nd (N / N.gcd D)).length cq))
      clear hq hg2
      go_wp2_with fail
      have hF := hF.set1 (.slice aq (nd (N / N.gcd D)).length cq)
      have hR := hR.other (o := 1) (.slice aq (nd (N / N.gcd D)).length cq) (Nat.ne_of_lt hs1)
      have hG2 := hG2.setCell (p := ⟨w1.heap.size, 1, none⟩) (Nat.le_refl _) (.slice aq (nd (N / N.gcd D)).length cq)
      clear hc0 hc1 hc2 hf0 hf1 hf2 hlt
      generalize w2.setCell ⟨w1.heap.size, 1, none⟩ (.slice aq (nd (N / N.gcd D)).length cq) = W2 at *
      refine (divmod_any _ _ _ (HD.out.gr (hG1.step hG2)) (HG.out.gr hG2) HG0.out hd hgl).mono ?_
      rintro e w3 ⟨vp, vs, rfl, hp, -, hg3⟩
      obtain ⟨ap, cp, rfl⟩ := num_slice hp
      have hF := hF.gr hg3
      have hR := hR.gr hg3
      have hG2 := hG2.step hg3
      obtain ⟨hc0, hc1, hc2, hf0, hf1, hf2, hlt, -⟩ := id hF
      have HP := Lib.hid (hF.num (o := 2) hp (.slice ap (nd (D / N.gcd D)).length cp))
      have HQ := Lib.hid (hF.num (o := 2) (HQ.out.gr hg3) (.slice ap (nd (D / N.gcd D)).length cp))
      have hF := hF.set2 (.slice ap (nd (D / N.gcd D)).length cp)
      have hR := hR.other (o := 2) (.slice ap (nd (D / N.gcd D)).length cp) (Nat.ne_of_lt hs1)
      have hG2 := hG2.setCell (p := ⟨w1.heap.size, 2, none⟩) (Nat.le_refl _) (.slice ap (nd (D / N.gcd D)).length cp)
      clear hp hg3
      obtain ⟨kc0, kc1, kc2, -, -, -, -, -⟩ := id hF
      go_wp2_with fail
      clear hc0 hc1 hc2 hf0 hf1 hf2 hlt kc0 kc1 kc2
      generalize w3.setCell ⟨w1.heap.size, 2, none⟩ (.slice ap (nd (D / N.gcd D)).length cp) = W3 at *
      refine (fvalid_any false _ _ _ _ _ HQ.out HP.out HPOS.out (fun h => by cases h) HLQ.out HLP.out HB1.out HB2.out).mono ?_
      rintro e w4 ⟨rfl, hg4⟩
      have hF := hF.gr hg4
      have hR := hR.gr hg4
      have hG2 := hG2.step hg4
      obtain ⟨hc0, hc1, hc2, hf0, hf1, hf2, hlt, -⟩ := id hF
      obtain ⟨rc0, rc1, rc2, rf0, rf1, rf2, rlt, -⟩ := id hR
      have HQ := Lib.hid (HQ.out.gr hg4)
      have HP := Lib.hid (HP.out.gr hg4)
      cases b1
      · skip
        have hfl := hR.fill false none none 0 0 0 0
        obtain ⟨sc0, sc1, sc2, -, -, -, -, -⟩ := hfl.1
        go_wp2
        refine bodyPost_ret (v := .tuple #[fzero, .int .i64 5]) (by simp [results, Tryz.results39, go_sem, sc0, sc1, sc2, fzero]) rfl ?_
        exact ⟨_, 5, rfl, .inr ⟨(fun h => by have := (low_bd HD0.out HB1.out HB2.out).1 h; cases this), rfl, rfl⟩, (((hG1.step hG2).setCell (p := ⟨w.heap.size, 0, none⟩) (Nat.le_refl _) _).setCell (p := ⟨w.heap.size, 1, none⟩) (Nat.le_refl _) _).setCell (p := ⟨w.heap.size, 2, none⟩) (Nat.le_refl _) _⟩
      · skip
        cases b2
        · skip
          have hfl := hR.fill false none none 0 0 0 0
          obtain ⟨sc0, sc1, sc2, -, -, -, -, -⟩ := hfl.1
          go_wp2
          refine bodyPost_ret (v := .tuple #[fzero, .int .i64 5]) (by simp [results, Tryz.results39, go_sem, sc0, sc1, sc2, fzero]) rfl ?_
          exact ⟨_, 5, rfl, .inr ⟨(fun h => by have := (low_bd HD0.out HB1.out HB2.out).1 h; cases this), rfl, rfl⟩, (((hG1.step hG2).setCell (p := ⟨w.heap.size, 0, none⟩) (Nat.le_refl _) _).setCell (p := ⟨w.heap.size, 1, none⟩) (Nat.le_refl _) _).setCell (p := ⟨w.heap.size, 2, none⟩) (Nat.le_refl _) _⟩
        · skip
          have hfl := hR.fill false aq ap (nd (N / N.gcd D)).length (nd (D / N.gcd D)).length cq cp
          obtain ⟨sc0, sc1, sc2, -, -, -, -, -⟩ := hfl.1
          go_wp2
          refine bodyPost_ret (v := .tuple #[.agg #[.bool false, .slice aq (nd (N / N.gcd D)).length cq, .slice ap (nd (D / N.gcd D)).length cp], .int .i64 0]) (by simp [results, Tryz.results39, go_sem, sc0, sc1, sc2]) rfl ?_
          exact ⟨_, 0, rfl, .inl ⟨(low_bd HD0.out HB1.out HB2.out).2 rfl, rfl, low_ok HD0.out HY.out (hfl.2 HQ.out) (hfl.2 HP.out)⟩, (((hG1.step hG2).setCell (p := ⟨w.heap.size, 0, none⟩) (Nat.le_refl _) _).setCell (p := ⟨w.heap.size, 1, none⟩) (Nat.le_refl _) _).setCell (p := ⟨w.heap.size, 2, none⟩) (Nat.le_refl _) _⟩
theorem lowest_any {N D : Nat} (x : Bool) (vn vd : Value) (w : World) (hN : Num w vn N) (hD : Num w vd D) (hD0 : 0 < D) (hn : (nd N).length ≤ 256) (hd : (nd D).length ≤ 256) :
    Calls Tryz.prog 39 #[.bool x, vn, vd] w (FRes w (rat x N D)) := lowest_at x _ vn vd w hN hD hD0 hn hd rfl
end Go.Proofs.YtjpjnbgfodlkcaaGreatDoor
