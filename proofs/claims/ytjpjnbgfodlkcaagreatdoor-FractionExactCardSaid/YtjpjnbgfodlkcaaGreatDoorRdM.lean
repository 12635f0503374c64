/- Draws of fractions. -/
import Derived.Test.YtjpjnbgfodlkcaaGreatDoorGAK
import Derived.WalkKit
import Derived.WalkSpells
import Derived.WalkLawsBesides
import Derived.WalkSmall
import Derived.Handy
import Derived.BigQuiet
import Derived.Deep.QuietTactic
import Derived.Deep.RegionHeld3
import Derived.Deep.DeepFit
import Derived.Below
import Derived.Lib.Hide
import Derived.Lib.QuietBelow
namespace Go.Proofs.YtjpjnbgfodlkcaaGreatDoor
open Go Go.RowKit Go.Sort
set_option maxRecDepth 100000
set_option linter.unusedVariables false
theorem C3.ex {w w' : World} {r b : Nat} {x y z : Value} (h : C3 w r x y z) (g : Ex b w w') (hr : r ≠ b) : C3 w' r x y z :=
  h.same (fun o => g.cell r o hr h.lt) (fun o => g.frozen r o hr h.lt) (Nat.lt_of_lt_of_le h.lt g.size)
/-- a valid fraction with this value and parts of at most n limbs, in blocks of which p is true -/
def FraN (n : Nat) (p : Nat → Prop) (w : World) (v : Value) (r : Rat) : Prop :=
  ∃ (x : Bool) (vn vd : Value) (N D : Nat), v = .agg #[.bool x, vn, vd] ∧ Rd p w vn (nd N) ∧ Rd p w vd (nd D) ∧ 0 < D ∧ (x = true → 0 < N) ∧ (nd N).length ≤ n ∧ (nd D).length ≤ n ∧ r = rat x N D
abbrev FraP (p : Nat → Prop) (w : World) (v : Value) (r : Rat) : Prop := FraN 64 p w v r
theorem FraN.mono {i j : Nat} {p : Nat → Prop} {w : World} {v : Value} {r : Rat} (h : FraN i p w v r) (hij : i ≤ j) : FraN j p w v r := by
  obtain ⟨x, vn, vd, N, D, e, h1, h2, h3, h4, h5, h6, h7⟩ := h
  exact ⟨x, vn, vd, N, D, e, h1, h2, h3, h4, Nat.le_trans h5 hij, Nat.le_trans h6 hij, h7⟩
theorem FraP.fra {p : Nat → Prop} {w : World} {v : Value} {r : Rat} (h : FraP p w v r) : Fra w v r := by
  obtain ⟨x, vn, vd, N, D, e, h1, h2, h3⟩ := h
  exact ⟨x, vn, vd, N, D, e, h1.any, h2.any, h3⟩
theorem FraN.ex {n b : Nat} {w w' : World} {v : Value} {r : Rat} (h : FraN n (· ≠ b) w v r) (g : Ex b w w') : FraN n (· ≠ b) w' v r := by
  obtain ⟨x, vn, vd, N, D, e, h1, h2, h3⟩ := h
  exact ⟨x, vn, vd, N, D, e, h1.ex g, h2.ex g, h3⟩
theorem FraP.ex {b : Nat} {w w' : World} {v : Value} {r : Rat} (h : FraP (· ≠ b) w v r) (g : Ex b w w') : FraP (· ≠ b) w' v r := FraN.ex h g
theorem RedP.fran {n : Nat} {p : Nat → Prop} {w : World} {v : Value} {r : Rat} (h : RedP p w v r) (hb : Bd n r) : FraN n p w v r := by
  obtain ⟨vn, vd, h1, h2, h3⟩ := h
  refine ⟨_, vn, vd, _, _, h1, h2, h3, r.den_pos, fun hx => ?_, hb.1, hb.2, (rat_self r).symm⟩
  have := of_decide_eq_true hx
  omega
/-- a drawn fraction; its parts have at most m limbs -/
def FrPostN (m B b n : Nat) (w : World) (e : Ending) (w' : World) : Prop :=
  ∃ (x : Bool) (a1 a2 : Option Addr) (n1 n2 c1 c2 : Nat) (r : Rat), e = .returned (.agg #[.bool x, .slice a1 n1 c1, .slice a2 n2 c2]) ∧ FraN m (· ≠ b) w' (.agg #[.bool x, .slice a1 n1 c1, .slice a2 n2 c2]) r ∧ Bd n r ∧ Cod B w' b ∧ Ex b w w'
abbrev FrPost (B b n : Nat) (w : World) (e : Ending) (w' : World) : Prop := FrPostN 64 B b n w e w'
set_option maxHeartbeats 4000000 in
theorem frac_n {B : Nat} (b n : Nat) (w : World) (h : Cod B w b) (hBw : B ≤ w.heap.size) (hn0 : 1 ≤ n) (hn : n ≤ 60) :
    Calls Tryz.prog 6 #[.pointer (some ⟨b, 0, none⟩), .int .i64 n] w (FrPostN n B b n w) := by
  have hlt := h.lt
  have hR0 := C3.new w (.bool false) (.slice none 0 0) (.slice none 0 0) 26 w.heap.size rfl
  have hc0 := h.gr (Gr.alloc (Gr.refl _) (.cells #[.bool false, .slice none 0 0, .slice none 0 0] 26))
  have he0 : Ex b w (w.alloc (.cells #[.bool false, .slice none 0 0, .slice none 0 0] 26)) := Ex.ofGr (Gr.alloc (Gr.refl _) _)
  have hs0 : (w.alloc (.cells #[.bool false, .slice none 0 0, .slice none 0 0] 26)).heap.size = w.heap.size + 1 := by simp
  go_enter Tryz.func6, Tryz.ntmps6
  go_wp2_with fail
  generalize w.alloc (.cells #[.bool false, .slice none 0 0, .slice none 0 0] 26) = W0 at *
  refine (next_any b 2 _ (by omega) (by omega) hc0).mono ?_
  rintro e w1 ⟨x, rfl, x0, x1, hc1, he1⟩
  go_wp2_with fail
  refine (nat_any b n _ hc1 (by have := he1.size; omega) hn).mono ?_
  rintro e w2 ⟨vN, N, rfl, hN, lN, hc2, he2⟩
  go_wp2_with fail
  refine (nat_any b n _ hc2 (by have := he1.size; have := he2.size; omega) hn).mono ?_
  rintro e w3 ⟨vD, D, rfl, hD, lD, hc3, he3⟩
  have hE3 := ((he0.trans he1).trans he2).trans he3
  have hR3 := ((hR0.ex he1 (by omega)).ex he2 (by omega)).ex he3 (by omega)
  have hN3 := hN.ex he3
  obtain ⟨aN, cN, rfl⟩ := num_slice hN3.any
  obtain ⟨aD, cD, rfl⟩ := num_slice hD.any
  have hsz : w.heap.size + 1 ≤ w3.heap.size := by have := he1.size; have := he2.size; have := he3.size; omega
  clear hR0 hc0 he0 hs0 hc1 he1 hN hc2 he2 he3
  obtain ⟨bf, hbf⟩ : ∃ bf, bf = w3.heap.size := ⟨_, rfl⟩
  have hbfs : w.heap.size + 1 ≤ bf := by omega
  have HBF := Lib.hid hbf
  clear hbf
  have hlD : (nd D).length ≤ n := lD
  have hx : x = 0 ∨ x = 1 := by omega
  clear x0 x1
  rcases hx with rfl | rfl
  · skip
    by_cases hD0 : 0 < D
    · have hdl : 0 < (nd D).length := by rw [nd_pos hD0]; simp
      have dD : (((nd D).length : Int) == 0) = false := by rw [beq_eq_false_iff_ne]; omega
      have HDP := Lib.hid hD0
      have hF5 := C3.new w3 (.bool false) (.slice aN (nd N).length cN) (.slice aD (nd D).length cD) 26 bf HBF.out
      have hR5 := hR3.gr (Gr.alloc (Gr.refl _) (.cells #[.bool false, .slice aN (nd N).length cN, .slice aD (nd D).length cD] 26))
      have hc5 := hc3.gr (Gr.alloc (Gr.refl _) (.cells #[.bool false, .slice aN (nd N).length cN, .slice aD (nd D).length cD] 26))
      have he5 := hE3.trans (Ex.ofGr (Gr.alloc (Gr.refl _) (.cells #[.bool false, .slice aN (nd N).length cN, .slice aD (nd D).length cD] 26)))
      have HN5 := Lib.hid (hN3.gr (Gr.alloc (Gr.refl _) (.cells #[.bool false, .slice aN (nd N).length cN, .slice aD (nd D).length cD] 26)))
      have HD5 := Lib.hid (hD.gr (Gr.alloc (Gr.refl _) (.cells #[.bool false, .slice aN (nd N).length cN, .slice aD (nd D).length cD] 26)))
      clear hD0 hdl hR3 hc3 hE3 hN3 hD
      go_wp2_with fail
      rw [← HBF.out]
      generalize w3.alloc (.cells #[.bool false, .slice aN (nd N).length cN, .slice aD (nd D).length cD] 26) = w5 at *
      refine (next_any b 2 _ (by omega) (by omega) hc5).mono ?_
      rintro e w6 ⟨z, rfl, z0, z1, hc6, he6⟩
      have hF := hF5.ex he6 (by omega)
      have hR := hR5.ex he6 (by omega)
      have hE := he5.trans he6
      have HN := Lib.hid (HN5.out.ex he6)
      have HDD := Lib.hid (HD5.out.ex he6)
      have hbs : b < w6.heap.size := hc6.lt
      clear hc5 he5 he6 hF5 hR5 HN5 HD5
      obtain ⟨fc0, fc1, fc2, ff0, ff1, ff2, flt, -⟩ := id hF
      by_cases hz : z = 1
      · subst hz
        go_wp2_with fail
        have hfr : Fra w6 (.agg #[.bool false, .slice aN (nd N).length cN, .slice aD (nd D).length cD]) (rat false N D) := ⟨false, _, _, N, D, rfl, HN.out.any, HDD.out.any, HDP.out, (fun h => by cases h), by omega, by omega, rfl⟩
        refine (rreduce_any _ _ hfr).mono ?_
        rintro e w7 ⟨b7, a1, a2, n1, n2, k1, k2, rfl, hred, hg7⟩
        have hF7 := hF.gr hg7
        have hR7 := hR.gr hg7
        have hred7 := hred.imp (q := (· ≠ b)) fun c hc => by omega
        have hF8 := hF7.fill b7 a1 a2 n1 n2 k1 k2
        have HRED := Lib.hid (hF7.redp b7 a1 a2 n1 n2 k1 k2 hred7)
        have hR8 := ((hR7.other (o := 0) (s := bf) (.bool b7) (by omega)).other (o := 1) (s := bf) (.slice a1 n1 k1) (by omega)).other (o := 2) (s := bf) (.slice a2 n2 k2) (by omega)
        have hc8 := (((hc6.gr hg7).set bf 0 (by omega) (by omega) (.bool b7)).set bf 1 (by omega) (by omega) (.slice a1 n1 k1)).set bf 2 (by omega) (by omega) (.slice a2 n2 k2)
        have he8 := (((hE.trans (Ex.ofGr hg7)).setNew (p := ⟨bf, 0, none⟩) (by simp; omega) (.bool b7)).setNew (p := ⟨bf, 1, none⟩) (by simp; omega) (.slice a1 n1 k1)).setNew (p := ⟨bf, 2, none⟩) (by simp; omega) (.slice a2 n2 k2)
        clear fc0 fc1 fc2 ff0 ff1 ff2 flt
        obtain ⟨fc0, fc1, fc2, ff0, ff1, ff2, flt, -⟩ := id hF7
        obtain ⟨ec0, ec1, ec2, ef0, ef1, ef2, elt, -⟩ := id hF8.1
        clear hF hR hred hred7 hfr hc6 hE hg7 hF7 hR7
        have hfl := hR8.fill b7 a1 a2 n1 n2 k1 k2
        obtain ⟨sc0, sc1, sc2, -, -, -, -, -⟩ := hfl.1
        obtain ⟨rc0, rc1, rc2, rf0, rf1, rf2, rlt, -⟩ := id hR8
        have HRED9 := Lib.hid (hR8.redp b7 a1 a2 n1 n2 k1 k2 HRED.out)
        have hbd : Bd n (rat false N D) := bd_rat HDP.out lN hlD
        have HBD := Lib.hid hbd
        have hc9 := ((hc8.set w.heap.size 0 (by omega) (by omega) (.bool b7)).set w.heap.size 1 (by omega) (by omega) (.slice a1 n1 k1)).set w.heap.size 2 (by omega) (by omega) (.slice a2 n2 k2)
        have he9 := ((he8.setNew (p := ⟨w.heap.size, 0, none⟩) (Nat.le_refl _) (.bool b7)).setNew (p := ⟨w.heap.size, 1, none⟩) (Nat.le_refl _) (.slice a1 n1 k1)).setNew (p := ⟨w.heap.size, 2, none⟩) (Nat.le_refl _) (.slice a2 n2 k2)
        clear hbd
        go_wp2_with (fail)
        refine bodyPost_ret (v := .agg #[.bool b7, .slice a1 n1 k1, .slice a2 n2 k2]) (by simp [results, Tryz.results6, go_sem, sc0, sc1, sc2]) rfl ?_
        exact ⟨_, _, _, _, _, _, _, _, rfl, HRED9.out.fran HBD.out, HBD.out, hc9, he9⟩
      · have hz0 : z = 0 := by omega
        subst hz0
        have hfl := hR.fill false aN aD (nd N).length (nd D).length cN cD
        obtain ⟨sc0, sc1, sc2, -, -, -, -, -⟩ := hfl.1
        obtain ⟨rc0, rc1, rc2, rf0, rf1, rf2, rlt, -⟩ := id hR
        have hbd : Bd n (rat false N D) := bd_rat HDP.out lN hlD
        have HBD := Lib.hid hbd
        have hN9 := Lib.hid (hR.fillp false aN aD (nd N).length (nd D).length cN cD HN.out)
        have hD9 := Lib.hid (hR.fillp false aN aD (nd N).length (nd D).length cN cD HDD.out)
        have hc9 := ((hc6.set w.heap.size 0 (by omega) (by omega) (.bool false)).set w.heap.size 1 (by omega) (by omega) (.slice aN (nd N).length cN)).set w.heap.size 2 (by omega) (by omega) (.slice aD (nd D).length cD)
        have he9 := ((hE.setNew (p := ⟨w.heap.size, 0, none⟩) (Nat.le_refl _) (.bool false)).setNew (p := ⟨w.heap.size, 1, none⟩) (Nat.le_refl _) (.slice aN (nd N).length cN)).setNew (p := ⟨w.heap.size, 2, none⟩) (Nat.le_refl _) (.slice aD (nd D).length cD)
        clear hbd
        go_wp2_with fail
        refine bodyPost_ret (v := .agg #[.bool false, .slice aN (nd N).length cN, .slice aD (nd D).length cD]) (by simp [results, Tryz.results6, go_sem, sc0, sc1, sc2]) rfl ?_
        exact ⟨_, _, _, _, _, _, _, _, rfl, ⟨false, _, _, N, D, rfl, hN9.out, hD9.out, HDP.out, (fun h => by cases h), by omega, by omega, rfl⟩, HBD.out, hc9, he9⟩
    · have dD : (((nd D).length : Int) == 0) = true := by rw [show D = 0 by omega, nd_zero]; rfl
      have hF4 := C3.new w3 (.bool false) (.slice aN (nd N).length cN) (.slice aD (nd D).length cD) 26 bf HBF.out
      have hR4 := hR3.gr (Gr.alloc (Gr.refl _) (.cells #[.bool false, .slice aN (nd N).length cN, .slice aD (nd D).length cD] 26))
      have hc4 := hc3.gr (Gr.alloc (Gr.refl _) (.cells #[.bool false, .slice aN (nd N).length cN, .slice aD (nd D).length cD] 26))
      have he4 := hE3.trans (Ex.ofGr (Gr.alloc (Gr.refl _) (.cells #[.bool false, .slice aN (nd N).length cN, .slice aD (nd D).length cD] 26)))
      have HN4 := Lib.hid (hN3.gr (Gr.alloc (Gr.refl _) (.cells #[.bool false, .slice aN (nd N).length cN, .slice aD (nd D).length cD] 26)))
      clear hD0 hR3 hc3 hE3 hN3 hD
      go_wp2_with fail
      rw [← HBF.out]
      generalize w3.alloc (.cells #[.bool false, .slice aN (nd N).length cN, .slice aD (nd D).length cD] 26) = w4 at *
      refine (next_any b 12 _ (by omega) (by omega) hc4).mono ?_
      rintro e w5 ⟨y, rfl, y0, y1, hc5, he5⟩
      obtain ⟨y, rfl⟩ := Int.eq_ofNat_of_zero_le y0
      have hF5 := hF4.ex he5 (by omega)
      have hR5 := hR4.ex he5 (by omega)
      have hE5 := he4.trans he5
      have hN5 := HN4.out.ex he5
      have hbl5 : b < w5.heap.size := hc5.lt
      have hlit := num_lit w5 (1 + y) (1 + (y : Int)) (by omega) (by omega) (by omega)
      have hD5 : Rd (· ≠ b) (w5.alloc (.cells #[.int .i64 (1 + (y : Int))] 3)) (.slice (some ⟨w5.heap.size, 0, none⟩) 1 1) (nd (1 + y)) := by
        obtain ⟨a, c, e, h1, h2, H⟩ := hlit
        refine ⟨a, c, e, h1, h2, fun i hi => ?_⟩
        obtain ⟨k, off, ea, -, hc⟩ := H i hi
        refine ⟨k, off, ea, ?_, hc⟩
        rw [ea] at e
        simp only [Value.slice.injEq, Option.some.injEq, Addr.mk.injEq] at e
        omega
      have hF6 := hF5.gr (Gr.alloc (Gr.refl _) (.cells #[.int .i64 (1 + (y : Int))] 3))
      have hR6 := hR5.gr (Gr.alloc (Gr.refl _) (.cells #[.int .i64 (1 + (y : Int))] 3))
      have hc6 := hc5.gr (Gr.alloc (Gr.refl _) (.cells #[.int .i64 (1 + (y : Int))] 3))
      have he6 := hE5.alloc (.cells #[.int .i64 (1 + (y : Int))] 3)
      have hN6 := hN5.gr (Gr.alloc (Gr.refl _) (.cells #[.int .i64 (1 + (y : Int))] 3))
      have hs6 : (w5.alloc (.cells #[.int .i64 (1 + (y : Int))] 3)).heap.size = w5.heap.size + 1 := by simp
      have hF7 := hF6.set2 (.slice (some ⟨w5.heap.size, 0, none⟩) 1 1)
      have hR7 := hR6.other (o := 2) (s := bf) (.slice (some ⟨w5.heap.size, 0, none⟩) 1 1) (by omega)
      have hc7 := hc6.set bf 2 (by omega) (by omega) (.slice (some ⟨w5.heap.size, 0, none⟩) 1 1)
      have he7 := he6.setNew (p := ⟨bf, 2, none⟩) (by simp; omega) (.slice (some ⟨w5.heap.size, 0, none⟩) 1 1)
      have hN7 := hF6.rdp (o := 2) hN6 (.slice (some ⟨w5.heap.size, 0, none⟩) 1 1)
      have hD7 := hF6.rdp (o := 2) hD5 (.slice (some ⟨w5.heap.size, 0, none⟩) 1 1)
      have hF8 := hF7.set0 (.bool false)
      have hR8 := hR7.other (o := 0) (s := bf) (.bool false) (by omega)
      have hc8 := hc7.set bf 0 (by omega) (by omega) (.bool false)
      have he8 := he7.setNew (p := ⟨bf, 0, none⟩) (by simp; omega) (.bool false)
      have HN8 := Lib.hid (hF7.rdp (o := 0) hN7 (.bool false))
      have HD8 := Lib.hid (hF7.rdp (o := 0) hD7 (.bool false))
      have hlD : (nd (1 + y)).length ≤ n := by have := (nd_len (1 + y) 1).2 (by omega); omega
      have HDP : Hid (0 < 1 + y) := Lib.hid (by omega)
      obtain ⟨fc0, fc1, fc2, ff0, ff1, ff2, flt, -⟩ := id hF6
      obtain ⟨gc0, gc1, gc2, gf0, gf1, gf2, glt, -⟩ := id hF7
      clear hlit hD5 hN6 hN7 hD7 hN5 hE5 hF5 hR5 hc5 he5 hR4 hc4 he4 hF4 HN4 hR6 hc6 he6 hR7 hc7 he7 hF6 hF7
      go_wp2_with fail
      clear fc0 fc1 fc2 ff0 ff1 ff2 flt gc0 gc1 gc2 gf0 gf1 gf2 glt
      have hF5 := hF8
      have hR5 := hR8
      have hc5 := hc8
      have he5 := he8
      have HN5 := HN8
      have HD5 := HD8
      clear hF8 hR8 hc8 he8 HN8 HD8
      generalize w5.heap.size = aL at *
      generalize ((w5.alloc (.cells #[.int .i64 (1 + (y : Int))] 3)).setCell ⟨bf, 2, none⟩ (.slice (some ⟨aL, 0, none⟩) 1 1)).setCell ⟨bf, 0, none⟩ (.bool false) = w6 at *
      refine (next_any b 2 _ (by omega) (by omega) hc5).mono ?_
      rintro e w6 ⟨z, rfl, z0, z1, hc6, he6⟩
      have hF := hF5.ex he6 (by omega)
      have hR := hR5.ex he6 (by omega)
      have hE := he5.trans he6
      have HN := Lib.hid (HN5.out.ex he6)
      have HDD := Lib.hid (HD5.out.ex he6)
      have hbs : b < w6.heap.size := hc6.lt
      clear hc5 he5 he6 hF5 hR5 HN5 HD5
      obtain ⟨fc0, fc1, fc2, ff0, ff1, ff2, flt, -⟩ := id hF
      by_cases hz : z = 1
      · subst hz
        go_wp2_with fail
        have hfr : Fra w6 (.agg #[.bool false, .slice aN (nd N).length cN, .slice (some ⟨aL, 0, none⟩) 1 1]) (rat false N (1 + y)) := ⟨false, _, _, N, (1 + y), rfl, HN.out.any, HDD.out.any, HDP.out, (fun h => by cases h), by omega, by omega, rfl⟩
        refine (rreduce_any _ _ hfr).mono ?_
        rintro e w7 ⟨b7, a1, a2, n1, n2, k1, k2, rfl, hred, hg7⟩
        have hF7 := hF.gr hg7
        have hR7 := hR.gr hg7
        have hred7 := hred.imp (q := (· ≠ b)) fun c hc => by omega
        have hF8 := hF7.fill b7 a1 a2 n1 n2 k1 k2
        have HRED := Lib.hid (hF7.redp b7 a1 a2 n1 n2 k1 k2 hred7)
        have hR8 := ((hR7.other (o := 0) (s := bf) (.bool b7) (by omega)).other (o := 1) (s := bf) (.slice a1 n1 k1) (by omega)).other (o := 2) (s := bf) (.slice a2 n2 k2) (by omega)
        have hc8 := (((hc6.gr hg7).set bf 0 (by omega) (by omega) (.bool b7)).set bf 1 (by omega) (by omega) (.slice a1 n1 k1)).set bf 2 (by omega) (by omega) (.slice a2 n2 k2)
        have he8 := (((hE.trans (Ex.ofGr hg7)).setNew (p := ⟨bf, 0, none⟩) (by simp; omega) (.bool b7)).setNew (p := ⟨bf, 1, none⟩) (by simp; omega) (.slice a1 n1 k1)).setNew (p := ⟨bf, 2, none⟩) (by simp; omega) (.slice a2 n2 k2)
        clear fc0 fc1 fc2 ff0 ff1 ff2 flt
        obtain ⟨fc0, fc1, fc2, ff0, ff1, ff2, flt, -⟩ := id hF7
        obtain ⟨ec0, ec1, ec2, ef0, ef1, ef2, elt, -⟩ := id hF8.1
        clear hF hR hred hred7 hfr hc6 hE hg7 hF7 hR7
        have hfl := hR8.fill b7 a1 a2 n1 n2 k1 k2
        obtain ⟨sc0, sc1, sc2, -, -, -, -, -⟩ := hfl.1
        obtain ⟨rc0, rc1, rc2, rf0, rf1, rf2, rlt, -⟩ := id hR8
        have HRED9 := Lib.hid (hR8.redp b7 a1 a2 n1 n2 k1 k2 HRED.out)
        have hbd : Bd n (rat false N (1 + y)) := bd_rat HDP.out lN hlD
        have HBD := Lib.hid hbd
        have hc9 := ((hc8.set w.heap.size 0 (by omega) (by omega) (.bool b7)).set w.heap.size 1 (by omega) (by omega) (.slice a1 n1 k1)).set w.heap.size 2 (by omega) (by omega) (.slice a2 n2 k2)
        have he9 := ((he8.setNew (p := ⟨w.heap.size, 0, none⟩) (Nat.le_refl _) (.bool b7)).setNew (p := ⟨w.heap.size, 1, none⟩) (Nat.le_refl _) (.slice a1 n1 k1)).setNew (p := ⟨w.heap.size, 2, none⟩) (Nat.le_refl _) (.slice a2 n2 k2)
        clear hbd
        go_wp2_with (fail)
        refine bodyPost_ret (v := .agg #[.bool b7, .slice a1 n1 k1, .slice a2 n2 k2]) (by simp [results, Tryz.results6, go_sem, sc0, sc1, sc2]) rfl ?_
        exact ⟨_, _, _, _, _, _, _, _, rfl, HRED9.out.fran HBD.out, HBD.out, hc9, he9⟩
      · have hz0 : z = 0 := by omega
        subst hz0
        have hfl := hR.fill false aN (some ⟨aL, 0, none⟩) (nd N).length 1 cN 1
        obtain ⟨sc0, sc1, sc2, -, -, -, -, -⟩ := hfl.1
        obtain ⟨rc0, rc1, rc2, rf0, rf1, rf2, rlt, -⟩ := id hR
        have hbd : Bd n (rat false N (1 + y)) := bd_rat HDP.out lN hlD
        have HBD := Lib.hid hbd
        have hN9 := Lib.hid (hR.fillp false aN (some ⟨aL, 0, none⟩) (nd N).length 1 cN 1 HN.out)
        have hD9 := Lib.hid (hR.fillp false aN (some ⟨aL, 0, none⟩) (nd N).length 1 cN 1 HDD.out)
        have hc9 := ((hc6.set w.heap.size 0 (by omega) (by omega) (.bool false)).set w.heap.size 1 (by omega) (by omega) (.slice aN (nd N).length cN)).set w.heap.size 2 (by omega) (by omega) (.slice (some ⟨aL, 0, none⟩) 1 1)
        have he9 := ((hE.setNew (p := ⟨w.heap.size, 0, none⟩) (Nat.le_refl _) (.bool false)).setNew (p := ⟨w.heap.size, 1, none⟩) (Nat.le_refl _) (.slice aN (nd N).length cN)).setNew (p := ⟨w.heap.size, 2, none⟩) (Nat.le_refl _) (.slice (some ⟨aL, 0, none⟩) 1 1)
        clear hbd
        go_wp2_with fail
        refine bodyPost_ret (v := .agg #[.bool false, .slice aN (nd N).length cN, .slice (some ⟨aL, 0, none⟩) 1 1]) (by simp [results, Tryz.results6, go_sem, sc0, sc1, sc2]) rfl ?_
        exact ⟨_, _, _, _, _, _, _, _, rfl, ⟨false, _, _, N, (1 + y), rfl, hN9.out, hD9.out, HDP.out, (fun h => by cases h), by omega, by omega, rfl⟩, HBD.out, hc9, he9⟩
  · by_cases hN0 : 0 < N
    · have hnl : 0 < (nd N).length := by rw [nd_pos hN0]; simp
      have dN : decide (0 < (nd N).length) = true := by simpa using hnl
      have HNP := Lib.hid hN0
      clear hN0 hnl
      by_cases hD0 : 0 < D
      · have hdl : 0 < (nd D).length := by rw [nd_pos hD0]; simp
        have dD : (((nd D).length : Int) == 0) = false := by rw [beq_eq_false_iff_ne]; omega
        have HDP := Lib.hid hD0
        have hF5 := C3.new w3 (.bool true) (.slice aN (nd N).length cN) (.slice aD (nd D).length cD) 26 bf HBF.out
        have hR5 := hR3.gr (Gr.alloc (Gr.refl _) (.cells #[.bool true, .slice aN (nd N).length cN, .slice aD (nd D).length cD] 26))
        have hc5 := hc3.gr (Gr.alloc (Gr.refl _) (.cells #[.bool true, .slice aN (nd N).length cN, .slice aD (nd D).length cD] 26))
        have he5 := hE3.trans (Ex.ofGr (Gr.alloc (Gr.refl _) (.cells #[.bool true, .slice aN (nd N).length cN, .slice aD (nd D).length cD] 26)))
        have HN5 := Lib.hid (hN3.gr (Gr.alloc (Gr.refl _) (.cells #[.bool true, .slice aN (nd N).length cN, .slice aD (nd D).length cD] 26)))
        have HD5 := Lib.hid (hD.gr (Gr.alloc (Gr.refl _) (.cells #[.bool true, .slice aN (nd N).length cN, .slice aD (nd D).length cD] 26)))
        clear hD0 hdl hR3 hc3 hE3 hN3 hD
        go_wp2_with fail
        rw [← HBF.out]
        generalize w3.alloc (.cells #[.bool true, .slice aN (nd N).length cN, .slice aD (nd D).length cD] 26) = w5 at *
        refine (next_any b 2 _ (by omega) (by omega) hc5).mono ?_
        rintro e w6 ⟨z, rfl, z0, z1, hc6, he6⟩
        have hF := hF5.ex he6 (by omega)
        have hR := hR5.ex he6 (by omega)
        have hE := he5.trans he6
        have HN := Lib.hid (HN5.out.ex he6)
        have HDD := Lib.hid (HD5.out.ex he6)
        have hbs : b < w6.heap.size := hc6.lt
        clear hc5 he5 he6 hF5 hR5 HN5 HD5
        obtain ⟨fc0, fc1, fc2, ff0, ff1, ff2, flt, -⟩ := id hF
        by_cases hz : z = 1
        · subst hz
          go_wp2_with fail
          have hfr : Fra w6 (.agg #[.bool true, .slice aN (nd N).length cN, .slice aD (nd D).length cD]) (rat true N D) := ⟨true, _, _, N, D, rfl, HN.out.any, HDD.out.any, HDP.out, (fun _ => HNP.out), by omega, by omega, rfl⟩
          refine (rreduce_any _ _ hfr).mono ?_
          rintro e w7 ⟨b7, a1, a2, n1, n2, k1, k2, rfl, hred, hg7⟩
          have hF7 := hF.gr hg7
          have hR7 := hR.gr hg7
          have hred7 := hred.imp (q := (· ≠ b)) fun c hc => by omega
          have hF8 := hF7.fill b7 a1 a2 n1 n2 k1 k2
          have HRED := Lib.hid (hF7.redp b7 a1 a2 n1 n2 k1 k2 hred7)
          have hR8 := ((hR7.other (o := 0) (s := bf) (.bool b7) (by omega)).other (o := 1) (s := bf) (.slice a1 n1 k1) (by omega)).other (o := 2) (s := bf) (.slice a2 n2 k2) (by omega)
          have hc8 := (((hc6.gr hg7).set bf 0 (by omega) (by omega) (.bool b7)).set bf 1 (by omega) (by omega) (.slice a1 n1 k1)).set bf 2 (by omega) (by omega) (.slice a2 n2 k2)
          have he8 := (((hE.trans (Ex.ofGr hg7)).setNew (p := ⟨bf, 0, none⟩) (by simp; omega) (.bool b7)).setNew (p := ⟨bf, 1, none⟩) (by simp; omega) (.slice a1 n1 k1)).setNew (p := ⟨bf, 2, none⟩) (by simp; omega) (.slice a2 n2 k2)
          clear fc0 fc1 fc2 ff0 ff1 ff2 flt
          obtain ⟨fc0, fc1, fc2, ff0, ff1, ff2, flt, -⟩ := id hF7
          obtain ⟨ec0, ec1, ec2, ef0, ef1, ef2, elt, -⟩ := id hF8.1
          clear hF hR hred hred7 hfr hc6 hE hg7 hF7 hR7
          have hfl := hR8.fill b7 a1 a2 n1 n2 k1 k2
          obtain ⟨sc0, sc1, sc2, -, -, -, -, -⟩ := hfl.1
          obtain ⟨rc0, rc1, rc2, rf0, rf1, rf2, rlt, -⟩ := id hR8
          have HRED9 := Lib.hid (hR8.redp b7 a1 a2 n1 n2 k1 k2 HRED.out)
          have hbd : Bd n (rat true N D) := bd_rat HDP.out lN hlD
          have HBD := Lib.hid hbd
          have hc9 := ((hc8.set w.heap.size 0 (by omega) (by omega) (.bool b7)).set w.heap.size 1 (by omega) (by omega) (.slice a1 n1 k1)).set w.heap.size 2 (by omega) (by omega) (.slice a2 n2 k2)
          have he9 := ((he8.setNew (p := ⟨w.heap.size, 0, none⟩) (Nat.le_refl _) (.bool b7)).setNew (p := ⟨w.heap.size, 1, none⟩) (Nat.le_refl _) (.slice a1 n1 k1)).setNew (p := ⟨w.heap.size, 2, none⟩) (Nat.le_refl _) (.slice a2 n2 k2)
          clear hbd
          go_wp2_with (fail)
          refine bodyPost_ret (v := .agg #[.bool b7, .slice a1 n1 k1, .slice a2 n2 k2]) (by simp [results, Tryz.results6, go_sem, sc0, sc1, sc2]) rfl ?_
          exact ⟨_, _, _, _, _, _, _, _, rfl, HRED9.out.fran HBD.out, HBD.out, hc9, he9⟩
        · have hz0 : z = 0 := by omega
          subst hz0
          have hfl := hR.fill true aN aD (nd N).length (nd D).length cN cD
          obtain ⟨sc0, sc1, sc2, -, -, -, -, -⟩ := hfl.1
          obtain ⟨rc0, rc1, rc2, rf0, rf1, rf2, rlt, -⟩ := id hR
          have hbd : Bd n (rat true N D) := bd_rat HDP.out lN hlD
          have HBD := Lib.hid hbd
          have hN9 := Lib.hid (hR.fillp true aN aD (nd N).length (nd D).length cN cD HN.out)
          have hD9 := Lib.hid (hR.fillp true aN aD (nd N).length (nd D).length cN cD HDD.out)
          have hc9 := ((hc6.set w.heap.size 0 (by omega) (by omega) (.bool true)).set w.heap.size 1 (by omega) (by omega) (.slice aN (nd N).length cN)).set w.heap.size 2 (by omega) (by omega) (.slice aD (nd D).length cD)
          have he9 := ((hE.setNew (p := ⟨w.heap.size, 0, none⟩) (Nat.le_refl _) (.bool true)).setNew (p := ⟨w.heap.size, 1, none⟩) (Nat.le_refl _) (.slice aN (nd N).length cN)).setNew (p := ⟨w.heap.size, 2, none⟩) (Nat.le_refl _) (.slice aD (nd D).length cD)
          clear hbd
          go_wp2_with fail
          refine bodyPost_ret (v := .agg #[.bool true, .slice aN (nd N).length cN, .slice aD (nd D).length cD]) (by simp [results, Tryz.results6, go_sem, sc0, sc1, sc2]) rfl ?_
          exact ⟨_, _, _, _, _, _, _, _, rfl, ⟨true, _, _, N, D, rfl, hN9.out, hD9.out, HDP.out, (fun _ => HNP.out), by omega, by omega, rfl⟩, HBD.out, hc9, he9⟩
      · have dD : (((nd D).length : Int) == 0) = true := by rw [show D = 0 by omega, nd_zero]; rfl
        have hF4 := C3.new w3 (.bool true) (.slice aN (nd N).length cN) (.slice aD (nd D).length cD) 26 bf HBF.out
        have hR4 := hR3.gr (Gr.alloc (Gr.refl _) (.cells #[.bool true, .slice aN (nd N).length cN, .slice aD (nd D).length cD] 26))
        have hc4 := hc3.gr (Gr.alloc (Gr.refl _) (.cells #[.bool true, .slice aN (nd N).length cN, .slice aD (nd D).length cD] 26))
        have he4 := hE3.trans (Ex.ofGr (Gr.alloc (Gr.refl _) (.cells #[.bool true, .slice aN (nd N).length cN, .slice aD (nd D).length cD] 26)))
        have HN4 := Lib.hid (hN3.gr (Gr.alloc (Gr.refl _) (.cells #[.bool true, .slice aN (nd N).length cN, .slice aD (nd D).length cD] 26)))
        clear hD0 hR3 hc3 hE3 hN3 hD
        go_wp2_with fail
        rw [← HBF.out]
        generalize w3.alloc (.cells #[.bool true, .slice aN (nd N).length cN, .slice aD (nd D).length cD] 26) = w4 at *
        refine (next_any b 12 _ (by omega) (by omega) hc4).mono ?_
        rintro e w5 ⟨y, rfl, y0, y1, hc5, he5⟩
        obtain ⟨y, rfl⟩ := Int.eq_ofNat_of_zero_le y0
        have hF5 := hF4.ex he5 (by omega)
        have hR5 := hR4.ex he5 (by omega)
        have hE5 := he4.trans he5
        have hN5 := HN4.out.ex he5
        have hbl5 : b < w5.heap.size := hc5.lt
        have hlit := num_lit w5 (1 + y) (1 + (y : Int)) (by omega) (by omega) (by omega)
        have hD5 : Rd (· ≠ b) (w5.alloc (.cells #[.int .i64 (1 + (y : Int))] 3)) (.slice (some ⟨w5.heap.size, 0, none⟩) 1 1) (nd (1 + y)) := by
          obtain ⟨a, c, e, h1, h2, H⟩ := hlit
          refine ⟨a, c, e, h1, h2, fun i hi => ?_⟩
          obtain ⟨k, off, ea, -, hc⟩ := H i hi
          refine ⟨k, off, ea, ?_, hc⟩
          rw [ea] at e
          simp only [Value.slice.injEq, Option.some.injEq, Addr.mk.injEq] at e
          omega
        have hF6 := hF5.gr (Gr.alloc (Gr.refl _) (.cells #[.int .i64 (1 + (y : Int))] 3))
        have hR6 := hR5.gr (Gr.alloc (Gr.refl _) (.cells #[.int .i64 (1 + (y : Int))] 3))
        have hc6 := hc5.gr (Gr.alloc (Gr.refl _) (.cells #[.int .i64 (1 + (y : Int))] 3))
        have he6 := hE5.alloc (.cells #[.int .i64 (1 + (y : Int))] 3)
        have hN6 := hN5.gr (Gr.alloc (Gr.refl _) (.cells #[.int .i64 (1 + (y : Int))] 3))
        have hs6 : (w5.alloc (.cells #[.int .i64 (1 + (y : Int))] 3)).heap.size = w5.heap.size + 1 := by simp
        have hF7 := hF6.set2 (.slice (some ⟨w5.heap.size, 0, none⟩) 1 1)
        have hR7 := hR6.other (o := 2) (s := bf) (.slice (some ⟨w5.heap.size, 0, none⟩) 1 1) (by omega)
        have hc7 := hc6.set bf 2 (by omega) (by omega) (.slice (some ⟨w5.heap.size, 0, none⟩) 1 1)
        have he7 := he6.setNew (p := ⟨bf, 2, none⟩) (by simp; omega) (.slice (some ⟨w5.heap.size, 0, none⟩) 1 1)
        have hN7 := hF6.rdp (o := 2) hN6 (.slice (some ⟨w5.heap.size, 0, none⟩) 1 1)
        have hD7 := hF6.rdp (o := 2) hD5 (.slice (some ⟨w5.heap.size, 0, none⟩) 1 1)
        have hF8 := hF7.set0 (.bool true)
        have hR8 := hR7.other (o := 0) (s := bf) (.bool true) (by omega)
        have hc8 := hc7.set bf 0 (by omega) (by omega) (.bool true)
        have he8 := he7.setNew (p := ⟨bf, 0, none⟩) (by simp; omega) (.bool true)
        have HN8 := Lib.hid (hF7.rdp (o := 0) hN7 (.bool true))
        have HD8 := Lib.hid (hF7.rdp (o := 0) hD7 (.bool true))
        have hlD : (nd (1 + y)).length ≤ n := by have := (nd_len (1 + y) 1).2 (by omega); omega
        have HDP : Hid (0 < 1 + y) := Lib.hid (by omega)
        obtain ⟨fc0, fc1, fc2, ff0, ff1, ff2, flt, -⟩ := id hF6
        obtain ⟨gc0, gc1, gc2, gf0, gf1, gf2, glt, -⟩ := id hF7
        clear hlit hD5 hN6 hN7 hD7 hN5 hE5 hF5 hR5 hc5 he5 hR4 hc4 he4 hF4 HN4 hR6 hc6 he6 hR7 hc7 he7 hF6 hF7
        go_wp2_with fail
        clear fc0 fc1 fc2 ff0 ff1 ff2 flt gc0 gc1 gc2 gf0 gf1 gf2 glt
        have hF5 := hF8
        have hR5 := hR8
        have hc5 := hc8
        have he5 := he8
        have HN5 := HN8
        have HD5 := HD8
        clear hF8 hR8 hc8 he8 HN8 HD8
        generalize w5.heap.size = aL at *
        generalize ((w5.alloc (.cells #[.int .i64 (1 + (y : Int))] 3)).setCell ⟨bf, 2, none⟩ (.slice (some ⟨aL, 0, none⟩) 1 1)).setCell ⟨bf, 0, none⟩ (.bool true) = w6 at *
        refine (next_any b 2 _ (by omega) (by omega) hc5).mono ?_
        rintro e w6 ⟨z, rfl, z0, z1, hc6, he6⟩
        have hF := hF5.ex he6 (by omega)
        have hR := hR5.ex he6 (by omega)
        have hE := he5.trans he6
        have HN := Lib.hid (HN5.out.ex he6)
        have HDD := Lib.hid (HD5.out.ex he6)
        have hbs : b < w6.heap.size := hc6.lt
        clear hc5 he5 he6 hF5 hR5 HN5 HD5
        obtain ⟨fc0, fc1, fc2, ff0, ff1, ff2, flt, -⟩ := id hF
        by_cases hz : z = 1
        · subst hz
          go_wp2_with fail
          have hfr : Fra w6 (.agg #[.bool true, .slice aN (nd N).length cN, .slice (some ⟨aL, 0, none⟩) 1 1]) (rat true N (1 + y)) := ⟨true, _, _, N, (1 + y), rfl, HN.out.any, HDD.out.any, HDP.out, (fun _ => HNP.out), by omega, by omega, rfl⟩
          refine (rreduce_any _ _ hfr).mono ?_
          rintro e w7 ⟨b7, a1, a2, n1, n2, k1, k2, rfl, hred, hg7⟩
          have hF7 := hF.gr hg7
          have hR7 := hR.gr hg7
          have hred7 := hred.imp (q := (· ≠ b)) fun c hc => by omega
          have hF8 := hF7.fill b7 a1 a2 n1 n2 k1 k2
          have HRED := Lib.hid (hF7.redp b7 a1 a2 n1 n2 k1 k2 hred7)
          have hR8 := ((hR7.other (o := 0) (s := bf) (.bool b7) (by omega)).other (o := 1) (s := bf) (.slice a1 n1 k1) (by omega)).other (o := 2) (s := bf) (.slice a2 n2 k2) (by omega)
          have hc8 := (((hc6.gr hg7).set bf 0 (by omega) (by omega) (.bool b7)).set bf 1 (by omega) (by omega) (.slice a1 n1 k1)).set bf 2 (by omega) (by omega) (.slice a2 n2 k2)
          have he8 := (((hE.trans (Ex.ofGr hg7)).setNew (p := ⟨bf, 0, none⟩) (by simp; omega) (.bool b7)).setNew (p := ⟨bf, 1, none⟩) (by simp; omega) (.slice a1 n1 k1)).setNew (p := ⟨bf, 2, none⟩) (by simp; omega) (.slice a2 n2 k2)
          clear fc0 fc1 fc2 ff0 ff1 ff2 flt
          obtain ⟨fc0, fc1, fc2, ff0, ff1, ff2, flt, -⟩ := id hF7
          obtain ⟨ec0, ec1, ec2, ef0, ef1, ef2, elt, -⟩ := id hF8.1
          clear hF hR hred hred7 hfr hc6 hE hg7 hF7 hR7
          have hfl := hR8.fill b7 a1 a2 n1 n2 k1 k2
          obtain ⟨sc0, sc1, sc2, -, -, -, -, -⟩ := hfl.1
          obtain ⟨rc0, rc1, rc2, rf0, rf1, rf2, rlt, -⟩ := id hR8
          have HRED9 := Lib.hid (hR8.redp b7 a1 a2 n1 n2 k1 k2 HRED.out)
          have hbd : Bd n (rat true N (1 + y)) := bd_rat HDP.out lN hlD
          have HBD := Lib.hid hbd
          have hc9 := ((hc8.set w.heap.size 0 (by omega) (by omega) (.bool b7)).set w.heap.size 1 (by omega) (by omega) (.slice a1 n1 k1)).set w.heap.size 2 (by omega) (by omega) (.slice a2 n2 k2)
          have he9 := ((he8.setNew (p := ⟨w.heap.size, 0, none⟩) (Nat.le_refl _) (.bool b7)).setNew (p := ⟨w.heap.size, 1, none⟩) (Nat.le_refl _) (.slice a1 n1 k1)).setNew (p := ⟨w.heap.size, 2, none⟩) (Nat.le_refl _) (.slice a2 n2 k2)
          clear hbd
          go_wp2_with (fail)
          refine bodyPost_ret (v := .agg #[.bool b7, .slice a1 n1 k1, .slice a2 n2 k2]) (by simp [results, Tryz.results6, go_sem, sc0, sc1, sc2]) rfl ?_
          exact ⟨_, _, _, _, _, _, _, _, rfl, HRED9.out.fran HBD.out, HBD.out, hc9, he9⟩
        · have hz0 : z = 0 := by omega
          subst hz0
          have hfl := hR.fill true aN (some ⟨aL, 0, none⟩) (nd N).length 1 cN 1
          obtain ⟨sc0, sc1, sc2, -, -, -, -, -⟩ := hfl.1
          obtain ⟨rc0, rc1, rc2, rf0, rf1, rf2, rlt, -⟩ := id hR
          have hbd : Bd n (rat true N (1 + y)) := bd_rat HDP.out lN hlD
          have HBD := Lib.hid hbd
          have hN9 := Lib.hid (hR.fillp true aN (some ⟨aL, 0, none⟩) (nd N).length 1 cN 1 HN.out)
          have hD9 := Lib.hid (hR.fillp true aN (some ⟨aL, 0, none⟩) (nd N).length 1 cN 1 HDD.out)
          have hc9 := ((hc6.set w.heap.size 0 (by omega) (by omega) (.bool true)).set w.heap.size 1 (by omega) (by omega) (.slice aN (nd N).length cN)).set w.heap.size 2 (by omega) (by omega) (.slice (some ⟨aL, 0, none⟩) 1 1)
          have he9 := ((hE.setNew (p := ⟨w.heap.size, 0, none⟩) (Nat.le_refl _) (.bool true)).setNew (p := ⟨w.heap.size, 1, none⟩) (Nat.le_refl _) (.slice aN (nd N).length cN)).setNew (p := ⟨w.heap.size, 2, none⟩) (Nat.le_refl _) (.slice (some ⟨aL, 0, none⟩) 1 1)
          clear hbd
          go_wp2_with fail
          refine bodyPost_ret (v := .agg #[.bool true, .slice aN (nd N).length cN, .slice (some ⟨aL, 0, none⟩) 1 1]) (by simp [results, Tryz.results6, go_sem, sc0, sc1, sc2]) rfl ?_
          exact ⟨_, _, _, _, _, _, _, _, rfl, ⟨true, _, _, N, (1 + y), rfl, hN9.out, hD9.out, HDP.out, (fun _ => HNP.out), by omega, by omega, rfl⟩, HBD.out, hc9, he9⟩
    · have dN : decide (0 < (nd N).length) = false := by rw [show N = 0 by omega, nd_zero]; rfl
      clear hN0
      by_cases hD0 : 0 < D
      · have hdl : 0 < (nd D).length := by rw [nd_pos hD0]; simp
        have dD : (((nd D).length : Int) == 0) = false := by rw [beq_eq_false_iff_ne]; omega
        have HDP := Lib.hid hD0
        have hF5 := C3.new w3 (.bool false) (.slice aN (nd N).length cN) (.slice aD (nd D).length cD) 26 bf HBF.out
        have hR5 := hR3.gr (Gr.alloc (Gr.refl _) (.cells #[.bool false, .slice aN (nd N).length cN, .slice aD (nd D).length cD] 26))
        have hc5 := hc3.gr (Gr.alloc (Gr.refl _) (.cells #[.bool false, .slice aN (nd N).length cN, .slice aD (nd D).length cD] 26))
        have he5 := hE3.trans (Ex.ofGr (Gr.alloc (Gr.refl _) (.cells #[.bool false, .slice aN (nd N).length cN, .slice aD (nd D).length cD] 26)))
        have HN5 := Lib.hid (hN3.gr (Gr.alloc (Gr.refl _) (.cells #[.bool false, .slice aN (nd N).length cN, .slice aD (nd D).length cD] 26)))
        have HD5 := Lib.hid (hD.gr (Gr.alloc (Gr.refl _) (.cells #[.bool false, .slice aN (nd N).length cN, .slice aD (nd D).length cD] 26)))
        clear hD0 hdl hR3 hc3 hE3 hN3 hD
        go_wp2_with fail
        rw [← HBF.out]
        generalize w3.alloc (.cells #[.bool false, .slice aN (nd N).length cN, .slice aD (nd D).length cD] 26) = w5 at *
        refine (next_any b 2 _ (by omega) (by omega) hc5).mono ?_
        rintro e w6 ⟨z, rfl, z0, z1, hc6, he6⟩
        have hF := hF5.ex he6 (by omega)
        have hR := hR5.ex he6 (by omega)
        have hE := he5.trans he6
        have HN := Lib.hid (HN5.out.ex he6)
        have HDD := Lib.hid (HD5.out.ex he6)
        have hbs : b < w6.heap.size := hc6.lt
        clear hc5 he5 he6 hF5 hR5 HN5 HD5
        obtain ⟨fc0, fc1, fc2, ff0, ff1, ff2, flt, -⟩ := id hF
        by_cases hz : z = 1
        · subst hz
          go_wp2_with fail
          have hfr : Fra w6 (.agg #[.bool false, .slice aN (nd N).length cN, .slice aD (nd D).length cD]) (rat false N D) := ⟨false, _, _, N, D, rfl, HN.out.any, HDD.out.any, HDP.out, (fun h => by cases h), by omega, by omega, rfl⟩
          refine (rreduce_any _ _ hfr).mono ?_
          rintro e w7 ⟨b7, a1, a2, n1, n2, k1, k2, rfl, hred, hg7⟩
          have hF7 := hF.gr hg7
          have hR7 := hR.gr hg7
          have hred7 := hred.imp (q := (· ≠ b)) fun c hc => by omega
          have hF8 := hF7.fill b7 a1 a2 n1 n2 k1 k2
          have HRED := Lib.hid (hF7.redp b7 a1 a2 n1 n2 k1 k2 hred7)
          have hR8 := ((hR7.other (o := 0) (s := bf) (.bool b7) (by omega)).other (o := 1) (s := bf) (.slice a1 n1 k1) (by omega)).other (o := 2) (s := bf) (.slice a2 n2 k2) (by omega)
          have hc8 := (((hc6.gr hg7).set bf 0 (by omega) (by omega) (.bool b7)).set bf 1 (by omega) (by omega) (.slice a1 n1 k1)).set bf 2 (by omega) (by omega) (.slice a2 n2 k2)
          have he8 := (((hE.trans (Ex.ofGr hg7)).setNew (p := ⟨bf, 0, none⟩) (by simp; omega) (.bool b7)).setNew (p := ⟨bf, 1, none⟩) (by simp; omega) (.slice a1 n1 k1)).setNew (p := ⟨bf, 2, none⟩) (by simp; omega) (.slice a2 n2 k2)
          clear fc0 fc1 fc2 ff0 ff1 ff2 flt
          obtain ⟨fc0, fc1, fc2, ff0, ff1, ff2, flt, -⟩ := id hF7
          obtain ⟨ec0, ec1, ec2, ef0, ef1, ef2, elt, -⟩ := id hF8.1
          clear hF hR hred hred7 hfr hc6 hE hg7 hF7 hR7
          have hfl := hR8.fill b7 a1 a2 n1 n2 k1 k2
          obtain ⟨sc0, sc1, sc2, -, -, -, -, -⟩ := hfl.1
          obtain ⟨rc0, rc1, rc2, rf0, rf1, rf2, rlt, -⟩ := id hR8
          have HRED9 := Lib.hid (hR8.redp b7 a1 a2 n1 n2 k1 k2 HRED.out)
          have hbd : Bd n (rat false N D) := bd_rat HDP.out lN hlD
          have HBD := Lib.hid hbd
          have hc9 := ((hc8.set w.heap.size 0 (by omega) (by omega) (.bool b7)).set w.heap.size 1 (by omega) (by omega) (.slice a1 n1 k1)).set w.heap.size 2 (by omega) (by omega) (.slice a2 n2 k2)
          have he9 := ((he8.setNew (p := ⟨w.heap.size, 0, none⟩) (Nat.le_refl _) (.bool b7)).setNew (p := ⟨w.heap.size, 1, none⟩) (Nat.le_refl _) (.slice a1 n1 k1)).setNew (p := ⟨w.heap.size, 2, none⟩) (Nat.le_refl _) (.slice a2 n2 k2)
          clear hbd
          go_wp2_with (fail)
          refine bodyPost_ret (v := .agg #[.bool b7, .slice a1 n1 k1, .slice a2 n2 k2]) (by simp [results, Tryz.results6, go_sem, sc0, sc1, sc2]) rfl ?_
          exact ⟨_, _, _, _, _, _, _, _, rfl, HRED9.out.fran HBD.out, HBD.out, hc9, he9⟩
        · have hz0 : z = 0 := by omega
          subst hz0
          have hfl := hR.fill false aN aD (nd N).length (nd D).length cN cD
          obtain ⟨sc0, sc1, sc2, -, -, -, -, -⟩ := hfl.1
          obtain ⟨rc0, rc1, rc2, rf0, rf1, rf2, rlt, -⟩ := id hR
          have hbd : Bd n (rat false N D) := bd_rat HDP.out lN hlD
          have HBD := Lib.hid hbd
          have hN9 := Lib.hid (hR.fillp false aN aD (nd N).length (nd D).length cN cD HN.out)
          have hD9 := Lib.hid (hR.fillp false aN aD (nd N).length (nd D).length cN cD HDD.out)
          have hc9 := ((hc6.set w.heap.size 0 (by omega) (by omega) (.bool false)).set w.heap.size 1 (by omega) (by omega) (.slice aN (nd N).length cN)).set w.heap.size 2 (by omega) (by omega) (.slice aD (nd D).length cD)
          have he9 := ((hE.setNew (p := ⟨w.heap.size, 0, none⟩) (Nat.le_refl _) (.bool false)).setNew (p := ⟨w.heap.size, 1, none⟩) (Nat.le_refl _) (.slice aN (nd N).length cN)).setNew (p := ⟨w.heap.size, 2, none⟩) (Nat.le_refl _) (.slice aD (nd D).length cD)
          clear hbd
          go_wp2_with fail
          refine bodyPost_ret (v := .agg #[.bool false, .slice aN (nd N).length cN, .slice aD (nd D).length cD]) (by simp [results, Tryz.results6, go_sem, sc0, sc1, sc2]) rfl ?_
          exact ⟨_, _, _, _, _, _, _, _, rfl, ⟨false, _, _, N, D, rfl, hN9.out, hD9.out, HDP.out, (fun h => by cases h), by omega, by omega, rfl⟩, HBD.out, hc9, he9⟩
      · have dD : (((nd D).length : Int) == 0) = true := by rw [show D = 0 by omega, nd_zero]; rfl
        have hF4 := C3.new w3 (.bool true) (.slice aN (nd N).length cN) (.slice aD (nd D).length cD) 26 bf HBF.out
        have hR4 := hR3.gr (Gr.alloc (Gr.refl _) (.cells #[.bool true, .slice aN (nd N).length cN, .slice aD (nd D).length cD] 26))
        have hc4 := hc3.gr (Gr.alloc (Gr.refl _) (.cells #[.bool true, .slice aN (nd N).length cN, .slice aD (nd D).length cD] 26))
        have he4 := hE3.trans (Ex.ofGr (Gr.alloc (Gr.refl _) (.cells #[.bool true, .slice aN (nd N).length cN, .slice aD (nd D).length cD] 26)))
        have HN4 := Lib.hid (hN3.gr (Gr.alloc (Gr.refl _) (.cells #[.bool true, .slice aN (nd N).length cN, .slice aD (nd D).length cD] 26)))
        clear hD0 hR3 hc3 hE3 hN3 hD
        go_wp2_with fail
        rw [← HBF.out]
        generalize w3.alloc (.cells #[.bool true, .slice aN (nd N).length cN, .slice aD (nd D).length cD] 26) = w4 at *
        refine (next_any b 12 _ (by omega) (by omega) hc4).mono ?_
        rintro e w5 ⟨y, rfl, y0, y1, hc5, he5⟩
        obtain ⟨y, rfl⟩ := Int.eq_ofNat_of_zero_le y0
        have hF5 := hF4.ex he5 (by omega)
        have hR5 := hR4.ex he5 (by omega)
        have hE5 := he4.trans he5
        have hN5 := HN4.out.ex he5
        have hbl5 : b < w5.heap.size := hc5.lt
        have hlit := num_lit w5 (1 + y) (1 + (y : Int)) (by omega) (by omega) (by omega)
        have hD5 : Rd (· ≠ b) (w5.alloc (.cells #[.int .i64 (1 + (y : Int))] 3)) (.slice (some ⟨w5.heap.size, 0, none⟩) 1 1) (nd (1 + y)) := by
          obtain ⟨a, c, e, h1, h2, H⟩ := hlit
          refine ⟨a, c, e, h1, h2, fun i hi => ?_⟩
          obtain ⟨k, off, ea, -, hc⟩ := H i hi
          refine ⟨k, off, ea, ?_, hc⟩
          rw [ea] at e
          simp only [Value.slice.injEq, Option.some.injEq, Addr.mk.injEq] at e
          omega
        have hF6 := hF5.gr (Gr.alloc (Gr.refl _) (.cells #[.int .i64 (1 + (y : Int))] 3))
        have hR6 := hR5.gr (Gr.alloc (Gr.refl _) (.cells #[.int .i64 (1 + (y : Int))] 3))
        have hc6 := hc5.gr (Gr.alloc (Gr.refl _) (.cells #[.int .i64 (1 + (y : Int))] 3))
        have he6 := hE5.alloc (.cells #[.int .i64 (1 + (y : Int))] 3)
        have hN6 := hN5.gr (Gr.alloc (Gr.refl _) (.cells #[.int .i64 (1 + (y : Int))] 3))
        have hs6 : (w5.alloc (.cells #[.int .i64 (1 + (y : Int))] 3)).heap.size = w5.heap.size + 1 := by simp
        have hF7 := hF6.set2 (.slice (some ⟨w5.heap.size, 0, none⟩) 1 1)
        have hR7 := hR6.other (o := 2) (s := bf) (.slice (some ⟨w5.heap.size, 0, none⟩) 1 1) (by omega)
        have hc7 := hc6.set bf 2 (by omega) (by omega) (.slice (some ⟨w5.heap.size, 0, none⟩) 1 1)
        have he7 := he6.setNew (p := ⟨bf, 2, none⟩) (by simp; omega) (.slice (some ⟨w5.heap.size, 0, none⟩) 1 1)
        have hN7 := hF6.rdp (o := 2) hN6 (.slice (some ⟨w5.heap.size, 0, none⟩) 1 1)
        have hD7 := hF6.rdp (o := 2) hD5 (.slice (some ⟨w5.heap.size, 0, none⟩) 1 1)
        have hF8 := hF7.set0 (.bool false)
        have hR8 := hR7.other (o := 0) (s := bf) (.bool false) (by omega)
        have hc8 := hc7.set bf 0 (by omega) (by omega) (.bool false)
        have he8 := he7.setNew (p := ⟨bf, 0, none⟩) (by simp; omega) (.bool false)
        have HN8 := Lib.hid (hF7.rdp (o := 0) hN7 (.bool false))
        have HD8 := Lib.hid (hF7.rdp (o := 0) hD7 (.bool false))
        have hlD : (nd (1 + y)).length ≤ n := by have := (nd_len (1 + y) 1).2 (by omega); omega
        have HDP : Hid (0 < 1 + y) := Lib.hid (by omega)
        obtain ⟨fc0, fc1, fc2, ff0, ff1, ff2, flt, -⟩ := id hF6
        obtain ⟨gc0, gc1, gc2, gf0, gf1, gf2, glt, -⟩ := id hF7
        clear hlit hD5 hN6 hN7 hD7 hN5 hE5 hF5 hR5 hc5 he5 hR4 hc4 he4 hF4 HN4 hR6 hc6 he6 hR7 hc7 he7 hF6 hF7
        go_wp2_with fail
        clear fc0 fc1 fc2 ff0 ff1 ff2 flt gc0 gc1 gc2 gf0 gf1 gf2 glt
        have hF5 := hF8
        have hR5 := hR8
        have hc5 := hc8
        have he5 := he8
        have HN5 := HN8
        have HD5 := HD8
        clear hF8 hR8 hc8 he8 HN8 HD8
        generalize w5.heap.size = aL at *
        generalize ((w5.alloc (.cells #[.int .i64 (1 + (y : Int))] 3)).setCell ⟨bf, 2, none⟩ (.slice (some ⟨aL, 0, none⟩) 1 1)).setCell ⟨bf, 0, none⟩ (.bool false) = w6 at *
        refine (next_any b 2 _ (by omega) (by omega) hc5).mono ?_
        rintro e w6 ⟨z, rfl, z0, z1, hc6, he6⟩
        have hF := hF5.ex he6 (by omega)
        have hR := hR5.ex he6 (by omega)
        have hE := he5.trans he6
        have HN := Lib.hid (HN5.out.ex he6)
        have HDD := Lib.hid (HD5.out.ex he6)
        have hbs : b < w6.heap.size := hc6.lt
        clear hc5 he5 he6 hF5 hR5 HN5 HD5
        obtain ⟨fc0, fc1, fc2, ff0, ff1, ff2, flt, -⟩ := id hF
        by_cases hz : z = 1
        · subst hz
          go_wp2_with fail
          have hfr : Fra w6 (.agg #[.bool false, .slice aN (nd N).length cN, .slice (some ⟨aL, 0, none⟩) 1 1]) (rat false N (1 + y)) := ⟨false, _, _, N, (1 + y), rfl, HN.out.any, HDD.out.any, HDP.out, (fun h => by cases h), by omega, by omega, rfl⟩
          refine (rreduce_any _ _ hfr).mono ?_
          rintro e w7 ⟨b7, a1, a2, n1, n2, k1, k2, rfl, hred, hg7⟩
          have hF7 := hF.gr hg7
          have hR7 := hR.gr hg7
          have hred7 := hred.imp (q := (· ≠ b)) fun c hc => by omega
          have hF8 := hF7.fill b7 a1 a2 n1 n2 k1 k2
          have HRED := Lib.hid (hF7.redp b7 a1 a2 n1 n2 k1 k2 hred7)
          have hR8 := ((hR7.other (o := 0) (s := bf) (.bool b7) (by omega)).other (o := 1) (s := bf) (.slice a1 n1 k1) (by omega)).other (o := 2) (s := bf) (.slice a2 n2 k2) (by omega)
          have hc8 := (((hc6.gr hg7).set bf 0 (by omega) (by omega) (.bool b7)).set bf 1 (by omega) (by omega) (.slice a1 n1 k1)).set bf 2 (by omega) (by omega) (.slice a2 n2 k2)
          have he8 := (((hE.trans (Ex.ofGr hg7)).setNew (p := ⟨bf, 0, none⟩) (by simp; omega) (.bool b7)).setNew (p := ⟨bf, 1, none⟩) (by simp; omega) (.slice a1 n1 k1)).setNew (p := ⟨bf, 2, none⟩) (by simp; omega) (.slice a2 n2 k2)
          clear fc0 fc1 fc2 ff0 ff1 ff2 flt
          obtain ⟨fc0, fc1, fc2, ff0, ff1, ff2, flt, -⟩ := id hF7
          obtain ⟨ec0, ec1, ec2, ef0, ef1, ef2, elt, -⟩ := id hF8.1
          clear hF hR hred hred7 hfr hc6 hE hg7 hF7 hR7
          have hfl := hR8.fill b7 a1 a2 n1 n2 k1 k2
          obtain ⟨sc0, sc1, sc2, -, -, -, -, -⟩ := hfl.1
          obtain ⟨rc0, rc1, rc2, rf0, rf1, rf2, rlt, -⟩ := id hR8
          have HRED9 := Lib.hid (hR8.redp b7 a1 a2 n1 n2 k1 k2 HRED.out)
          have hbd : Bd n (rat false N (1 + y)) := bd_rat HDP.out lN hlD
          have HBD := Lib.hid hbd
          have hc9 := ((hc8.set w.heap.size 0 (by omega) (by omega) (.bool b7)).set w.heap.size 1 (by omega) (by omega) (.slice a1 n1 k1)).set w.heap.size 2 (by omega) (by omega) (.slice a2 n2 k2)
          have he9 := ((he8.setNew (p := ⟨w.heap.size, 0, none⟩) (Nat.le_refl _) (.bool b7)).setNew (p := ⟨w.heap.size, 1, none⟩) (Nat.le_refl _) (.slice a1 n1 k1)).setNew (p := ⟨w.heap.size, 2, none⟩) (Nat.le_refl _) (.slice a2 n2 k2)
          clear hbd
          go_wp2_with (fail)
          refine bodyPost_ret (v := .agg #[.bool b7, .slice a1 n1 k1, .slice a2 n2 k2]) (by simp [results, Tryz.results6, go_sem, sc0, sc1, sc2]) rfl ?_
          exact ⟨_, _, _, _, _, _, _, _, rfl, HRED9.out.fran HBD.out, HBD.out, hc9, he9⟩
        · have hz0 : z = 0 := by omega
          subst hz0
          have hfl := hR.fill false aN (some ⟨aL, 0, none⟩) (nd N).length 1 cN 1
          obtain ⟨sc0, sc1, sc2, -, -, -, -, -⟩ := hfl.1
          obtain ⟨rc0, rc1, rc2, rf0, rf1, rf2, rlt, -⟩ := id hR
          have hbd : Bd n (rat false N (1 + y)) := bd_rat HDP.out lN hlD
          have HBD := Lib.hid hbd
          have hN9 := Lib.hid (hR.fillp false aN (some ⟨aL, 0, none⟩) (nd N).length 1 cN 1 HN.out)
          have hD9 := Lib.hid (hR.fillp false aN (some ⟨aL, 0, none⟩) (nd N).length 1 cN 1 HDD.out)
          have hc9 := ((hc6.set w.heap.size 0 (by omega) (by omega) (.bool false)).set w.heap.size 1 (by omega) (by omega) (.slice aN (nd N).length cN)).set w.heap.size 2 (by omega) (by omega) (.slice (some ⟨aL, 0, none⟩) 1 1)
          have he9 := ((hE.setNew (p := ⟨w.heap.size, 0, none⟩) (Nat.le_refl _) (.bool false)).setNew (p := ⟨w.heap.size, 1, none⟩) (Nat.le_refl _) (.slice aN (nd N).length cN)).setNew (p := ⟨w.heap.size, 2, none⟩) (Nat.le_refl _) (.slice (some ⟨aL, 0, none⟩) 1 1)
          clear hbd
          go_wp2_with fail
          refine bodyPost_ret (v := .agg #[.bool false, .slice aN (nd N).length cN, .slice (some ⟨aL, 0, none⟩) 1 1]) (by simp [results, Tryz.results6, go_sem, sc0, sc1, sc2]) rfl ?_
          exact ⟨_, _, _, _, _, _, _, _, rfl, ⟨false, _, _, N, (1 + y), rfl, hN9.out, hD9.out, HDP.out, (fun h => by cases h), by omega, by omega, rfl⟩, HBD.out, hc9, he9⟩
theorem frac_any {B : Nat} (b n : Nat) (w : World) (h : Cod B w b) (hBw : B ≤ w.heap.size) (hn0 : 1 ≤ n) (hn : n ≤ 60) :
    Calls Tryz.prog 6 #[.pointer (some ⟨b, 0, none⟩), .int .i64 n] w (FrPost B b n w) :=
  (frac_n b n w h hBw hn0 hn).mono fun _ _ ⟨x, a1, a2, n1, n2, c1, c2, r, h1, h2, h3⟩ => ⟨x, a1, a2, n1, n2, c1, c2, r, h1, h2.mono (by omega), h3⟩
end Go.Proofs.YtjpjnbgfodlkcaaGreatDoor
