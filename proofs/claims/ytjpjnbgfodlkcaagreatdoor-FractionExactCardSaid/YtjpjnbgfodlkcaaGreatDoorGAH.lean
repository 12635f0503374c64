/- Several texts in one. -/
import Derived.Test.YtjpjnbgfodlkcaaGreatDoorGAG
import Derived.Test.YtjpjnbgfodlkcaaGreatDoorGAB
import Derived.WalkKit
import Derived.WalkSpells
import Derived.WalkLawsBesides
import Derived.WalkSmall
import Derived.Handy
import Derived.BigQuiet
import Derived.Deep.QuietTactic
import Derived.Deep.RegionHeld3
import Derived.Deep.DeepFit
import Derived.Below
import Derived.Lib.Hide
import Derived.Lib.QuietBelow
import Derived.Deep.DeepCutAuto
import Derived.Test.YtjpjnbgfodlkcaaGreatDoorGAA
/- Same of the document. -/
namespace Go.Proofs.YtjpjnbgfodlkcaaGreatDoor
open Go Go.RowKit Go.Sort
set_option maxRecDepth 100000
set_option linter.unusedVariables false
/-- Same, at equal lists and at numbers -/
theorem same_yes {p q : Nat → Prop} {l : List Nat} (va vb : Value) (w : World) (hA : Rd p w va l) (hB : Rd q w vb l) (hl : l.length ≤ 1000000) :
    Calls Tryz.prog 54 #[va, vb] w fun e w' => e = .returned (.bool true) ∧ Gr w w' := by
  obtain ⟨aa, acap, rfl, -, -, hA⟩ := hA
  obtain ⟨ab, bcap, rfl, -, -, hB⟩ := hB
  have HA := Lib.hid hA
  have HB := Lib.hid hB
  clear hA hB
  have d : ((l.length : Int) != (l.length : Int)) = false := by simp
  go_enter Tryz.func54, Tryz.ntmps54
  go_wp2
  go_loopw [5] (fun s wr => ∃ k : Nat, s = .int .i64 k ∧ k ≤ l.length ∧ Gr w wr) (fun s _ => l.length - (intOf s).toNat)
  case atStart => exact ⟨0, rfl, Nat.zero_le _, Gr.refl _⟩
  case round =>
    obtain ⟨k, rfl, hk, hg⟩ := hrel
    by_cases hlt : k < l.length
    · obtain ⟨ba, oa, rfl, -, ha⟩ := HA.out k hlt
      obtain ⟨bb, ob, rfl, -, hb⟩ := HB.out k hlt
      have ha2 : wr.cell? ⟨ba, oa + k, none⟩ = some (.int .i64 (l.getD k 0 : Nat)) := by rw [(Gr.cells hg).1 _ _ (World.block_lt_of_cell? _ _ ha)]; exact ha
      have hb2 : wr.cell? ⟨bb, ob + k, none⟩ = some (.int .i64 (l.getD k 0 : Nat)) := by rw [(Gr.cells hg).1 _ _ (World.block_lt_of_cell? _ _ hb)]; exact hb
      clear ha hb
      generalize l.getD k 0 = x at *
      have d2 : ((x : Int) != (x : Int)) = false := by simp
      have k0 : (0 : Int) ≤ (k : Int) := by omega
      have k1 : (k : Int) < (l.length : Int) := by omega
      go_wp2_with fail
      go_quiet (fail)
      go_wp2_with fail
      go_roundw
      case rel => exact ⟨k + 1, by go_num, by omega, (by repeat' (first | (with_reducible exact Gr.refl _) | (with_reducible assumption) | (with_reducible refine Gr.drewN ?_ _) | (with_reducible refine Gr.drew ?_) | (with_reducible refine Gr.alloc ?_ _) | (with_reducible refine Gr.setCell ?_ ?_ _) | (with_reducible refine Gr.grow ?_ _ _) | (refine Gr.step ?_ (by with_reducible assumption)) | go_size))⟩
      case measure => simp [intOf]; omega
    · obtain rfl : k = l.length := by omega
      go_wp2_with fail
      go_ret
      exact ⟨rfl, hg⟩
theorem num_same {A B : Nat} {p q : Nat → Prop} (va vb : Value) (w : World) (hA : Rd p w va (nd A)) (hB : Rd q w vb (nd B)) (hAB : A = B) (hl : (nd A).length ≤ 1000000) :
    Calls Tryz.prog 54 #[va, vb] w fun e w' => e = .returned (.bool true) ∧ Gr w w' := by
  subst hAB; exact same_yes va vb w hA hB hl
theorem same_no {A B : Nat} {p q : Nat → Prop} (va vb : Value) (w : World) (hA : Rd p w va (nd A)) (hB : Rd q w vb (nd B)) (hne : A ≠ B) (hl : (nd A).length ≤ 1000000) :
    Calls Tryz.prog 54 #[va, vb] w fun e w' => e = .returned (.bool false) ∧ Gr w w' := by
  obtain ⟨aa, acap, rfl, -, -, hA⟩ := hA
  obtain ⟨ab, bcap, rfl, -, -, hB⟩ := hB
  have HA := Lib.hid hA
  have HB := Lib.hid hB
  have HNE := Lib.hid hne
  clear hA hB hne
  by_cases hL : (nd A).length = (nd B).length
  · have HL := Lib.hid hL
    have d : (((nd A).length : Int) != ((nd B).length : Int)) = false := by simp [hL]
    clear hL
    go_enter Tryz.func54, Tryz.ntmps54
    go_wp2
    go_loopw [5] (fun s wr => ∃ k : Nat, s = .int .i64 k ∧ k ≤ (nd A).length ∧ (∀ i, i < k → (nd A).getD i 0 = (nd B).getD i 0) ∧ Gr w wr) (fun s _ => (nd A).length - (intOf s).toNat)
    case atStart => exact ⟨0, rfl, Nat.zero_le _, fun i hi => by omega, Gr.refl _⟩
    case round =>
      obtain ⟨k, rfl, hk, he, hg⟩ := hrel
      have HE := Lib.hid he
      clear he
      by_cases hlt : k < (nd A).length
      · obtain ⟨ba, oa, rfl, -, ha⟩ := HA.out k hlt
        obtain ⟨bb, ob, rfl, -, hb⟩ := HB.out k (by rw [← HL.out]; exact hlt)
        have ha2 : wr.cell? ⟨ba, oa + k, none⟩ = some (.int .i64 ((nd A).getD k 0 : Nat)) := by rw [(Gr.cells hg).1 _ _ (World.block_lt_of_cell? _ _ ha)]; exact ha
        have hb2 : wr.cell? ⟨bb, ob + k, none⟩ = some (.int .i64 ((nd B).getD k 0 : Nat)) := by rw [(Gr.cells hg).1 _ _ (World.block_lt_of_cell? _ _ hb)]; exact hb
        have k2 : k < (nd B).length := by rw [← HL.out]; exact hlt
        clear ha hb
        by_cases hxy : (nd A).getD k 0 = (nd B).getD k 0
        · have HXY := Lib.hid hxy
          rw [← hxy] at hb2
          clear hxy
          generalize (nd A).getD k 0 = x at ha2 hb2
          have d2 : ((x : Int) != (x : Int)) = false := by simp
          have k0 : (0 : Int) ≤ (k : Int) := by omega
          have k1 : (k : Int) < ((nd A).length : Int) := by omega
          have k3 : (k : Int) < ((nd B).length : Int) := by omega
          go_wp2_with fail
          go_quiet (fail)
          go_wp2_with fail
          go_roundw
          case rel =>
            refine ⟨k + 1, by go_num, by omega, fun i hi => ?_, (by repeat' (first | (with_reducible exact Gr.refl _) | (with_reducible assumption) | (with_reducible refine Gr.drewN ?_ _) | (with_reducible refine Gr.drew ?_) | (with_reducible refine Gr.alloc ?_ _) | (with_reducible refine Gr.setCell ?_ ?_ _) | (with_reducible refine Gr.grow ?_ _ _) | (refine Gr.step ?_ (by with_reducible assumption)) | go_size))⟩
            rcases Nat.lt_or_ge i k with h | h
            · exact HE.out i h
            · obtain rfl : i = k := by omega
              exact HXY.out
          case measure => simp [intOf]; omega
        · generalize (nd A).getD k 0 = x at ha2 hxy
          generalize (nd B).getD k 0 = y at hb2 hxy
          have d2 : ((x : Int) != (y : Int)) = true := by simp; omega
          have k0 : (0 : Int) ≤ (k : Int) := by omega
          have k1 : (k : Int) < ((nd A).length : Int) := by omega
          have k3 : (k : Int) < ((nd B).length : Int) := by omega
          clear hxy
          go_wp2_with fail
          go_quiet (fail)
          go_wp2_with fail
          go_ret
          exact ⟨rfl, (by repeat' (first | (with_reducible exact Gr.refl _) | (with_reducible assumption) | (with_reducible refine Gr.drewN ?_ _) | (with_reducible refine Gr.drew ?_) | (with_reducible refine Gr.alloc ?_ _) | (with_reducible refine Gr.setCell ?_ ?_ _) | (with_reducible refine Gr.grow ?_ _ _) | (refine Gr.step ?_ (by with_reducible assumption)) | go_size))⟩
      · exact absurd (nd_ext HL.out fun i hi => HE.out i (by omega)) HNE.out
  · have d : (((nd A).length : Int) != ((nd B).length : Int)) = true := by simp; omega
    go_enter Tryz.func54, Tryz.ntmps54
    go_wp2
    go_ret
    exact ⟨rfl, Gr.refl _⟩
end Go.Proofs.YtjpjnbgfodlkcaaGreatDoor
/- Sub, Reduce, Same. -/
namespace Go.Proofs.YtjpjnbgfodlkcaaGreatDoor
open Go Go.RowKit Go.Sort
set_option maxRecDepth 100000
set_option linter.unusedVariables false
set_option maxHeartbeats 2000000 in
theorem fsub_any {a b : Rat} (v u : Value) (w : World) (ha : Fra w v a) (hb : Fra w u b) :
    Calls Tryz.prog 10 #[v, u] w (FRes w (a - b)) := by
  obtain ⟨x, va, vb, A, B, rfl, hA, hB, hB0, hx, lA, lB, rfl⟩ := ha
  obtain ⟨y, vc, vd, C, D, rfl, hC, hD, hD0, hy, lC, lD, rfl⟩ := hb
  rw [Rat.sub_eq_add_neg, rat_opp hy]
  have hz : ∃ z : Bool, (!y && decide (0 < C)) = z := ⟨_, rfl⟩
  obtain ⟨z, hz⟩ := hz
  rw [hz]
  have HZ := Lib.hid hz
  clear hz
  cases y
  · by_cases h0 : 0 < C
    · obtain rfl : z = true := by rw [← HZ.out, decide_eq_true h0]; rfl
      have hnl : 0 < (nd C).length := by rw [nd_pos h0]; simp
      have d2 : decide (0 < (nd C).length) = true := by simpa using hnl
      have HNP := Lib.hid h0
      clear h0 hnl
      have HA := Lib.hid hA
      have HB := Lib.hid hB
      have HC := Lib.hid hC
      have HD := Lib.hid hD
      obtain ⟨aa, ca, rfl⟩ := num_slice hA
      obtain ⟨ab, cb, rfl⟩ := num_slice hB
      obtain ⟨ac, cc, rfl⟩ := num_slice hC
      obtain ⟨ad, cd, rfl⟩ := num_slice hD
      clear hA hB hC hD
      have hX0 := C3.new w (.bool x) (.slice aa (nd A).length ca) (.slice ab (nd B).length cb) 26 w.heap.size rfl
      have hX1 := hX0.gr (Gr.alloc (Gr.refl _) (.cells #[.bool false, .slice ac (nd C).length cc, .slice ad (nd D).length cd] 26))
      have hY1 := C3.new (w.alloc (.cells #[.bool x, .slice aa (nd A).length ca, .slice ab (nd B).length cb] 26)) (.bool false) (.slice ac (nd C).length cc) (.slice ad (nd D).length cd) 26 (w.heap.size + 1) (by simp)
      have hG1 : Gr w ((w.alloc (.cells #[.bool x, .slice aa (nd A).length ca, .slice ab (nd B).length cb] 26)).alloc (.cells #[.bool false, .slice ac (nd C).length cc, .slice ad (nd D).length cd] 26)) := (Gr.alloc (Gr.refl _) _).alloc _
      have HB0 := Lib.hid hB0
      have HD0 := Lib.hid hD0
      have HX := Lib.hid hx
      have HY := Lib.hid hy
      have HBD := Lib.hid (Nat.mul_pos hB0 hD0)
      have lp : (nd (A * D)).length ≤ 128 := by have := nd_mul' lA lD; omega
      have lq : (nd (C * B)).length ≤ 128 := by have := nd_mul' lC lB; omega
      have lr : (nd (B * D)).length ≤ 256 := by have := nd_mul' lB lD; omega
      clear hB0 hD0 hx hy
      go_enter Tryz.func10, Tryz.ntmps10
      go_wp2_with fail
      clear hX0
      have hsz : ((w.alloc (.cells #[.bool x, .slice aa (nd A).length ca, .slice ab (nd B).length cb] 26)).alloc (.cells #[.bool false, .slice ac (nd C).length cc, .slice ad (nd D).length cd] 26)).heap.size = w.heap.size + 1 + 1 := by simp
      generalize (w.alloc (.cells #[.bool x, .slice aa (nd A).length ca, .slice ab (nd B).length cb] 26)).alloc (.cells #[.bool false, .slice ac (nd C).length cc, .slice ad (nd D).length cd] 26) = W1 at *
      have hR := C3.new W1 (.bool false) (.slice none 0 0) (.slice none 0 0) 26 (w.heap.size + 1 + 1) hsz.symm
      have hX := hX1.gr (Gr.alloc (Gr.refl _) (.cells #[.bool false, .slice none 0 0, .slice none 0 0] 26))
      have hY := hY1.gr (Gr.alloc (Gr.refl _) (.cells #[.bool false, .slice none 0 0, .slice none 0 0] 26))
      have hG := hG1.alloc (.cells #[.bool false, .slice none 0 0, .slice none 0 0] 26)
      clear hX1 hY1 hG1 hsz
      generalize W1.alloc (.cells #[.bool false, .slice none 0 0, .slice none 0 0] 26) = W0 at *
      obtain ⟨xc0, xc1, xc2, -, -, -, -, -⟩ := id hX
      obtain ⟨yc0, yc1, yc2, -, -, -, -, -⟩ := id hY
      refine (fvalid_yes false _ _ _ (HC.out.gr hG) (HD.out.gr hG) HD0.out (fun h => by cases h) lC lD).mono ?_
      rintro e w1 ⟨rfl, hg⟩
      replace hR := hR.gr hg
      replace hX := hX.gr hg
      replace hY := hY.gr hg
      replace hG := hG.step hg
      clear xc0 xc1 xc2 yc0 yc1 yc2 hg
      obtain ⟨xc0, xc1, xc2, -, -, -, -, -⟩ := id hX
      obtain ⟨yc0, yc1, yc2, -, -, -, -, -⟩ := id hY
      have hY2 := hY.set0 (.bool true)
      have hX2 := hX.other (o := 0) (.bool true) (s := w.heap.size + 1) (by omega)
      have hR2 := hR.other (o := 0) (.bool true) (s := w.heap.size + 1) (by omega)
      obtain ⟨-, -, -, yf0, yf1, yf2, ylt, -⟩ := id hY
      obtain ⟨zc0, zc1, zc2, -, -, -, -, -⟩ := id hY2
      obtain ⟨qc0, qc1, qc2, -, -, -, -, -⟩ := id hX2
      have hG2 := hG.setCell (p := ⟨w.heap.size + 1, 0, none⟩) (by simp) (.bool true)
      go_wp2_with fail
      clear xc0 xc1 xc2 yc0 yc1 yc2 yf0 yf1 yf2 ylt
      generalize w1.setCell ⟨w.heap.size + 1, 0, none⟩ (.bool true) = w2 at *
      have fa : Fra w2 (.agg #[.bool x, .slice aa (nd A).length ca, .slice ab (nd B).length cb]) (rat x A B) := ⟨x, _, _, A, B, rfl, HA.out.gr hG2, HB.out.gr hG2, HB0.out, HX.out, lA, lB, rfl⟩
      have fb : Fra w2 (.agg #[.bool true, .slice ac (nd C).length cc, .slice ad (nd D).length cd]) (rat true C D) := ⟨true, _, _, C, D, rfl, HC.out.gr hG2, HD.out.gr hG2, HD0.out, (fun _ => HNP.out), lC, lD, rfl⟩
      refine (fadd_any _ _ _ fa fb).mono ?_
      intro e w5 hres
      have hR := hR2
      have hG := hG2
      obtain ⟨b, a1, a2, n1, n2, c1, c2, er, rfl, hres, hg⟩ := hres.form
      have HRES := Lib.hid hres
      replace hR := hR.gr hg
      replace hG := hG.step hg
      have hfl := hR.fill b a1 a2 n1 n2 c1 c2
      obtain ⟨sc0, sc1, sc2, -, -, -, -, -⟩ := hfl.1
      obtain ⟨rc0, rc1, rc2, rf0, rf1, rf2, rlt, -⟩ := id hR
      clear hres hg
      go_wp2_with fail
      refine bodyPost_ret (v := .tuple #[.agg #[.bool b, .slice a1 n1 c1, .slice a2 n2 c2], .int .i64 er]) (by simp [results, Tryz.results10, go_sem, sc0, sc1, sc2]) rfl ?_
      exact ⟨_, er, rfl, HRES.out.imp (fun h => ⟨h.1, h.2.1, hR.red b a1 a2 n1 n2 c1 c2 h.2.2⟩) id, C3.three hG (by omega) _ _ _⟩
    · obtain rfl : z = false := by rw [← HZ.out, decide_eq_false h0]; rfl
      have hnl : (nd C).length = 0 := by rw [show C = 0 by omega, nd_zero]; rfl
      have d2 : decide (0 < (nd C).length) = false := by rw [hnl]; rfl
      clear h0 hnl
      have HA := Lib.hid hA
      have HB := Lib.hid hB
      have HC := Lib.hid hC
      have HD := Lib.hid hD
      obtain ⟨aa, ca, rfl⟩ := num_slice hA
      obtain ⟨ab, cb, rfl⟩ := num_slice hB
      obtain ⟨ac, cc, rfl⟩ := num_slice hC
      obtain ⟨ad, cd, rfl⟩ := num_slice hD
      clear hA hB hC hD
      have hX0 := C3.new w (.bool x) (.slice aa (nd A).length ca) (.slice ab (nd B).length cb) 26 w.heap.size rfl
      have hX1 := hX0.gr (Gr.alloc (Gr.refl _) (.cells #[.bool false, .slice ac (nd C).length cc, .slice ad (nd D).length cd] 26))
      have hY1 := C3.new (w.alloc (.cells #[.bool x, .slice aa (nd A).length ca, .slice ab (nd B).length cb] 26)) (.bool false) (.slice ac (nd C).length cc) (.slice ad (nd D).length cd) 26 (w.heap.size + 1) (by simp)
      have hG1 : Gr w ((w.alloc (.cells #[.bool x, .slice aa (nd A).length ca, .slice ab (nd B).length cb] 26)).alloc (.cells #[.bool false, .slice ac (nd C).length cc, .slice ad (nd D).length cd] 26)) := (Gr.alloc (Gr.refl _) _).alloc _
      have HB0 := Lib.hid hB0
      have HD0 := Lib.hid hD0
      have HX := Lib.hid hx
      have HY := Lib.hid hy
      have HBD := Lib.hid (Nat.mul_pos hB0 hD0)
      have lp : (nd (A * D)).length ≤ 128 := by have := nd_mul' lA lD; omega
      have lq : (nd (C * B)).length ≤ 128 := by have := nd_mul' lC lB; omega
      have lr : (nd (B * D)).length ≤ 256 := by have := nd_mul' lB lD; omega
      clear hB0 hD0 hx hy
      go_enter Tryz.func10, Tryz.ntmps10
      go_wp2_with fail
      clear hX0
      have hsz : ((w.alloc (.cells #[.bool x, .slice aa (nd A).length ca, .slice ab (nd B).length cb] 26)).alloc (.cells #[.bool false, .slice ac (nd C).length cc, .slice ad (nd D).length cd] 26)).heap.size = w.heap.size + 1 + 1 := by simp
      generalize (w.alloc (.cells #[.bool x, .slice aa (nd A).length ca, .slice ab (nd B).length cb] 26)).alloc (.cells #[.bool false, .slice ac (nd C).length cc, .slice ad (nd D).length cd] 26) = W1 at *
      have hR := C3.new W1 (.bool false) (.slice none 0 0) (.slice none 0 0) 26 (w.heap.size + 1 + 1) hsz.symm
      have hX := hX1.gr (Gr.alloc (Gr.refl _) (.cells #[.bool false, .slice none 0 0, .slice none 0 0] 26))
      have hY := hY1.gr (Gr.alloc (Gr.refl _) (.cells #[.bool false, .slice none 0 0, .slice none 0 0] 26))
      have hG := hG1.alloc (.cells #[.bool false, .slice none 0 0, .slice none 0 0] 26)
      clear hX1 hY1 hG1 hsz
      generalize W1.alloc (.cells #[.bool false, .slice none 0 0, .slice none 0 0] 26) = W0 at *
      obtain ⟨xc0, xc1, xc2, -, -, -, -, -⟩ := id hX
      obtain ⟨yc0, yc1, yc2, -, -, -, -, -⟩ := id hY
      refine (fvalid_yes false _ _ _ (HC.out.gr hG) (HD.out.gr hG) HD0.out (fun h => by cases h) lC lD).mono ?_
      rintro e w1 ⟨rfl, hg⟩
      replace hR := hR.gr hg
      replace hX := hX.gr hg
      replace hY := hY.gr hg
      replace hG := hG.step hg
      clear xc0 xc1 xc2 yc0 yc1 yc2 hg
      obtain ⟨xc0, xc1, xc2, -, -, -, -, -⟩ := id hX
      obtain ⟨yc0, yc1, yc2, -, -, -, -, -⟩ := id hY
      have hY2 := hY.set0 (.bool false)
      have hX2 := hX.other (o := 0) (.bool false) (s := w.heap.size + 1) (by omega)
      have hR2 := hR.other (o := 0) (.bool false) (s := w.heap.size + 1) (by omega)
      obtain ⟨-, -, -, yf0, yf1, yf2, ylt, -⟩ := id hY
      obtain ⟨zc0, zc1, zc2, -, -, -, -, -⟩ := id hY2
      obtain ⟨qc0, qc1, qc2, -, -, -, -, -⟩ := id hX2
      have hG2 := hG.setCell (p := ⟨w.heap.size + 1, 0, none⟩) (by simp) (.bool false)
      go_wp2_with fail
      clear xc0 xc1 xc2 yc0 yc1 yc2 yf0 yf1 yf2 ylt
      generalize w1.setCell ⟨w.heap.size + 1, 0, none⟩ (.bool false) = w2 at *
      have fa : Fra w2 (.agg #[.bool x, .slice aa (nd A).length ca, .slice ab (nd B).length cb]) (rat x A B) := ⟨x, _, _, A, B, rfl, HA.out.gr hG2, HB.out.gr hG2, HB0.out, HX.out, lA, lB, rfl⟩
      have fb : Fra w2 (.agg #[.bool false, .slice ac (nd C).length cc, .slice ad (nd D).length cd]) (rat false C D) := ⟨false, _, _, C, D, rfl, HC.out.gr hG2, HD.out.gr hG2, HD0.out, (fun h => by cases h), lC, lD, rfl⟩
      refine (fadd_any _ _ _ fa fb).mono ?_
      intro e w5 hres
      have hR := hR2
      have hG := hG2
      obtain ⟨b, a1, a2, n1, n2, c1, c2, er, rfl, hres, hg⟩ := hres.form
      have HRES := Lib.hid hres
      replace hR := hR.gr hg
      replace hG := hG.step hg
      have hfl := hR.fill b a1 a2 n1 n2 c1 c2
      obtain ⟨sc0, sc1, sc2, -, -, -, -, -⟩ := hfl.1
      obtain ⟨rc0, rc1, rc2, rf0, rf1, rf2, rlt, -⟩ := id hR
      clear hres hg
      go_wp2_with fail
      refine bodyPost_ret (v := .tuple #[.agg #[.bool b, .slice a1 n1 c1, .slice a2 n2 c2], .int .i64 er]) (by simp [results, Tryz.results10, go_sem, sc0, sc1, sc2]) rfl ?_
      exact ⟨_, er, rfl, HRES.out.imp (fun h => ⟨h.1, h.2.1, hR.red b a1 a2 n1 n2 c1 c2 h.2.2⟩) id, C3.three hG (by omega) _ _ _⟩
  · obtain rfl : z = false := by rw [← HZ.out]; rfl
    have HA := Lib.hid hA
    have HB := Lib.hid hB
    have HC := Lib.hid hC
    have HD := Lib.hid hD
    obtain ⟨aa, ca, rfl⟩ := num_slice hA
    obtain ⟨ab, cb, rfl⟩ := num_slice hB
    obtain ⟨ac, cc, rfl⟩ := num_slice hC
    obtain ⟨ad, cd, rfl⟩ := num_slice hD
    clear hA hB hC hD
    have hX0 := C3.new w (.bool x) (.slice aa (nd A).length ca) (.slice ab (nd B).length cb) 26 w.heap.size rfl
    have hX1 := hX0.gr (Gr.alloc (Gr.refl _) (.cells #[.bool true, .slice ac (nd C).length cc, .slice ad (nd D).length cd] 26))
    have hY1 := C3.new (w.alloc (.cells #[.bool x, .slice aa (nd A).length ca, .slice ab (nd B).length cb] 26)) (.bool true) (.slice ac (nd C).length cc) (.slice ad (nd D).length cd) 26 (w.heap.size + 1) (by simp)
    have hG1 : Gr w ((w.alloc (.cells #[.bool x, .slice aa (nd A).length ca, .slice ab (nd B).length cb] 26)).alloc (.cells #[.bool true, .slice ac (nd C).length cc, .slice ad (nd D).length cd] 26)) := (Gr.alloc (Gr.refl _) _).alloc _
    have HB0 := Lib.hid hB0
    have HD0 := Lib.hid hD0
    have HX := Lib.hid hx
    have HY := Lib.hid hy
    have HBD := Lib.hid (Nat.mul_pos hB0 hD0)
    have lp : (nd (A * D)).length ≤ 128 := by have := nd_mul' lA lD; omega
    have lq : (nd (C * B)).length ≤ 128 := by have := nd_mul' lC lB; omega
    have lr : (nd (B * D)).length ≤ 256 := by have := nd_mul' lB lD; omega
    clear hB0 hD0 hx hy
    go_enter Tryz.func10, Tryz.ntmps10
    go_wp2_with fail
    clear hX0
    have hsz : ((w.alloc (.cells #[.bool x, .slice aa (nd A).length ca, .slice ab (nd B).length cb] 26)).alloc (.cells #[.bool true, .slice ac (nd C).length cc, .slice ad (nd D).length cd] 26)).heap.size = w.heap.size + 1 + 1 := by simp
    generalize (w.alloc (.cells #[.bool x, .slice aa (nd A).length ca, .slice ab (nd B).length cb] 26)).alloc (.cells #[.bool true, .slice ac (nd C).length cc, .slice ad (nd D).length cd] 26) = W1 at *
    have hR := C3.new W1 (.bool false) (.slice none 0 0) (.slice none 0 0) 26 (w.heap.size + 1 + 1) hsz.symm
    have hX := hX1.gr (Gr.alloc (Gr.refl _) (.cells #[.bool false, .slice none 0 0, .slice none 0 0] 26))
    have hY := hY1.gr (Gr.alloc (Gr.refl _) (.cells #[.bool false, .slice none 0 0, .slice none 0 0] 26))
    have hG := hG1.alloc (.cells #[.bool false, .slice none 0 0, .slice none 0 0] 26)
    clear hX1 hY1 hG1 hsz
    generalize W1.alloc (.cells #[.bool false, .slice none 0 0, .slice none 0 0] 26) = W0 at *
    obtain ⟨xc0, xc1, xc2, -, -, -, -, -⟩ := id hX
    obtain ⟨yc0, yc1, yc2, -, -, -, -, -⟩ := id hY
    refine (fvalid_yes true _ _ _ (HC.out.gr hG) (HD.out.gr hG) HD0.out (fun _ => HY.out trivial) lC lD).mono ?_
    rintro e w1 ⟨rfl, hg⟩
    replace hR := hR.gr hg
    replace hX := hX.gr hg
    replace hY := hY.gr hg
    replace hG := hG.step hg
    clear xc0 xc1 xc2 yc0 yc1 yc2 hg
    obtain ⟨xc0, xc1, xc2, -, -, -, -, -⟩ := id hX
    obtain ⟨yc0, yc1, yc2, -, -, -, -, -⟩ := id hY
    have hY2 := hY.set0 (.bool false)
    have hX2 := hX.other (o := 0) (.bool false) (s := w.heap.size + 1) (by omega)
    have hR2 := hR.other (o := 0) (.bool false) (s := w.heap.size + 1) (by omega)
    obtain ⟨-, -, -, yf0, yf1, yf2, ylt, -⟩ := id hY
    obtain ⟨zc0, zc1, zc2, -, -, -, -, -⟩ := id hY2
    obtain ⟨qc0, qc1, qc2, -, -, -, -, -⟩ := id hX2
    have hG2 := hG.setCell (p := ⟨w.heap.size + 1, 0, none⟩) (by simp) (.bool false)
    go_wp2_with fail
    clear xc0 xc1 xc2 yc0 yc1 yc2 yf0 yf1 yf2 ylt
    generalize w1.setCell ⟨w.heap.size + 1, 0, none⟩ (.bool false) = w2 at *
    have fa : Fra w2 (.agg #[.bool x, .slice aa (nd A).length ca, .slice ab (nd B).length cb]) (rat x A B) := ⟨x, _, _, A, B, rfl, HA.out.gr hG2, HB.out.gr hG2, HB0.out, HX.out, lA, lB, rfl⟩
    have fb : Fra w2 (.agg #[.bool false, .slice ac (nd C).length cc, .slice ad (nd D).length cd]) (rat false C D) := ⟨false, _, _, C, D, rfl, HC.out.gr hG2, HD.out.gr hG2, HD0.out, (fun h => by cases h), lC, lD, rfl⟩
    refine (fadd_any _ _ _ fa fb).mono ?_
    intro e w5 hres
    have hR := hR2
    have hG := hG2
    obtain ⟨b, a1, a2, n1, n2, c1, c2, er, rfl, hres, hg⟩ := hres.form
    have HRES := Lib.hid hres
    replace hR := hR.gr hg
    replace hG := hG.step hg
    have hfl := hR.fill b a1 a2 n1 n2 c1 c2
    obtain ⟨sc0, sc1, sc2, -, -, -, -, -⟩ := hfl.1
    obtain ⟨rc0, rc1, rc2, rf0, rf1, rf2, rlt, -⟩ := id hR
    clear hres hg
    go_wp2_with fail
    refine bodyPost_ret (v := .tuple #[.agg #[.bool b, .slice a1 n1 c1, .slice a2 n2 c2], .int .i64 er]) (by simp [results, Tryz.results10, go_sem, sc0, sc1, sc2]) rfl ?_
    exact ⟨_, er, rfl, HRES.out.imp (fun h => ⟨h.1, h.2.1, hR.red b a1 a2 n1 n2 c1 c2 h.2.2⟩) id, C3.three hG (by omega) _ _ _⟩
set_option maxHeartbeats 2000000 in
theorem freduce_any {a : Rat} (v : Value) (w : World) (ha : Fra w v a) :
    Calls Tryz.prog 25 #[v] w fun e w' => ∃ u, e = .returned u ∧ Red w' u a ∧ Bd 64 a ∧ Gr w w' := by
  obtain ⟨x, va, vb, A, B, rfl, hA, hB, hB0, hx, lA, lB, rfl⟩ := ha
  have hbd := bd_rat (x := x) hB0 lA lB
  have HBD := Lib.hid hbd
  have HA := Lib.hid hA
  have HB := Lib.hid hB
  have HB0 := Lib.hid hB0
  have HX := Lib.hid hx
  obtain ⟨aa, ca, rfl⟩ := num_slice hA
  obtain ⟨ab, cb, rfl⟩ := num_slice hB
  clear hA hB hB0 hx hbd
  have hX0 := C3.new w (.bool x) (.slice aa (nd A).length ca) (.slice ab (nd B).length cb) 26 w.heap.size rfl
  have hX1 := hX0.gr (Gr.alloc (Gr.refl _) (.cells #[.bool false, .slice none 0 0, .slice none 0 0] 26))
  have hR1 := C3.new (w.alloc (.cells #[.bool x, .slice aa (nd A).length ca, .slice ab (nd B).length cb] 26)) (.bool false) (.slice none 0 0) (.slice none 0 0) 26 (w.heap.size + 1) (by simp)
  have hG1 : Gr w ((w.alloc (.cells #[.bool x, .slice aa (nd A).length ca, .slice ab (nd B).length cb] 26)).alloc (.cells #[.bool false, .slice none 0 0, .slice none 0 0] 26)) := (Gr.alloc (Gr.refl _) _).alloc _
  clear hX0
  go_enter Tryz.func25, Tryz.ntmps25
  go_wp2_with fail
  generalize (w.alloc (.cells #[.bool x, .slice aa (nd A).length ca, .slice ab (nd B).length cb] 26)).alloc (.cells #[.bool false, .slice none 0 0, .slice none 0 0] 26) = W0 at *
  refine (fvalid_yes x _ _ _ (HA.out.gr hG1) (HB.out.gr hG1) HB0.out HX.out lA lB).mono ?_
  rintro e w1 ⟨rfl, hg⟩
  have hX := hX1.gr hg
  have hR := hR1.gr hg
  have hG := hG1.step hg
  obtain ⟨xc0, xc1, xc2, -, -, -, -, -⟩ := id hX
  clear hX1 hR1 hG1 hg
  go_wp2_with fail
  refine (lowest_any x _ _ _ (HA.out.gr hG) (HB.out.gr hG) HB0.out (by omega) (by omega)).mono ?_
  intro e w2 hres
  obtain ⟨b, a1, a2, n1, n2, c1, c2, er, rfl, hres, hg⟩ := hres.form
  have hR := hR.gr hg
  have hG := hG.step hg
  have HRED := Lib.hid (hres.resolve_right (fun h => h.1 HBD.out)).2.2
  have hF := C3.new w2 (.bool b) (.slice a1 n1 c1) (.slice a2 n2 c2) 26 w2.heap.size rfl
  have hR2 := hR.gr (Gr.alloc (Gr.refl w2) (.cells #[.bool b, .slice a1 n1 c1, .slice a2 n2 c2] 26))
  have hG2 := hG.alloc (.cells #[.bool b, .slice a1 n1 c1, .slice a2 n2 c2] 26)
  have HRED2 := Lib.hid (HRED.out.gr (Gr.alloc (Gr.refl w2) (.cells #[.bool b, .slice a1 n1 c1, .slice a2 n2 c2] 26)))
  obtain ⟨fc0, fc1, fc2, -, -, -, -, -⟩ := id hF
  obtain ⟨rc0, rc1, rc2, rf0, rf1, rf2, rlt, -⟩ := id hR2
  have hfl := hR2.fill b a1 a2 n1 n2 c1 c2
  obtain ⟨sc0, sc1, sc2, -, -, -, -, -⟩ := hfl.1
  clear hres hg
  go_wp2_with fail
  refine bodyPost_ret (v := .agg #[.bool b, .slice a1 n1 c1, .slice a2 n2 c2]) (by simp [results, Tryz.results25, go_sem, sc0, sc1, sc2]) rfl ?_
  exact ⟨_, rfl, hR2.red b a1 a2 n1 n2 c1 c2 HRED2.out, HBD.out, C3.three hG2 (by omega) _ _ _⟩
set_option maxHeartbeats 2000000 in
/-- Same at reduced fractions of one value -/
theorem fsame_yes {r : Rat} (v u : Value) (w : World) (ha : Red w v r) (hb : Red w u r) (hbd : Bd 64 r) :
    Calls Tryz.prog 24 #[v, u] w fun e w' => e = .returned (.bool true) ∧ Gr w w' := by
  obtain ⟨va, vb, rfl, hA, hB⟩ := ha
  obtain ⟨vc, vd, rfl, hC, hD⟩ := hb
  obtain ⟨lA, lB⟩ := hbd
  generalize decide (r.num < 0) = x at *
  generalize r.num.natAbs = A at *
  generalize r.den = B at *
  obtain ⟨C, hAC⟩ : ∃ C, C = A := ⟨_, rfl⟩
  obtain ⟨D, hBD⟩ : ∃ D, D = B := ⟨_, rfl⟩
  rw [← hAC] at hC
  rw [← hBD] at hD
  have HAC := Lib.hid hAC
  have HBD := Lib.hid hBD
  clear hAC hBD
  have HA := Lib.hid hA
  have HB := Lib.hid hB
  have HC := Lib.hid hC
  have HD := Lib.hid hD
  obtain ⟨aa, ca, rfl⟩ := num_slice hA
  obtain ⟨ab, cb, rfl⟩ := num_slice hB
  obtain ⟨ac, cc, rfl⟩ := num_slice hC
  obtain ⟨ad, cd, rfl⟩ := num_slice hD
  clear hA hB hC hD
  have hX0 := C3.new w (.bool x) (.slice aa (nd A).length ca) (.slice ab (nd B).length cb) 26 w.heap.size rfl
  have hX1 := hX0.gr (Gr.alloc (Gr.refl _) (.cells #[.bool x, .slice ac (nd C).length cc, .slice ad (nd D).length cd] 26))
  have hY1 := C3.new (w.alloc (.cells #[.bool x, .slice aa (nd A).length ca, .slice ab (nd B).length cb] 26)) (.bool x) (.slice ac (nd C).length cc) (.slice ad (nd D).length cd) 26 (w.heap.size + 1) (by simp)
  have hG1 : Gr w ((w.alloc (.cells #[.bool x, .slice aa (nd A).length ca, .slice ab (nd B).length cb] 26)).alloc (.cells #[.bool x, .slice ac (nd C).length cc, .slice ad (nd D).length cd] 26)) := (Gr.alloc (Gr.refl _) _).alloc _
  have dx : (x == x) = true := by cases x <;> rfl
  go_enter Tryz.func24, Tryz.ntmps24
  go_wp2_with fail
  clear hX0
  generalize (w.alloc (.cells #[.bool x, .slice aa (nd A).length ca, .slice ab (nd B).length cb] 26)).alloc (.cells #[.bool x, .slice ac (nd C).length cc, .slice ad (nd D).length cd] 26) = W0 at *
  have hX := hX1
  have hY := hY1
  have hG := hG1
  clear hX1 hY1 hG1
  obtain ⟨xc0, xc1, xc2, -, -, -, -, -⟩ := id hX
  obtain ⟨yc0, yc1, yc2, -, -, -, -, -⟩ := id hY
  refine (num_same (A := A) (B := C) _ _ _ (HA.out.gr hG) (HC.out.gr hG) HAC.out.symm (by omega)).mono ?_
  rintro e w1 ⟨rfl, hg⟩
  replace hX := hX.gr hg
  replace hY := hY.gr hg
  replace hG := hG.step hg
  clear xc0 xc1 xc2 yc0 yc1 yc2 hg
  obtain ⟨xc0, xc1, xc2, -, -, -, -, -⟩ := id hX
  obtain ⟨yc0, yc1, yc2, -, -, -, -, -⟩ := id hY
  go_wp2_with fail
  refine (num_same (A := B) (B := D) _ _ _ (HB.out.gr hG) (HD.out.gr hG) HBD.out.symm (by omega)).mono ?_
  rintro e w2 ⟨rfl, hg⟩
  replace hX := hX.gr hg
  replace hY := hY.gr hg
  replace hG := hG.step hg
  clear xc0 xc1 xc2 yc0 yc1 yc2 hg
  obtain ⟨xc0, xc1, xc2, -, -, -, -, -⟩ := id hX
  obtain ⟨yc0, yc1, yc2, -, -, -, -, -⟩ := id hY
  go_wp2_with fail
  go_ret
  exact ⟨rfl, hG⟩
end Go.Proofs.YtjpjnbgfodlkcaaGreatDoor
/- Trim of the document. -/
namespace Go.Proofs.YtjpjnbgfodlkcaaGreatDoor
open Go Go.RowKit Go.Sort
set_option maxRecDepth 100000
set_option linter.unusedVariables false
theorem rtrim_at {p : Nat → Prop} {a : Option Addr} {n cap : Nat} {l : List Nat} (w : World) (h : Rd p w (.slice a n cap) l) (hL : Lim l) :
    Calls Tryz.prog 70 #[.slice a n cap] w fun e w' => e = .returned (.slice a (nd (nv l)).length cap) ∧ w = w' := by
  obtain ⟨a', cap', e, hl', hcap, H⟩ := h
  cases e
  have HH := Lib.hid H
  clear H
  go_enter Tryz.func70, Tryz.ntmps70
  go_wp2
  go_loop [0] (fun s => ∃ k : Nat, k ≤ l.length ∧ s = .slice a k cap ∧ nv (l.take k) = nv l) (fun s => match s with | .slice _ n _ => n | _ => 0)
  case atStart => exact ⟨l.length, Nat.le_refl _, rfl, by rw [List.take_length]⟩
  case round =>
    obtain ⟨k, hk, rfl, hv⟩ := hrel
    have HV := Lib.hid hv
    clear hv
    by_cases hk0 : 0 < k
    · obtain ⟨k, rfl⟩ : ∃ j, k = j + 1 := ⟨k - 1, by omega⟩
      obtain ⟨b, off, rfl, -, hc⟩ := HH.out k (by omega)
      have d1 : decide (0 < k + 1) = true := by simp
      have d2 : decide ((0 : Int) < (k : Int) + 1) = true := by simp
      have e1 : (k : Int) + 1 - 1 = (k : Int) := by omega
      by_cases hz : l.getD k 0 = 0
      · rw [hz] at hc
        have hk1 : (k : Int) ≤ (cap : Int) := by omega
        go_wp2
        go_round
        case rel => exact ⟨k, by omega, rfl, by rw [← nv_trim1 l hz]; exact HV.out⟩
        case measure => simp
      · have hz2 : (((l.getD k 0 : Nat) : Int) == 0) = false := by simpa using hz
        generalize hx : l.getD k 0 = x at *
        have HX := Lib.hid hx
        clear hx
        go_wp2
        go_ret
        have e : l.take (k + 1) = nd (nv l) := by
          rw [← HV.out]
          refine nd_of_last (lim_take hL _) (.inr ?_)
          rw [List.length_take, Nat.min_eq_left (by omega)]
          rw [List.getD_eq_getElem?_getD, List.getElem?_take_of_lt (by omega), ← List.getD_eq_getElem?_getD]
          rw [show k + 1 - 1 = k by omega, HX.out]; exact hz
        have e2 : (nd (nv l)).length = k + 1 := by rw [← e, List.length_take]; omega
        rw [e2]
        exact ⟨rfl, rfl⟩
    · obtain rfl : k = 0 := by omega
      go_wp2
      go_ret
      have e : nv l = 0 := by rw [← HV.out]; rfl
      rw [e, nd_zero]
      exact ⟨rfl, rfl⟩
theorem rtrim_any {p : Nat → Prop} {v : Value} {l : List Nat} (w : World) (h : Rd p w v l) (hL : Lim l) :
    Calls Tryz.prog 70 #[v] w (TrimPost p w l) := by
  obtain ⟨a, cap, e, hl', hcap, H⟩ := h
  subst e
  have h : Rd p w (.slice a l.length cap) l := ⟨a, cap, rfl, hl', hcap, H⟩
  refine (rtrim_at w h hL).mono ?_
  rintro e w' ⟨rfl, rfl⟩
  refine ⟨_, rfl, ?_, rfl⟩
  have e := nd_take hL
  have := Rd.take h (k := (nd (nv l)).length) (nd_nv_le hL)
  rw [← e] at this
  exact this
end Go.Proofs.YtjpjnbgfodlkcaaGreatDoor
/- What the document's number functions compute: plain mathematics. -/
namespace Go.Proofs.YtjpjnbgfodlkcaaGreatDoor
theorem nv_set {Q : List Nat} {j : Nat} (d : Nat) (h : j < Q.length) : nv (Q.set j d) + 1073741824 ^ j * Q.getD j 0 = nv Q + 1073741824 ^ j * d := by
  induction Q generalizing j with
  | nil => simp at h
  | cons x Q ih =>
    cases j with
    | zero => simp [nv]; omega
    | succ j =>
      have := ih (j := j) (by simpa using h)
      simp only [List.set_cons_succ, nv, List.getD_cons_succ, bp_succ]
      generalize 1073741824 ^ j = p at *
      generalize nv (Q.set j d) = u at *
      generalize nv Q = v at *
      generalize Q.getD j 0 = y at *
      grind
/-- one step of a row of the product -/
theorem row_step {Q : List Nat} {P c a b v p : Nat} {j i k : Nat} (hj : j < Q.length) (hjk : j = i + k) (h : nv Q + c * 1073741824 ^ j = P + a * 1073741824 ^ i * v) (hp : p = 1073741824 ^ k) :
    nv (Q.set j ((Q.getD j 0 + a * b + c) % 1073741824)) + (Q.getD j 0 + a * b + c) / 1073741824 * 1073741824 ^ (j + 1) = P + a * 1073741824 ^ i * (v + p * b) := by
  have hs := nv_set ((Q.getD j 0 + a * b + c) % 1073741824) hj
  have hd := Nat.mod_add_div (Q.getD j 0 + a * b + c) 1073741824
  have e : 1073741824 ^ j = 1073741824 ^ i * p := by rw [hjk, Nat.pow_add, hp]
  rw [bp_succ, e]
  rw [e] at h hs
  generalize (Q.getD j 0 + a * b + c) % 1073741824 = d at *
  generalize (Q.getD j 0 + a * b + c) / 1073741824 = q at *
  generalize Q.getD j 0 = y at *
  generalize 1073741824 ^ i = r at *
  generalize nv (Q.set j d) = u at *
  generalize nv Q = z at *
  grind
theorem row_bound {y a b c : Nat} (hy : y < 1073741824) (ha : a < 1073741824) (hb : b < 1073741824) (hc : c < 1073741824) : y + a * b + c < 1152921504606846976 := by
  have : a * b ≤ 1073741823 * 1073741823 := Nat.mul_le_mul (by omega) (by omega)
  omega
theorem getD_set_ne {Q : List Nat} {i j x : Nat} (h : i ≠ j) : (Q.set i x).getD j 0 = Q.getD j 0 := by
  rw [List.getD_eq_getElem?_getD, List.getElem?_set_ne h, ← List.getD_eq_getElem?_getD]
/-- one step of the difference -/
theorem less_step {p n m j x y c d e : Nat} (h : n + j = m + c * p) (hd : d + y + c = x + e * 1073741824) : (n + p * d) + (j + p * y) = (m + p * x) + e * (1073741824 * p) := by
  grind
theorem split_step {A B q R x r t dr : Nat} (h : A = q * B + R) (ht : x + 1073741824 * R = t) (hd : t = dr * B + r) : x + 1073741824 * A = (dr + 1073741824 * q) * B + r := by
  grind
/-- halving -/
theorem half_step {A Q c x h r : Nat} (hA : A = Q * 2 + c) (hx : x + c * 1073741824 = h * 2 + r) : x + 1073741824 * A = (h + 1073741824 * Q) * 2 + r := by grind
theorem gcd_both {X Y : Nat} (hx : X % 2 = 0) (hy : Y % 2 = 0) : X.gcd Y = 2 * (X / 2).gcd (Y / 2) := by
  rw [← Nat.gcd_mul_left, Nat.mul_div_cancel' (Nat.dvd_of_mod_eq_zero hx), Nat.mul_div_cancel' (Nat.dvd_of_mod_eq_zero hy)]
theorem gcd_left {X Y : Nat} (hx : X % 2 = 0) (hy : Y % 2 ≠ 0) : X.gcd Y = (X / 2).gcd Y := by
  have h2 : Nat.Coprime 2 Y := by
    unfold Nat.Coprime; rw [Nat.gcd_rec]; have : Y % 2 = 1 := by omega
    rw [this]; rfl
  conv => lhs; rw [← Nat.mul_div_cancel' (Nat.dvd_of_mod_eq_zero hx)]
  exact Nat.Coprime.gcd_mul_left_cancel _ h2
theorem gcd_right {X Y : Nat} (hx : X % 2 ≠ 0) (hy : Y % 2 = 0) : X.gcd Y = X.gcd (Y / 2) := by
  rw [Nat.gcd_comm, gcd_left hy hx, Nat.gcd_comm]
theorem gcd_less {X Y : Nat} (h : Y ≤ X) : X.gcd Y = (X - Y).gcd Y := by
  rw [Nat.gcd_sub_self_left h]
end Go.Proofs.YtjpjnbgfodlkcaaGreatDoor
