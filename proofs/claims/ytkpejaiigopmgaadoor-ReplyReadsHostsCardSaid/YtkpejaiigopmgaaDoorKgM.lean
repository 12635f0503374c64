/- The package transport: decoding notices. -/
import Derived.Test.YtkpejaiigopmgaaDoorKdM
import Derived.WalkKit
import Derived.WalkSpells
import Derived.WalkLawsBesides
import Derived.WalkSmall
import Derived.Handy
import Derived.BigQuiet
import Derived.Deep.QuietTactic
import Derived.Deep.RegionHeld3
import Derived.Deep.DeepFit
import Derived.Below
import Derived.Lib.Hide
import Derived.Lib.QuietBelow
namespace Go.Proofs.YtkpejaiigopmgaaDoor
open Go Go.RowKit Go.Sort
set_option maxRecDepth 100000
set_option linter.unusedVariables false
set_option maxHeartbeats 2000000 in
theorem dnote_err {p : Nat → Prop} {v : Value} {l : List Nat} (w : World) (hr : Rb p w v l) (hl : l.length ≤ 30000) (hn : dcNote l ≠ 0) :
    Calls Tryd.prog 54 #[v] w (DErr w noteZ0 (dcNote l)) := by
  have hcase : (l.length < 36 ∧ dcNote l = 3) ∨ (36 ≤ l.length ∧ ((gN l 0 1 ≠ 3 ∧ gN l 0 1 ≠ 11) ∨ gN l 4 4 ≠ 0) ∧ dcNote l = 2) ∨ (36 ≤ l.length ∧ (gN l 0 1 = 3 ∨ gN l 0 1 = 11) ∧ gN l 4 4 = 0 ∧ vE s0 2 l ≠ 0 ∧ dcNote l = vE s0 2 l) := by
    unfold dcNote at hn ⊢
    by_cases h1 : l.length < 36
    · exact .inl ⟨h1, if_pos h1⟩
    · rw [if_neg h1] at hn ⊢
      by_cases h2 : (gN l 0 1 ≠ 3 ∧ gN l 0 1 ≠ 11) ∨ gN l 4 4 ≠ 0
      · exact .inr (.inl ⟨by omega, h2, if_pos h2⟩)
      · rw [if_neg h2] at hn ⊢
        exact .inr (.inr ⟨by omega, by omega, by omega, hn, rfl⟩)
  clear hn
  generalize dcNote l = E at *
  unfold noteZ0
  have HR := Lib.hid hr
  have hlt := hr.bytes
  obtain ⟨av, cap, rfl, hcap, hmx⟩ := hr.form
  obtain ⟨L, hL⟩ : ∃ L, L = l.length := ⟨_, rfl⟩
  have HL := Lib.hid hL
  rw [← hL] at HR hl hcap hcase ⊢
  clear hL hr
  have hC := CL.new w noteZ0 61 _ rfl
  have hG := Gr.alloc (Gr.refl w) (.cells noteZ0.toArray 61)
  unfold noteZ0 at hC hG
  have hx0 := gN_lt hlt 0 1
  have hx1 := gN_lt hlt 1 1
  have hx4 := gN_lt hlt 4 4
  rcases hcase with ⟨h1, hE⟩ | ⟨h1, h2, hE⟩ | ⟨h1, h2, h3, h4, hE⟩
  · have d1 : decide ((L : Int) < 36) = true := by rw [decide_eq_true_eq]; omega
    have HE := Lib.hid hE
    clear hE h1
    go_enter Tryd.func54, Tryd.ntmps54
    go_upto_region 1 with fail
    have hle : w.heap.size ≤ w.heap.size := Nat.le_refl _
    generalize w.alloc (.cells #[.int .i64 0, .int .i64 0, .slice none 0 0] 61) = w1 at hC hG ⊢
    generalize hg0 : w.heap.size = g0 at hC ⊢
    replace hle : w.heap.size ≤ g0 := by omega
    clear hg0
    obtain ⟨⟨y0, y1, y2⟩, u0, u1, u2⟩ := hC.three
    go_wp2_with fail
    have hcF := hC.fill [.int .i64 0, .int .i64 0, .slice none 0 0] rfl
    have hgF := hG.fill hle [.int .i64 0, .int .i64 0, .slice none 0 0] 0
    simp only [fillC, Nat.reduceAdd] at hcF hgF
    clear y0 y1 y2 u0 u1 u2
    generalize (((w1.setCell ⟨g0, 0, none⟩ (.int .i64 0)).setCell ⟨g0, 1, none⟩ (.int .i64 0)).setCell ⟨g0, 2, none⟩ (.slice none 0 0)) = wF at hcF hgF ⊢
    obtain ⟨⟨c0, c1, c2⟩, -⟩ := hcF.three
    exact bodyPost_ret (v := .tuple #[.agg #[.int .i64 0, .int .i64 0, .slice none 0 0], .int .i64 3]) (by simp [results, Tryd.results54, go_sem, c0, c1, c2]) rfl ⟨by first | (rw [HE.out]; done) | (rw [HE.out]; rfl), hgF⟩
  · have d1 : decide ((L : Int) < 36) = false := by rw [decide_eq_false_iff_not]; omega
    have HE := Lib.hid hE
    have HG0 := Lib.hid (fun W (g : Gr w W) => tget_any 0 1 W (HR.out.gr g) (by omega) (by omega) (by rw [← HL.out]; omega))
    have HG1 := Lib.hid (fun W (g : Gr w W) => tget_any 1 1 W (HR.out.gr g) (by omega) (by omega) (by rw [← HL.out]; omega))
    have HG4 := Lib.hid (fun W (g : Gr w W) => tget_any 4 4 W (HR.out.gr g) (by omega) (by omega) (by rw [← HL.out]; omega))
    have HCK := Lib.hid (fun W (g : Gr w W) => check_0 2 W (HR.out.gr g) (by rw [← HL.out]; omega) (by rw [← HL.out]; omega))
    clear hE h1
    generalize gN l 0 1 = X at *
    generalize gN l 1 1 = Y at *
    generalize gN l 4 4 = Z at *
    go_enter Tryd.func54, Tryd.ntmps54
    go_upto_region 1 with fail
    have hle : w.heap.size ≤ w.heap.size := Nat.le_refl _
    generalize w.alloc (.cells #[.int .i64 0, .int .i64 0, .slice none 0 0] 61) = w1 at hC hG ⊢
    generalize hg0 : w.heap.size = g0 at hC ⊢
    replace hle : w.heap.size ≤ g0 := by omega
    clear hg0
    obtain ⟨⟨y0, y1, y2⟩, u0, u1, u2⟩ := hC.three
    by_cases k3 : X = 3 ∨ X = 11
    · have HNT := Lib.hid (fun w => ntype_any (X : Int) w true (by symm; rw [decide_eq_true_eq]; unfold ntOk; omega))
      have b2 : ((Z : Int) != 0) = true := by simp; omega
      clear k3 h2
      go_wp2_with fail
      refine (HG0.out _ hG).mono ?_
      rintro e w2 ⟨rfl, rfl⟩
      go_wp2_with fail
      refine (HG1.out _ hG).mono ?_
      rintro e w2 ⟨rfl, rfl⟩
      have hC1 := CL.new w1 [.int .i64 X, .int .i64 Y, .slice none 0 0] 61 _ rfl
      have hgn := Gr.alloc (Gr.refl w1) (.cells #[.int .i64 X, .int .i64 Y, .slice none 0 0] 61)
      have hlt01 := hC.lt
      replace hC := hC.gr hgn
      replace hG := hG.step hgn
      clear hgn
      obtain ⟨⟨z0, z1, z2⟩, k0, k1, k2⟩ := hC1.three
      go_upto_region 4 with fail
      generalize w1.alloc (.cells #[.int .i64 X, .int .i64 Y, .slice none 0 0] 61) = w2 at *
      generalize hg1 : w1.heap.size = g1 at *
      have hg01 : g0 < g1 := by omega
      clear hlt01 hg1
      clear y0 y1 y2 u0 u1 u2
      obtain ⟨⟨y0, y1, y2⟩, u0, u1, u2⟩ := hC.three
      go_wp2_with fail
      refine (HNT.out _).mono ?_
      rintro e w3 ⟨rfl, rfl⟩
      go_wp2_with fail
      refine (HG4.out _ hG).mono ?_
      rintro e w3 ⟨rfl, rfl⟩
      go_wp2_with fail
      have hcF := hC.fill [.int .i64 0, .int .i64 0, .slice none 0 0] rfl
      have hgF := hG.fill hle [.int .i64 0, .int .i64 0, .slice none 0 0] 0
      simp only [fillC, Nat.reduceAdd] at hcF hgF
      clear y0 y1 y2 u0 u1 u2
      generalize (((w2.setCell ⟨g0, 0, none⟩ (.int .i64 0)).setCell ⟨g0, 1, none⟩ (.int .i64 0)).setCell ⟨g0, 2, none⟩ (.slice none 0 0)) = wF at hcF hgF ⊢
      obtain ⟨⟨c0, c1, c2⟩, -⟩ := hcF.three
      exact bodyPost_ret (v := .tuple #[.agg #[.int .i64 0, .int .i64 0, .slice none 0 0], .int .i64 2]) (by simp [results, Tryd.results54, go_sem, c0, c1, c2]) rfl ⟨by first | (rw [HE.out]; done) | (rw [HE.out]; rfl), hgF⟩
    · have HNT := Lib.hid (fun w => ntype_any (X : Int) w false (by symm; rw [decide_eq_false_iff_not]; unfold ntOk; omega))
      clear k3 h2
      go_wp2_with fail
      refine (HG0.out _ hG).mono ?_
      rintro e w2 ⟨rfl, rfl⟩
      go_wp2_with fail
      refine (HG1.out _ hG).mono ?_
      rintro e w2 ⟨rfl, rfl⟩
      have hC1 := CL.new w1 [.int .i64 X, .int .i64 Y, .slice none 0 0] 61 _ rfl
      have hgn := Gr.alloc (Gr.refl w1) (.cells #[.int .i64 X, .int .i64 Y, .slice none 0 0] 61)
      have hlt01 := hC.lt
      replace hC := hC.gr hgn
      replace hG := hG.step hgn
      clear hgn
      obtain ⟨⟨z0, z1, z2⟩, k0, k1, k2⟩ := hC1.three
      go_upto_region 4 with fail
      generalize w1.alloc (.cells #[.int .i64 X, .int .i64 Y, .slice none 0 0] 61) = w2 at *
      generalize hg1 : w1.heap.size = g1 at *
      have hg01 : g0 < g1 := by omega
      clear hlt01 hg1
      clear y0 y1 y2 u0 u1 u2
      obtain ⟨⟨y0, y1, y2⟩, u0, u1, u2⟩ := hC.three
      go_wp2_with fail
      refine (HNT.out _).mono ?_
      rintro e w3 ⟨rfl, rfl⟩
      go_wp2_with fail
      have hcF := hC.fill [.int .i64 0, .int .i64 0, .slice none 0 0] rfl
      have hgF := hG.fill hle [.int .i64 0, .int .i64 0, .slice none 0 0] 0
      simp only [fillC, Nat.reduceAdd] at hcF hgF
      clear y0 y1 y2 u0 u1 u2
      generalize (((w2.setCell ⟨g0, 0, none⟩ (.int .i64 0)).setCell ⟨g0, 1, none⟩ (.int .i64 0)).setCell ⟨g0, 2, none⟩ (.slice none 0 0)) = wF at hcF hgF ⊢
      obtain ⟨⟨c0, c1, c2⟩, -⟩ := hcF.three
      exact bodyPost_ret (v := .tuple #[.agg #[.int .i64 0, .int .i64 0, .slice none 0 0], .int .i64 2]) (by simp [results, Tryd.results54, go_sem, c0, c1, c2]) rfl ⟨by first | (rw [HE.out]; done) | (rw [HE.out]; rfl), hgF⟩
  · have d1 : decide ((L : Int) < 36) = false := by rw [decide_eq_false_iff_not]; omega
    have HE := Lib.hid hE
    have HG0 := Lib.hid (fun W (g : Gr w W) => tget_any 0 1 W (HR.out.gr g) (by omega) (by omega) (by rw [← HL.out]; omega))
    have HG1 := Lib.hid (fun W (g : Gr w W) => tget_any 1 1 W (HR.out.gr g) (by omega) (by omega) (by rw [← HL.out]; omega))
    have HG4 := Lib.hid (fun W (g : Gr w W) => tget_any 4 4 W (HR.out.gr g) (by omega) (by omega) (by rw [← HL.out]; omega))
    have HCK := Lib.hid (fun W (g : Gr w W) => check_0 2 W (HR.out.gr g) (by rw [← HL.out]; omega) (by rw [← HL.out]; omega))
    have hE5 := vE_le s0 2 l
    clear hE h1
    generalize gN l 0 1 = X at *
    generalize gN l 1 1 = Y at *
    generalize gN l 4 4 = Z at *
    generalize vE s0 2 l = V at *
    have bV : ((V : Int) != 0) = true := by simp; omega
    have b2 : ((Z : Int) != 0) = false := by simp; omega
    have HNT := Lib.hid (fun w => ntype_any (X : Int) w true (by symm; rw [decide_eq_true_eq]; unfold ntOk; omega))
    clear h2 h3 h4
    go_enter Tryd.func54, Tryd.ntmps54
    go_upto_region 1 with fail
    have hle : w.heap.size ≤ w.heap.size := Nat.le_refl _
    generalize w.alloc (.cells #[.int .i64 0, .int .i64 0, .slice none 0 0] 61) = w1 at hC hG ⊢
    generalize hg0 : w.heap.size = g0 at hC ⊢
    replace hle : w.heap.size ≤ g0 := by omega
    clear hg0
    obtain ⟨⟨y0, y1, y2⟩, u0, u1, u2⟩ := hC.three
    go_wp2_with fail
    refine (HG0.out _ hG).mono ?_
    rintro e w2 ⟨rfl, rfl⟩
    go_wp2_with fail
    refine (HG1.out _ hG).mono ?_
    rintro e w2 ⟨rfl, rfl⟩
    have hC1 := CL.new w1 [.int .i64 X, .int .i64 Y, .slice none 0 0] 61 _ rfl
    have hgn := Gr.alloc (Gr.refl w1) (.cells #[.int .i64 X, .int .i64 Y, .slice none 0 0] 61)
    have hlt01 := hC.lt
    replace hC := hC.gr hgn
    replace hG := hG.step hgn
    clear hgn
    obtain ⟨⟨z0, z1, z2⟩, k0, k1, k2⟩ := hC1.three
    go_upto_region 4 with fail
    generalize w1.alloc (.cells #[.int .i64 X, .int .i64 Y, .slice none 0 0] 61) = w2 at *
    generalize hg1 : w1.heap.size = g1 at *
    have hg01 : g0 < g1 := by omega
    clear hlt01 hg1
    clear y0 y1 y2 u0 u1 u2
    obtain ⟨⟨y0, y1, y2⟩, u0, u1, u2⟩ := hC.three
    go_wp2_with fail
    refine (HNT.out _).mono ?_
    rintro e w3 ⟨rfl, rfl⟩
    go_wp2_with fail
    refine (HG4.out _ hG).mono ?_
    rintro e w3 ⟨rfl, rfl⟩
    go_wp2_with fail
    refine (HCK.out _ hG).mono ?_
    rintro e w3 ⟨rfl, hg3⟩
    replace hG := hG.step hg3
    replace hC := hC.gr hg3
    clear hg3
    clear y0 y1 y2 u0 u1 u2
    obtain ⟨⟨y0, y1, y2⟩, u0, u1, u2⟩ := hC.three
    go_wp2_with fail
    have hcF := hC.fill [.int .i64 0, .int .i64 0, .slice none 0 0] rfl
    have hgF := hG.fill hle [.int .i64 0, .int .i64 0, .slice none 0 0] 0
    simp only [fillC, Nat.reduceAdd] at hcF hgF
    clear y0 y1 y2 u0 u1 u2
    generalize (((w3.setCell ⟨g0, 0, none⟩ (.int .i64 0)).setCell ⟨g0, 1, none⟩ (.int .i64 0)).setCell ⟨g0, 2, none⟩ (.slice none 0 0)) = wF at hcF hgF ⊢
    obtain ⟨⟨c0, c1, c2⟩, -⟩ := hcF.three
    exact bodyPost_ret (v := .tuple #[.agg #[.int .i64 0, .int .i64 0, .slice none 0 0], .int .i64 V]) (by simp [results, Tryd.results54, go_sem, c0, c1, c2]) rfl ⟨by first | (rw [HE.out]; done) | (rw [HE.out]; rfl), hgF⟩
set_option maxHeartbeats 2000000 in
theorem dnote_ok {p : Nat → Prop} {v : Value} {l : List Nat} (w : World) (hr : Rb p w v l) (hl : l.length ≤ 30000) (hn : dcNote l = 0) :
    Calls Tryd.prog 54 #[v] w fun e w' => ∃ v', e = .returned (.tuple #[.agg #[.int .i64 (gN l 0 1 : Nat), .int .i64 (gN l 1 1 : Nat), v'], .int .i64 0]) ∧ OwB w.heap.size w' v' (l.drop 8) ∧ Gr w w' := by
  have hcase : 36 ≤ l.length ∧ (gN l 0 1 = 3 ∨ gN l 0 1 = 11) ∧ gN l 4 4 = 0 ∧ vE s0 2 l = 0 := by
    unfold dcNote at hn
    by_cases h1 : l.length < 36
    · rw [if_pos h1] at hn; omega
    · rw [if_neg h1] at hn
      by_cases h2 : (gN l 0 1 ≠ 3 ∧ gN l 0 1 ≠ 11) ∨ gN l 4 4 ≠ 0
      · rw [if_pos h2] at hn; omega
      · rw [if_neg h2] at hn
        exact ⟨by omega, by omega, by omega, hn⟩
  clear hn
  have HR := Lib.hid hr
  have hlt := hr.bytes
  obtain ⟨av, cap, rfl, hcap, hmx⟩ := hr.form
  obtain ⟨L, hL⟩ : ∃ L, L = l.length := ⟨_, rfl⟩
  have HL := Lib.hid hL
  rw [← hL] at HR hl hcap hcase ⊢
  clear hL hr
  have hC := CL.new w noteZ0 61 _ rfl
  have hG := Gr.alloc (Gr.refl w) (.cells noteZ0.toArray 61)
  unfold noteZ0 at hC hG
  obtain ⟨h1, h2, h3, h4⟩ := hcase
  obtain ⟨bk, off, rfl, -, -⟩ := HR.out.at' (i := 0) (by rw [← HL.out]; omega)
  have d1 : decide ((L : Int) < 36) = false := by rw [decide_eq_false_iff_not]; omega
  have HG0 := Lib.hid (fun W (g : Gr w W) => tget_any 0 1 W (HR.out.gr g) (by omega) (by omega) (by rw [← HL.out]; omega))
  have HG1 := Lib.hid (fun W (g : Gr w W) => tget_any 1 1 W (HR.out.gr g) (by omega) (by omega) (by rw [← HL.out]; omega))
  have HG4 := Lib.hid (fun W (g : Gr w W) => tget_any 4 4 W (HR.out.gr g) (by omega) (by omega) (by rw [← HL.out]; omega))
  have HCK := Lib.hid (fun W (g : Gr w W) => check_0 2 W (HR.out.gr g) (by rw [← HL.out]; omega) (by rw [← HL.out]; omega))
  have HT := Lib.hid (HR.out.tail (k := 8) (by rw [← HL.out]; omega))
  have HTL := Lib.hid (show (l.drop 8).length ≤ 30000 by rw [List.length_drop]; have := HL.out; omega)
  rw [h4] at HCK
  generalize gN l 0 1 = X at *
  generalize gN l 1 1 = Y at *
  generalize gN l 4 4 = Z at *
  have b2 : ((Z : Int) != 0) = false := by simp; omega
  have HNT := Lib.hid (fun w => ntype_any (X : Int) w true (by symm; rw [decide_eq_true_eq]; unfold ntOk; omega))
  clear h2 h3 h4
  go_enter Tryd.func54, Tryd.ntmps54
  go_upto_region 1 with fail
  have hle : w.heap.size ≤ w.heap.size := Nat.le_refl _
  generalize w.alloc (.cells #[.int .i64 0, .int .i64 0, .slice none 0 0] 61) = w1 at hC hG ⊢
  generalize hg0 : w.heap.size = g0 at hC ⊢
  replace hle : w.heap.size ≤ g0 := by omega
  clear hg0
  obtain ⟨⟨y0, y1, y2⟩, u0, u1, u2⟩ := hC.three
  go_wp2_with fail
  refine (HG0.out _ hG).mono ?_
  rintro e w2 ⟨rfl, rfl⟩
  go_wp2_with fail
  refine (HG1.out _ hG).mono ?_
  rintro e w2 ⟨rfl, rfl⟩
  have hC1 := CL.new w1 [.int .i64 X, .int .i64 Y, .slice none 0 0] 61 _ rfl
  have hgn := Gr.alloc (Gr.refl w1) (.cells #[.int .i64 X, .int .i64 Y, .slice none 0 0] 61)
  have hlt01 := hC.lt
  replace hC := hC.gr hgn
  replace hG := hG.step hgn
  clear hgn
  obtain ⟨⟨z0, z1, z2⟩, k0, k1, k2⟩ := hC1.three
  go_upto_region 4 with fail
  generalize w1.alloc (.cells #[.int .i64 X, .int .i64 Y, .slice none 0 0] 61) = w2 at *
  generalize hg1 : w1.heap.size = g1 at *
  have hg01 : g0 < g1 := by omega
  clear hlt01 hg1
  clear y0 y1 y2 u0 u1 u2
  obtain ⟨⟨y0, y1, y2⟩, u0, u1, u2⟩ := hC.three
  go_wp2_with fail
  refine (HNT.out _).mono ?_
  rintro e w3 ⟨rfl, rfl⟩
  go_wp2_with fail
  refine (HG4.out _ hG).mono ?_
  rintro e w3 ⟨rfl, rfl⟩
  go_wp2_with fail
  refine (HCK.out _ hG).mono ?_
  rintro e w3 ⟨rfl, hg3⟩
  replace hG := hG.step hg3
  replace hC := hC.gr hg3
  replace hC1 := hC1.gr hg3
  clear hg3 z0 z1 z2 k0 k1 k2
  obtain ⟨⟨z0, z1, z2⟩, k0, k1, k2⟩ := hC1.three
  go_upto_region 9 with fail
  have hcq : ¬ cap = 8 := by omega
  rw [if_neg hcq] at HT
  go_wp2_with fail
  refine (clone_bytes _ (HT.out.gr hG) (by have := HTL.out; omega)).mono ?_
  rintro e w4 ⟨vc, rfl, ho, hgn⟩
  have hnv : ∀ k, vc.ownBlock = some k → k ≠ g0 ∧ k ≠ g1 := by
    intro k hk
    have := ho.above k hk
    have := hC.lt
    have := hC1.lt
    omega
  replace ho := ho.base (Gr.size hG)
  replace hG := hG.step hgn
  replace hC := hC.gr hgn
  replace hC1 := hC1.gr hgn
  obtain ⟨ac, cc, rfl, -, -⟩ := ho.rb.form
  generalize (l.drop 8).length = M at *
  clear hgn z0 z1 z2 k0 k1 k2
  obtain ⟨⟨z0, z1, z2⟩, k0, k1, k2⟩ := hC1.three
  go_upto_region 10 with fail
  have hC2 := hC1.set 2 (.slice ac M cc) (by simp)
  simp only [List.set_cons_succ, List.set_cons_zero] at hC2
  have hC0 := hC.other (s := g1) (o := 2) (.slice ac M cc) (by omega)
  have hG5 := hG.setCell (p := ⟨g1, 2, none⟩) (by show w.heap.size ≤ g1; omega) (.slice ac M cc)
  have ho5 := ho.cellset (g := g1) (o := 2) (fun k hk => (hnv k hk).2) (.slice ac M cc)
  clear z0 z1 z2 k0 k1 k2 y0 y1 y2 u0 u1 u2
  generalize w4.setCell ⟨g1, 2, none⟩ (.slice ac M cc) = w5 at hC2 hC0 hG5 ho5 ⊢
  obtain ⟨⟨z0, z1, z2⟩, k0, k1, k2⟩ := hC2.three
  obtain ⟨⟨y0, y1, y2⟩, u0, u1, u2⟩ := hC0.three
  have hcF := hC0.fill [.int .i64 X, .int .i64 Y, .slice ac M cc] rfl
  have hgF := hG5.fill hle [.int .i64 X, .int .i64 Y, .slice ac M cc] 0
  have hoF := ho5.fill (fun k hk => (hnv k hk).1) [.int .i64 X, .int .i64 Y, .slice ac M cc] 0
  simp only [fillC, Nat.reduceAdd] at hcF hgF hoF
  go_wp2_with fail
  clear z0 z1 z2 k0 k1 k2 y0 y1 y2 u0 u1 u2
  generalize (((w5.setCell ⟨g0, 0, none⟩ (.int .i64 X)).setCell ⟨g0, 1, none⟩ (.int .i64 Y)).setCell ⟨g0, 2, none⟩ (.slice ac M cc)) = wF at hcF hgF hoF ⊢
  obtain ⟨⟨c0, c1, c2⟩, -⟩ := hcF.three
  exact bodyPost_ret (v := .tuple #[.agg #[.int .i64 X, .int .i64 Y, .slice ac M cc], .int .i64 0]) (by simp [results, Tryd.results54, go_sem, c0, c1, c2]) rfl ⟨_, rfl, hoF, hgF⟩
end Go.Proofs.YtkpejaiigopmgaaDoor
