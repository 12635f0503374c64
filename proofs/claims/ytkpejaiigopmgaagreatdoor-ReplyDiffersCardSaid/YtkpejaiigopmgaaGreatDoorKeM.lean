/- The package transport: encoding echoes and notices. -/
import Derived.Test.YtkpejaiigopmgaaGreatDoorKcM
import Derived.Test.YtkpejaiigopmgaaGreatDoorGD
import Derived.Deep.DeepCutAuto
import Derived.WalkKit
import Derived.WalkSpells
import Derived.WalkLawsBesides
import Derived.WalkSmall
import Derived.Handy
import Derived.BigQuiet
import Derived.Deep.QuietTactic
import Derived.Deep.RegionHeld3
import Derived.Deep.DeepFit
import Derived.Below
import Derived.Lib.Hide
import Derived.Lib.QuietBelow
namespace Go.Proofs.YtkpejaiigopmgaaGreatDoor
open Go Go.RowKit Go.Sort
set_option maxRecDepth 100000
set_option linter.unusedVariables false
theorem CL.three {w : World} {g : Nat} {a b c : Value} (h : CL w g [a, b, c]) :
    (w.cell? ⟨g, 0, none⟩ = some a ∧ w.cell? ⟨g, 1, none⟩ = some b ∧ w.cell? ⟨g, 2, none⟩ = some c) ∧ w.frozen? ⟨g, 0, none⟩ = false ∧ w.frozen? ⟨g, 1, none⟩ = false ∧ w.frozen? ⟨g, 2, none⟩ = false :=
  ⟨⟨(h.at' 0 a rfl).1, (h.at' 1 b rfl).1, (h.at' 2 c rfl).1⟩, (h.at' 0 a rfl).2, (h.at' 1 b rfl).2, (h.at' 2 c rfl).2⟩
theorem CL.four {w : World} {g : Nat} {a b c d : Value} (h : CL w g [a, b, c, d]) :
    (w.cell? ⟨g, 0, none⟩ = some a ∧ w.cell? ⟨g, 1, none⟩ = some b ∧ w.cell? ⟨g, 2, none⟩ = some c ∧ w.cell? ⟨g, 3, none⟩ = some d) ∧ w.frozen? ⟨g, 0, none⟩ = false ∧ w.frozen? ⟨g, 1, none⟩ = false ∧ w.frozen? ⟨g, 2, none⟩ = false ∧ w.frozen? ⟨g, 3, none⟩ = false :=
  ⟨⟨(h.at' 0 a rfl).1, (h.at' 1 b rfl).1, (h.at' 2 c rfl).1, (h.at' 3 d rfl).1⟩, (h.at' 0 a rfl).2, (h.at' 1 b rfl).2, (h.at' 2 c rfl).2, (h.at' 3 d rfl).2⟩
theorem fit_two {T : TypeId} (k : Nat) (x y : Int) (w : World) (hk0 : 1 ≤ k) (hk1 : k ≤ 7) (c : Bool) (hc : c = decide ((0 ≤ x ∧ x < (256 ^ k : Nat)) ∧ 0 ≤ y ∧ y < (256 ^ k : Nat))) :
    Calls Tryz.prog 55 #[.int .i64 k, .slice (some ⟨w.heap.size, 0, none⟩) 2 2] (w.alloc (.cells #[.int .i64 x, .int .i64 y] T)) fun e w' => e = .returned (.bool c) ∧ Gr w w' := by
  refine (fit_any w.heap.size 2 k [x, y] _ (CL.new w (ints [x, y]) T _ rfl) hk0 hk1 (by simp) c (by rw [hc]; congr 1; simp [fitB])).mono ?_
  rintro e w' ⟨rfl, rfl⟩
  exact ⟨rfl, (Gr.refl w).alloc _⟩
theorem fit_three {T : TypeId} (k : Nat) (x y z : Int) (w : World) (hk0 : 1 ≤ k) (hk1 : k ≤ 7) (c : Bool) (hc : c = decide ((0 ≤ x ∧ x < (256 ^ k : Nat)) ∧ (0 ≤ y ∧ y < (256 ^ k : Nat)) ∧ 0 ≤ z ∧ z < (256 ^ k : Nat))) :
    Calls Tryz.prog 55 #[.int .i64 k, .slice (some ⟨w.heap.size, 0, none⟩) 3 3] (w.alloc (.cells #[.int .i64 x, .int .i64 y, .int .i64 z] T)) fun e w' => e = .returned (.bool c) ∧ Gr w w' := by
  refine (fit_any w.heap.size 3 k [x, y, z] _ (CL.new w (ints [x, y, z]) T _ rfl) hk0 hk1 (by simp) c (by rw [hc]; congr 1; simp [fitB])).mono ?_
  rintro e w' ⟨rfl, rfl⟩
  exact ⟨rfl, (Gr.refl w).alloc _⟩
def echoA (r : Bool) : List Nat := bput (if r then 0 else 8) 1 ++ bput 0 1
def echoZ (a b : Nat) (d : List Nat) : List Nat := bput a 2 ++ bput b 2 ++ d
def echoL (r : Bool) (a b : Nat) (d : List Nat) : List Nat := msg s0 (echoA r) (echoZ a b d)
set_option maxHeartbeats 2000000 in
theorem echo_ok {p : Nat → Prop} {v : Value} {d : List Nat} (r : Bool) (a b : Nat) (w : World) (hr : Rb p w v d) (ha : a < 65536) (hb : b < 65536) (hl : d.length ≤ 1472) :
    Calls Tryz.prog 47 #[.agg #[.bool r, .int .i64 a, .int .i64 b, v]] w fun e w' => ∃ v', e = .returned (.tuple #[v', .int .i64 0]) ∧ OwB w.heap.size w' v' (echoL r a b d) ∧ Gr w w' := by
  cases r with
  | false =>
    have HR := Lib.hid hr
    obtain ⟨av, cv, rfl, -, -⟩ := hr.form
    obtain ⟨N, hN⟩ : ∃ N, N = d.length := ⟨_, rfl⟩
    have HN := Lib.hid hN
    have hN2 : N ≤ 1472 := by omega
    rw [← hN] at HR ⊢
    have d1 : decide ((1472 : Int) < (N : Int)) = false := by rw [decide_eq_false_iff_not]; omega
    have hC := CL.new w [.bool false, .int .i64 a, .int .i64 b, .slice av N cv] 74 _ rfl
    have hG := Gr.alloc (Gr.refl w) (.cells #[.bool false, .int .i64 a, .int .i64 b, .slice av N cv] 74)
    clear hN hr hl
    go_enter Tryz.func47, Tryz.ntmps47
    go_upto_region 1 with fail
    generalize w.alloc (.cells #[.bool false, .int .i64 a, .int .i64 b, .slice av N cv] 74) = w1 at hC hG ⊢
    have HB := Lib.hid (Nat.le_refl w.heap.size)
    generalize w.heap.size = g0 at hC HB ⊢
    have HC := Lib.hid hC
    obtain ⟨⟨x0, x1, x2, x3⟩, -⟩ := hC.four
    go_wp2_with fail
    refine (fit_two 2 (a : Int) (b : Int) w1 (by omega) (by omega) true (by symm; rw [decide_eq_true_eq]; show (0 ≤ (a : Int) ∧ (a : Int) < 65536) ∧ 0 ≤ (b : Int) ∧ (b : Int) < 65536; omega)).mono ?_
    rintro e w2 ⟨rfl, hg2⟩
    clear x0 x1 x2 x3
    replace hC := hC.gr hg2
    replace hG := hG.step hg2
    obtain ⟨⟨x0, x1, x2, x3⟩, -⟩ := hC.four
    have HC := Lib.hid hC
    clear hC hg2
    go_wp2_with fail
    clear x0 x1 x2 x3
    have hS : Gr w2 w2.drew := Gr.drew (Gr.refl _)
    refine region_plain (Gr w2) (by kernel_rfl) ?_
    generalize w2.drew = w3 at hS ⊢
    refine take_at 0 (some 18) (v := ?vfalse0) rfl rfl (by kernel_rfl) (by kernel_rfl) (by kernel_rfl) (by rfl) ?yfalse0 hS ?tfalse0
    case yfalse0 =>
      intro w' hSw
      obtain ⟨⟨q0, q1, q2, q3⟩, -⟩ := (HC.out.gr hSw).four
      go_simp
      (try with_reducible rfl)
    simp only [Act.put, List.setIfInBounds_toArray, List.set_cons_zero, List.set_cons_succ]
    refine take_at 3 (some 21) (v := ?vfalse3) rfl rfl (by kernel_rfl) (by kernel_rfl) (by kernel_rfl) (by rfl) ?yfalse3 hS ?tfalse3
    case yfalse3 =>
      intro w' hSw
      obtain ⟨⟨q0, q1, q2, q3⟩, -⟩ := (HC.out.gr hSw).four
      go_simp
      (try with_reducible rfl)
    simp only [Act.put, List.setIfInBounds_toArray, List.set_cons_zero, List.set_cons_succ]
    refine take_at 4 (some 22) (v := ?vfalse4) rfl rfl (by kernel_rfl) (by kernel_rfl) (by kernel_rfl) (by rfl) ?yfalse4 hS ?tfalse4
    case yfalse4 =>
      intro w' hSw
      obtain ⟨⟨q0, q1, q2, q3⟩, -⟩ := (HC.out.gr hSw).four
      go_simp
      (try with_reducible rfl)
    simp only [Act.put, List.setIfInBounds_toArray, List.set_cons_zero, List.set_cons_succ]
    refine take_at 5 (some 23) (v := ?vfalse5) rfl rfl (by kernel_rfl) (by kernel_rfl) (by kernel_rfl) (by rfl) ?yfalse5 hS ?tfalse5
    case yfalse5 =>
      intro w' hSw
      obtain ⟨⟨q0, q1, q2, q3⟩, -⟩ := (HC.out.gr hSw).four
      go_simp
      (try with_reducible rfl)
    simp only [Act.put, List.setIfInBounds_toArray, List.set_cons_zero, List.set_cons_succ]
    refine take_at 6 (some 24) (v := ?vfalse6) rfl rfl (by kernel_rfl) (by kernel_rfl) (by kernel_rfl) (by rfl) ?yfalse6 hS ?tfalse6
    case yfalse6 =>
      intro w' hSw
      obtain ⟨⟨q0, q1, q2, q3⟩, -⟩ := (HC.out.gr hSw).four
      go_simp
      (try with_reducible rfl)
    simp only [Act.put, List.setIfInBounds_toArray, List.set_cons_zero, List.set_cons_succ]
    refine take_at 9 (some 27) (v := ?vfalse9) rfl rfl (by kernel_rfl) (by kernel_rfl) (by kernel_rfl) (by rfl) ?yfalse9 hS ?tfalse9
    case yfalse9 =>
      intro w' hSw
      obtain ⟨⟨q0, q1, q2, q3⟩, -⟩ := (HC.out.gr hSw).four
      go_simp
      (try with_reducible rfl)
    simp only [Act.put, List.setIfInBounds_toArray, List.set_cons_zero, List.set_cons_succ]
    refine take_at 10 (some 28) (v := ?vfalse10) rfl rfl (by kernel_rfl) (by kernel_rfl) (by kernel_rfl) (by rfl) ?yfalse10 hS ?tfalse10
    case yfalse10 =>
      intro w' hSw
      obtain ⟨⟨q0, q1, q2, q3⟩, -⟩ := (HC.out.gr hSw).four
      go_simp
      (try with_reducible rfl)
    simp only [Act.put, List.setIfInBounds_toArray, List.set_cons_zero, List.set_cons_succ]
    refine next_two 1 7 rfl rfl (by kernel_rfl) (by rfl) (by rfl) (fun K hK => ?_) (fun K hK => ?_)
    · skip
      go_simp
      have hSn := hS.alloc (.cells #[.int .i64 8, .int .i64 0] 3)
      have hgn := Gr.alloc (Gr.refl w3) (.cells #[.int .i64 8, .int .i64 0] 3)
      have hc4 := CL.new w3 [.int .i64 8, .int .i64 0] 3 _ rfl
      refine hK _ _ hSn ?_
      clear hK K hS
      have hS := hSn
      clear hSn
      generalize w3.alloc (.cells #[.int .i64 8, .int .i64 0] 3) = w4 at hS hgn hc4 ⊢
      generalize w3.heap.size = g4 at hc4 ⊢
      clear hgn
      refine next_two 2 7 rfl rfl (by kernel_rfl) (by rfl) (by rfl) (fun K hK => ?_) (fun K hK => ?_)
      · skip
        go_simp
        refine (tput_any g4 2 1 [8, 0] w4 (Rb.nil (fun _ => True) _) (by simp) hc4 (by omega) (by omega) (by simp) (by simp) (by decide)).mono ?_
        rintro e w5 ⟨v5, rfl, ho, hgn⟩
        replace hS := hS.step hgn
        obtain ⟨lv5, hl⟩ : ∃ m, m = [] ++ bputs 1 [8, 0] := ⟨_, rfl⟩
        rw [← hl] at ho
        have HLv5 := Lib.hid (show lv5.length = 2 by rw [hl]; simp [bputs, bput_len])
        have HEv5 := Lib.hid hl
        have Hv5 := Lib.hid ho.rb.any
        obtain ⟨av5, cv5, rfl, -, -⟩ := ho.rb.form
        rw [HLv5.out] at Hv5 ⊢
        refine hK _ _ hS ?_
        clear hK K ho hl hc4
        clear hgn
        refine next_at 7 rfl (by kernel_rfl) (by rfl) (fun K hK => ?_)
        go_simp
        have hSn := hS.alloc (.cells #[.int .i64 a, .int .i64 b] 3)
        have hgn := Gr.alloc (Gr.refl w5) (.cells #[.int .i64 a, .int .i64 b] 3)
        have hc6 := CL.new w5 [.int .i64 a, .int .i64 b] 3 _ rfl
        refine hK _ _ hSn ?_
        clear hK K hS
        have hS := hSn
        clear hSn
        generalize w5.alloc (.cells #[.int .i64 a, .int .i64 b] 3) = w6 at hS hgn hc6 ⊢
        generalize w5.heap.size = g6 at hc6 ⊢
        replace Hv5 := Lib.hid (Hv5.out.gr hgn)
        clear hgn
        refine next_at 8 rfl (by kernel_rfl) (by rfl) (fun K hK => ?_)
        go_simp
        refine (tput_any g6 2 2 [a, b] w6 (Rb.nil (fun _ => True) _) (by simp) hc6 (by omega) (by omega) (by simp) (by simp) (by simp; omega)).mono ?_
        rintro e w7 ⟨v7, rfl, ho, hgn⟩
        replace hS := hS.step hgn
        obtain ⟨lv7, hl⟩ : ∃ m, m = [] ++ bputs 2 [a, b] := ⟨_, rfl⟩
        rw [← hl] at ho
        have HLv7 := Lib.hid (show lv7.length = 4 by rw [hl]; simp [bputs, bput_len])
        have HEv7 := Lib.hid hl
        have Hv7 := Lib.hid ho.rb.any
        obtain ⟨av7, cv7, rfl, -, -⟩ := ho.rb.form
        rw [HLv7.out] at Hv7 ⊢
        refine hK _ _ hS ?_
        clear hK K ho hl hc6
        replace Hv5 := Lib.hid (Hv5.out.gr hgn)
        clear hgn
        refine next_at 11 rfl (by kernel_rfl) (by rfl) (fun K hK => ?_)
        go_simp
        have hSn := hS.alloc (.cells #[.slice av7 4 cv7, .slice av N cv] 22)
        have hgn := Gr.alloc (Gr.refl w7) (.cells #[.slice av7 4 cv7, .slice av N cv] 22)
        have hcb := CL.new w7 [.slice av7 4 cv7, .slice av N cv] 22 _ rfl
        refine hK _ _ hSn ?_
        clear hK K hS
        have hS := hSn
        clear hSn
        generalize w7.alloc (.cells #[.slice av7 4 cv7, .slice av N cv] 22) = wb at hS hgn hcb ⊢
        generalize w7.heap.size = gb at hcb ⊢
        replace Hv5 := Lib.hid (Hv5.out.gr hgn)
        refine next_at 12 rfl (by kernel_rfl) (by rfl) (fun K hK => ?_)
        go_simp
        refine (concat_two gb 2 wb (Hv7.out.gr hgn) (HR.out.gr (hG.step hS)) (by rw [HLv7.out]; omega) (by have := HN.out; omega) (by rw [HLv7.out]; omega) (hcb.at' 0 _ rfl).1 (hcb.at' 1 _ rfl).1).mono ?_
        rintro e wc ⟨vc, rfl, ho, hgn⟩
        replace hS := hS.step hgn
        obtain ⟨lvc, hl⟩ : ∃ m, m = lv7 ++ d := ⟨_, rfl⟩
        rw [← hl] at ho
        obtain ⟨nvc, hn⟩ : ∃ n, n = lvc.length := ⟨_, rfl⟩
        have HLvc := Lib.hid hn
        have HEvc := Lib.hid hl
        have Hvc := Lib.hid ho.rb.any
        obtain ⟨avc, cvc, rfl, -, -⟩ := ho.rb.form
        rw [← hn] at Hvc ⊢
        refine hK _ _ hS ?_
        clear hK K ho hl hn hcb
        replace Hv5 := Lib.hid (Hv5.out.gr hgn)
        clear hgn Hv7
        have hz := hG.step hS
        refine next_at 13 rfl (by kernel_rfl) (by rfl) (fun K hK => ?_)
        go_simp
        refine (summed_0 wc Hv5.out Hvc.out (by rw [HLv5.out]; omega) (by rw [HEvc.out, List.length_append, HLv7.out]; have := HN.out; omega)).mono ?_
        rintro e wd ⟨vd, rfl, ho, hgn⟩
        replace hS := hS.step hgn
        replace ho := ho.base (Gr.size hz)
        refine hK _ _ hS ?_
        clear hK K hgn hz
        refine next_at 14 rfl (by kernel_rfl) (by rfl) (fun K hK => ?_)
        go_simp
        refine hK _ _ hS ?_
        clear hK K
        refine next_at 15 rfl (by kernel_rfl) (by rfl) (fun K hK => ?_)
        go_simp
        refine hK _ _ hS ?_
        clear hK K
        refine wpAnyH_done (by kernel_rfl) ?_ _
        refine qz_normal ?_
        have hz := hG.step hS
        go_wp2_with fail
        go_ret2
        rw [HEvc.out, HEv5.out, HEv7.out] at ho
        exact ⟨_, rfl, ho, hz⟩
      · skip
        go_simp
        have hSn := hS.alloc (.cells #[.int .i64 a, .int .i64 b] 3)
        have hgn := Gr.alloc (Gr.refl w4) (.cells #[.int .i64 a, .int .i64 b] 3)
        have hc5 := CL.new w4 [.int .i64 a, .int .i64 b] 3 _ rfl
        refine hK _ _ hSn ?_
        clear hK K hS
        have hS := hSn
        clear hSn
        generalize w4.alloc (.cells #[.int .i64 a, .int .i64 b] 3) = w5 at hS hgn hc5 ⊢
        generalize w4.heap.size = g5 at hc5 ⊢
        replace hc4 := hc4.gr hgn
        clear hgn
        refine next_at 2 rfl (by kernel_rfl) (by rfl) (fun K hK => ?_)
        go_simp
        refine (tput_any g4 2 1 [8, 0] w5 (Rb.nil (fun _ => True) _) (by simp) hc4 (by omega) (by omega) (by simp) (by simp) (by decide)).mono ?_
        rintro e w6 ⟨v5, rfl, ho, hgn⟩
        replace hS := hS.step hgn
        obtain ⟨lv5, hl⟩ : ∃ m, m = [] ++ bputs 1 [8, 0] := ⟨_, rfl⟩
        rw [← hl] at ho
        have HLv5 := Lib.hid (show lv5.length = 2 by rw [hl]; simp [bputs, bput_len])
        have HEv5 := Lib.hid hl
        have Hv5 := Lib.hid ho.rb.any
        obtain ⟨av5, cv5, rfl, -, -⟩ := ho.rb.form
        rw [HLv5.out] at Hv5 ⊢
        refine hK _ _ hS ?_
        clear hK K ho hl hc4
        replace hc5 := hc5.gr hgn
        clear hgn
        refine next_at 8 rfl (by kernel_rfl) (by rfl) (fun K hK => ?_)
        go_simp
        refine (tput_any g5 2 2 [a, b] w6 (Rb.nil (fun _ => True) _) (by simp) hc5 (by omega) (by omega) (by simp) (by simp) (by simp; omega)).mono ?_
        rintro e w7 ⟨v7, rfl, ho, hgn⟩
        replace hS := hS.step hgn
        obtain ⟨lv7, hl⟩ : ∃ m, m = [] ++ bputs 2 [a, b] := ⟨_, rfl⟩
        rw [← hl] at ho
        have HLv7 := Lib.hid (show lv7.length = 4 by rw [hl]; simp [bputs, bput_len])
        have HEv7 := Lib.hid hl
        have Hv7 := Lib.hid ho.rb.any
        obtain ⟨av7, cv7, rfl, -, -⟩ := ho.rb.form
        rw [HLv7.out] at Hv7 ⊢
        refine hK _ _ hS ?_
        clear hK K ho hl hc5
        replace Hv5 := Lib.hid (Hv5.out.gr hgn)
        clear hgn
        refine next_at 11 rfl (by kernel_rfl) (by rfl) (fun K hK => ?_)
        go_simp
        have hSn := hS.alloc (.cells #[.slice av7 4 cv7, .slice av N cv] 22)
        have hgn := Gr.alloc (Gr.refl w7) (.cells #[.slice av7 4 cv7, .slice av N cv] 22)
        have hcb := CL.new w7 [.slice av7 4 cv7, .slice av N cv] 22 _ rfl
        refine hK _ _ hSn ?_
        clear hK K hS
        have hS := hSn
        clear hSn
        generalize w7.alloc (.cells #[.slice av7 4 cv7, .slice av N cv] 22) = wb at hS hgn hcb ⊢
        generalize w7.heap.size = gb at hcb ⊢
        replace Hv5 := Lib.hid (Hv5.out.gr hgn)
        refine next_at 12 rfl (by kernel_rfl) (by rfl) (fun K hK => ?_)
        go_simp
        refine (concat_two gb 2 wb (Hv7.out.gr hgn) (HR.out.gr (hG.step hS)) (by rw [HLv7.out]; omega) (by have := HN.out; omega) (by rw [HLv7.out]; omega) (hcb.at' 0 _ rfl).1 (hcb.at' 1 _ rfl).1).mono ?_
        rintro e wc ⟨vc, rfl, ho, hgn⟩
        replace hS := hS.step hgn
        obtain ⟨lvc, hl⟩ : ∃ m, m = lv7 ++ d := ⟨_, rfl⟩
        rw [← hl] at ho
        obtain ⟨nvc, hn⟩ : ∃ n, n = lvc.length := ⟨_, rfl⟩
        have HLvc := Lib.hid hn
        have HEvc := Lib.hid hl
        have Hvc := Lib.hid ho.rb.any
        obtain ⟨avc, cvc, rfl, -, -⟩ := ho.rb.form
        rw [← hn] at Hvc ⊢
        refine hK _ _ hS ?_
        clear hK K ho hl hn hcb
        replace Hv5 := Lib.hid (Hv5.out.gr hgn)
        clear hgn Hv7
        have hz := hG.step hS
        refine next_at 13 rfl (by kernel_rfl) (by rfl) (fun K hK => ?_)
        go_simp
        refine (summed_0 wc Hv5.out Hvc.out (by rw [HLv5.out]; omega) (by rw [HEvc.out, List.length_append, HLv7.out]; have := HN.out; omega)).mono ?_
        rintro e wd ⟨vd, rfl, ho, hgn⟩
        replace hS := hS.step hgn
        replace ho := ho.base (Gr.size hz)
        refine hK _ _ hS ?_
        clear hK K hgn hz
        refine next_at 14 rfl (by kernel_rfl) (by rfl) (fun K hK => ?_)
        go_simp
        refine hK _ _ hS ?_
        clear hK K
        refine next_at 15 rfl (by kernel_rfl) (by rfl) (fun K hK => ?_)
        go_simp
        refine hK _ _ hS ?_
        clear hK K
        refine wpAnyH_done (by kernel_rfl) ?_ _
        refine qz_normal ?_
        have hz := hG.step hS
        go_wp2_with fail
        go_ret2
        rw [HEvc.out, HEv5.out, HEv7.out] at ho
        exact ⟨_, rfl, ho, hz⟩
    · skip
      go_simp
      have hSn := hS.alloc (.cells #[.int .i64 a, .int .i64 b] 3)
      have hgn := Gr.alloc (Gr.refl w3) (.cells #[.int .i64 a, .int .i64 b] 3)
      have hc5 := CL.new w3 [.int .i64 a, .int .i64 b] 3 _ rfl
      refine hK _ _ hSn ?_
      clear hK K hS
      have hS := hSn
      clear hSn
      generalize w3.alloc (.cells #[.int .i64 a, .int .i64 b] 3) = w4 at hS hgn hc5 ⊢
      generalize w3.heap.size = g5 at hc5 ⊢
      clear hgn
      refine next_at 1 rfl (by kernel_rfl) (by rfl) (fun K hK => ?_)
      go_simp
      have hSn := hS.alloc (.cells #[.int .i64 8, .int .i64 0] 3)
      have hgn := Gr.alloc (Gr.refl w4) (.cells #[.int .i64 8, .int .i64 0] 3)
      have hc4 := CL.new w4 [.int .i64 8, .int .i64 0] 3 _ rfl
      refine hK _ _ hSn ?_
      clear hK K hS
      have hS := hSn
      clear hSn
      generalize w4.alloc (.cells #[.int .i64 8, .int .i64 0] 3) = w5 at hS hgn hc4 ⊢
      generalize w4.heap.size = g4 at hc4 ⊢
      replace hc5 := hc5.gr hgn
      clear hgn
      refine next_at 2 rfl (by kernel_rfl) (by rfl) (fun K hK => ?_)
      go_simp
      refine (tput_any g4 2 1 [8, 0] w5 (Rb.nil (fun _ => True) _) (by simp) hc4 (by omega) (by omega) (by simp) (by simp) (by decide)).mono ?_
      rintro e w6 ⟨v5, rfl, ho, hgn⟩
      replace hS := hS.step hgn
      obtain ⟨lv5, hl⟩ : ∃ m, m = [] ++ bputs 1 [8, 0] := ⟨_, rfl⟩
      rw [← hl] at ho
      have HLv5 := Lib.hid (show lv5.length = 2 by rw [hl]; simp [bputs, bput_len])
      have HEv5 := Lib.hid hl
      have Hv5 := Lib.hid ho.rb.any
      obtain ⟨av5, cv5, rfl, -, -⟩ := ho.rb.form
      rw [HLv5.out] at Hv5 ⊢
      refine hK _ _ hS ?_
      clear hK K ho hl hc4
      replace hc5 := hc5.gr hgn
      clear hgn
      refine next_at 8 rfl (by kernel_rfl) (by rfl) (fun K hK => ?_)
      go_simp
      refine (tput_any g5 2 2 [a, b] w6 (Rb.nil (fun _ => True) _) (by simp) hc5 (by omega) (by omega) (by simp) (by simp) (by simp; omega)).mono ?_
      rintro e w7 ⟨v7, rfl, ho, hgn⟩
      replace hS := hS.step hgn
      obtain ⟨lv7, hl⟩ : ∃ m, m = [] ++ bputs 2 [a, b] := ⟨_, rfl⟩
      rw [← hl] at ho
      have HLv7 := Lib.hid (show lv7.length = 4 by rw [hl]; simp [bputs, bput_len])
      have HEv7 := Lib.hid hl
      have Hv7 := Lib.hid ho.rb.any
      obtain ⟨av7, cv7, rfl, -, -⟩ := ho.rb.form
      rw [HLv7.out] at Hv7 ⊢
      refine hK _ _ hS ?_
      clear hK K ho hl hc5
      replace Hv5 := Lib.hid (Hv5.out.gr hgn)
      clear hgn
      refine next_at 11 rfl (by kernel_rfl) (by rfl) (fun K hK => ?_)
      go_simp
      have hSn := hS.alloc (.cells #[.slice av7 4 cv7, .slice av N cv] 22)
      have hgn := Gr.alloc (Gr.refl w7) (.cells #[.slice av7 4 cv7, .slice av N cv] 22)
      have hcb := CL.new w7 [.slice av7 4 cv7, .slice av N cv] 22 _ rfl
      refine hK _ _ hSn ?_
      clear hK K hS
      have hS := hSn
      clear hSn
      generalize w7.alloc (.cells #[.slice av7 4 cv7, .slice av N cv] 22) = wb at hS hgn hcb ⊢
      generalize w7.heap.size = gb at hcb ⊢
      replace Hv5 := Lib.hid (Hv5.out.gr hgn)
      refine next_at 12 rfl (by kernel_rfl) (by rfl) (fun K hK => ?_)
      go_simp
      refine (concat_two gb 2 wb (Hv7.out.gr hgn) (HR.out.gr (hG.step hS)) (by rw [HLv7.out]; omega) (by have := HN.out; omega) (by rw [HLv7.out]; omega) (hcb.at' 0 _ rfl).1 (hcb.at' 1 _ rfl).1).mono ?_
      rintro e wc ⟨vc, rfl, ho, hgn⟩
      replace hS := hS.step hgn
      obtain ⟨lvc, hl⟩ : ∃ m, m = lv7 ++ d := ⟨_, rfl⟩
      rw [← hl] at ho
      obtain ⟨nvc, hn⟩ : ∃ n, n = lvc.length := ⟨_, rfl⟩
      have HLvc := Lib.hid hn
      have HEvc := Lib.hid hl
      have Hvc := Lib.hid ho.rb.any
      obtain ⟨avc, cvc, rfl, -, -⟩ := ho.rb.form
      rw [← hn] at Hvc ⊢
      refine hK _ _ hS ?_
      clear hK K ho hl hn hcb
      replace Hv5 := Lib.hid (Hv5.out.gr hgn)
      clear hgn Hv7
      have hz := hG.step hS
      refine next_at 13 rfl (by kernel_rfl) (by rfl) (fun K hK => ?_)
      go_simp
      refine (summed_0 wc Hv5.out Hvc.out (by rw [HLv5.out]; omega) (by rw [HEvc.out, List.length_append, HLv7.out]; have := HN.out; omega)).mono ?_
      rintro e wd ⟨vd, rfl, ho, hgn⟩
      replace hS := hS.step hgn
      replace ho := ho.base (Gr.size hz)
      refine hK _ _ hS ?_
      clear hK K hgn hz
      refine next_at 14 rfl (by kernel_rfl) (by rfl) (fun K hK => ?_)
      go_simp
      refine hK _ _ hS ?_
      clear hK K
      refine next_at 15 rfl (by kernel_rfl) (by rfl) (fun K hK => ?_)
      go_simp
      refine hK _ _ hS ?_
      clear hK K
      refine wpAnyH_done (by kernel_rfl) ?_ _
      refine qz_normal ?_
      have hz := hG.step hS
      go_wp2_with fail
      go_ret2
      rw [HEvc.out, HEv5.out, HEv7.out] at ho
      exact ⟨_, rfl, ho, hz⟩
  | true =>
    have HR := Lib.hid hr
    obtain ⟨av, cv, rfl, -, -⟩ := hr.form
    obtain ⟨N, hN⟩ : ∃ N, N = d.length := ⟨_, rfl⟩
    have HN := Lib.hid hN
    have hN2 : N ≤ 1472 := by omega
    rw [← hN] at HR ⊢
    have d1 : decide ((1472 : Int) < (N : Int)) = false := by rw [decide_eq_false_iff_not]; omega
    have hC := CL.new w [.bool true, .int .i64 a, .int .i64 b, .slice av N cv] 74 _ rfl
    have hG := Gr.alloc (Gr.refl w) (.cells #[.bool true, .int .i64 a, .int .i64 b, .slice av N cv] 74)
    clear hN hr hl
    go_enter Tryz.func47, Tryz.ntmps47
    go_upto_region 1 with fail
    generalize w.alloc (.cells #[.bool true, .int .i64 a, .int .i64 b, .slice av N cv] 74) = w1 at hC hG ⊢
    have HB := Lib.hid (Nat.le_refl w.heap.size)
    generalize w.heap.size = g0 at hC HB ⊢
    have HC := Lib.hid hC
    obtain ⟨⟨x0, x1, x2, x3⟩, -⟩ := hC.four
    go_wp2_with fail
    refine (fit_two 2 (a : Int) (b : Int) w1 (by omega) (by omega) true (by symm; rw [decide_eq_true_eq]; show (0 ≤ (a : Int) ∧ (a : Int) < 65536) ∧ 0 ≤ (b : Int) ∧ (b : Int) < 65536; omega)).mono ?_
    rintro e w2 ⟨rfl, hg2⟩
    clear x0 x1 x2 x3
    replace hC := hC.gr hg2
    replace hG := hG.step hg2
    obtain ⟨⟨x0, x1, x2, x3⟩, -⟩ := hC.four
    have HC := Lib.hid hC
    clear hC hg2
    go_wp2_with fail
    clear x0 x1 x2 x3
    have hS : Gr w2 w2.drew := Gr.drew (Gr.refl _)
    refine region_plain (Gr w2) (by kernel_rfl) ?_
    generalize w2.drew = w3 at hS ⊢
    refine take_at 0 (some 18) (v := ?vtrue0) rfl rfl (by kernel_rfl) (by kernel_rfl) (by kernel_rfl) (by rfl) ?ytrue0 hS ?ttrue0
    case ytrue0 =>
      intro w' hSw
      obtain ⟨⟨q0, q1, q2, q3⟩, -⟩ := (HC.out.gr hSw).four
      go_simp
      (try with_reducible rfl)
    simp only [Act.put, List.setIfInBounds_toArray, List.set_cons_zero, List.set_cons_succ]
    refine take_at 3 (some 21) (v := ?vtrue3) rfl rfl (by kernel_rfl) (by kernel_rfl) (by kernel_rfl) (by rfl) ?ytrue3 hS ?ttrue3
    case ytrue3 =>
      intro w' hSw
      obtain ⟨⟨q0, q1, q2, q3⟩, -⟩ := (HC.out.gr hSw).four
      go_simp
      (try with_reducible rfl)
    simp only [Act.put, List.setIfInBounds_toArray, List.set_cons_zero, List.set_cons_succ]
    refine take_at 4 (some 22) (v := ?vtrue4) rfl rfl (by kernel_rfl) (by kernel_rfl) (by kernel_rfl) (by rfl) ?ytrue4 hS ?ttrue4
    case ytrue4 =>
      intro w' hSw
      obtain ⟨⟨q0, q1, q2, q3⟩, -⟩ := (HC.out.gr hSw).four
      go_simp
      (try with_reducible rfl)
    simp only [Act.put, List.setIfInBounds_toArray, List.set_cons_zero, List.set_cons_succ]
    refine take_at 5 (some 23) (v := ?vtrue5) rfl rfl (by kernel_rfl) (by kernel_rfl) (by kernel_rfl) (by rfl) ?ytrue5 hS ?ttrue5
    case ytrue5 =>
      intro w' hSw
      obtain ⟨⟨q0, q1, q2, q3⟩, -⟩ := (HC.out.gr hSw).four
      go_simp
      (try with_reducible rfl)
    simp only [Act.put, List.setIfInBounds_toArray, List.set_cons_zero, List.set_cons_succ]
    refine take_at 6 (some 24) (v := ?vtrue6) rfl rfl (by kernel_rfl) (by kernel_rfl) (by kernel_rfl) (by rfl) ?ytrue6 hS ?ttrue6
    case ytrue6 =>
      intro w' hSw
      obtain ⟨⟨q0, q1, q2, q3⟩, -⟩ := (HC.out.gr hSw).four
      go_simp
      (try with_reducible rfl)
    simp only [Act.put, List.setIfInBounds_toArray, List.set_cons_zero, List.set_cons_succ]
    refine take_at 9 (some 27) (v := ?vtrue9) rfl rfl (by kernel_rfl) (by kernel_rfl) (by kernel_rfl) (by rfl) ?ytrue9 hS ?ttrue9
    case ytrue9 =>
      intro w' hSw
      obtain ⟨⟨q0, q1, q2, q3⟩, -⟩ := (HC.out.gr hSw).four
      go_simp
      (try with_reducible rfl)
    simp only [Act.put, List.setIfInBounds_toArray, List.set_cons_zero, List.set_cons_succ]
    refine take_at 10 (some 28) (v := ?vtrue10) rfl rfl (by kernel_rfl) (by kernel_rfl) (by kernel_rfl) (by rfl) ?ytrue10 hS ?ttrue10
    case ytrue10 =>
      intro w' hSw
      obtain ⟨⟨q0, q1, q2, q3⟩, -⟩ := (HC.out.gr hSw).four
      go_simp
      (try with_reducible rfl)
    simp only [Act.put, List.setIfInBounds_toArray, List.set_cons_zero, List.set_cons_succ]
    refine next_two 1 7 rfl rfl (by kernel_rfl) (by rfl) (by rfl) (fun K hK => ?_) (fun K hK => ?_)
    · skip
      go_simp
      have hSn := hS.alloc (.cells #[.int .i64 0, .int .i64 0] 3)
      have hgn := Gr.alloc (Gr.refl w3) (.cells #[.int .i64 0, .int .i64 0] 3)
      have hc4 := CL.new w3 [.int .i64 0, .int .i64 0] 3 _ rfl
      refine hK _ _ hSn ?_
      clear hK K hS
      have hS := hSn
      clear hSn
      generalize w3.alloc (.cells #[.int .i64 0, .int .i64 0] 3) = w4 at hS hgn hc4 ⊢
      generalize w3.heap.size = g4 at hc4 ⊢
      clear hgn
      refine next_two 2 7 rfl rfl (by kernel_rfl) (by rfl) (by rfl) (fun K hK => ?_) (fun K hK => ?_)
      · skip
        go_simp
        refine (tput_any g4 2 1 [0, 0] w4 (Rb.nil (fun _ => True) _) (by simp) hc4 (by omega) (by omega) (by simp) (by simp) (by decide)).mono ?_
        rintro e w5 ⟨v5, rfl, ho, hgn⟩
        replace hS := hS.step hgn
        obtain ⟨lv5, hl⟩ : ∃ m, m = [] ++ bputs 1 [0, 0] := ⟨_, rfl⟩
        rw [← hl] at ho
        have HLv5 := Lib.hid (show lv5.length = 2 by rw [hl]; simp [bputs, bput_len])
        have HEv5 := Lib.hid hl
        have Hv5 := Lib.hid ho.rb.any
        obtain ⟨av5, cv5, rfl, -, -⟩ := ho.rb.form
        rw [HLv5.out] at Hv5 ⊢
        refine hK _ _ hS ?_
        clear hK K ho hl hc4
        clear hgn
        refine next_at 7 rfl (by kernel_rfl) (by rfl) (fun K hK => ?_)
        go_simp
        have hSn := hS.alloc (.cells #[.int .i64 a, .int .i64 b] 3)
        have hgn := Gr.alloc (Gr.refl w5) (.cells #[.int .i64 a, .int .i64 b] 3)
        have hc6 := CL.new w5 [.int .i64 a, .int .i64 b] 3 _ rfl
        refine hK _ _ hSn ?_
        clear hK K hS
        have hS := hSn
        clear hSn
        generalize w5.alloc (.cells #[.int .i64 a, .int .i64 b] 3) = w6 at hS hgn hc6 ⊢
        generalize w5.heap.size = g6 at hc6 ⊢
        replace Hv5 := Lib.hid (Hv5.out.gr hgn)
        clear hgn
        refine next_at 8 rfl (by kernel_rfl) (by rfl) (fun K hK => ?_)
        go_simp
        refine (tput_any g6 2 2 [a, b] w6 (Rb.nil (fun _ => True) _) (by simp) hc6 (by omega) (by omega) (by simp) (by simp) (by simp; omega)).mono ?_
        rintro e w7 ⟨v7, rfl, ho, hgn⟩
        replace hS := hS.step hgn
        obtain ⟨lv7, hl⟩ : ∃ m, m = [] ++ bputs 2 [a, b] := ⟨_, rfl⟩
        rw [← hl] at ho
        have HLv7 := Lib.hid (show lv7.length = 4 by rw [hl]; simp [bputs, bput_len])
        have HEv7 := Lib.hid hl
        have Hv7 := Lib.hid ho.rb.any
        obtain ⟨av7, cv7, rfl, -, -⟩ := ho.rb.form
        rw [HLv7.out] at Hv7 ⊢
        refine hK _ _ hS ?_
        clear hK K ho hl hc6
        replace Hv5 := Lib.hid (Hv5.out.gr hgn)
        clear hgn
        refine next_at 11 rfl (by kernel_rfl) (by rfl) (fun K hK => ?_)
        go_simp
        have hSn := hS.alloc (.cells #[.slice av7 4 cv7, .slice av N cv] 22)
        have hgn := Gr.alloc (Gr.refl w7) (.cells #[.slice av7 4 cv7, .slice av N cv] 22)
        have hcb := CL.new w7 [.slice av7 4 cv7, .slice av N cv] 22 _ rfl
        refine hK _ _ hSn ?_
        clear hK K hS
        have hS := hSn
        clear hSn
        generalize w7.alloc (.cells #[.slice av7 4 cv7, .slice av N cv] 22) = wb at hS hgn hcb ⊢
        generalize w7.heap.size = gb at hcb ⊢
        replace Hv5 := Lib.hid (Hv5.out.gr hgn)
        refine next_at 12 rfl (by kernel_rfl) (by rfl) (fun K hK => ?_)
        go_simp
        refine (concat_two gb 2 wb (Hv7.out.gr hgn) (HR.out.gr (hG.step hS)) (by rw [HLv7.out]; omega) (by have := HN.out; omega) (by rw [HLv7.out]; omega) (hcb.at' 0 _ rfl).1 (hcb.at' 1 _ rfl).1).mono ?_
        rintro e wc ⟨vc, rfl, ho, hgn⟩
        replace hS := hS.step hgn
        obtain ⟨lvc, hl⟩ : ∃ m, m = lv7 ++ d := ⟨_, rfl⟩
        rw [← hl] at ho
        obtain ⟨nvc, hn⟩ : ∃ n, n = lvc.length := ⟨_, rfl⟩
        have HLvc := Lib.hid hn
        have HEvc := Lib.hid hl
        have Hvc := Lib.hid ho.rb.any
        obtain ⟨avc, cvc, rfl, -, -⟩ := ho.rb.form
        rw [← hn] at Hvc ⊢
        refine hK _ _ hS ?_
        clear hK K ho hl hn hcb
        replace Hv5 := Lib.hid (Hv5.out.gr hgn)
        clear hgn Hv7
        have hz := hG.step hS
        refine next_at 13 rfl (by kernel_rfl) (by rfl) (fun K hK => ?_)
        go_simp
        refine (summed_0 wc Hv5.out Hvc.out (by rw [HLv5.out]; omega) (by rw [HEvc.out, List.length_append, HLv7.out]; have := HN.out; omega)).mono ?_
        rintro e wd ⟨vd, rfl, ho, hgn⟩
        replace hS := hS.step hgn
        replace ho := ho.base (Gr.size hz)
        refine hK _ _ hS ?_
        clear hK K hgn hz
        refine next_at 14 rfl (by kernel_rfl) (by rfl) (fun K hK => ?_)
        go_simp
        refine hK _ _ hS ?_
        clear hK K
        refine next_at 15 rfl (by kernel_rfl) (by rfl) (fun K hK => ?_)
        go_simp
        refine hK _ _ hS ?_
        clear hK K
        refine wpAnyH_done (by kernel_rfl) ?_ _
        refine qz_normal ?_
        have hz := hG.step hS
        go_wp2_with fail
        go_ret2
        rw [HEvc.out, HEv5.out, HEv7.out] at ho
        exact ⟨_, rfl, ho, hz⟩
      · skip
        go_simp
        have hSn := hS.alloc (.cells #[.int .i64 a, .int .i64 b] 3)
        have hgn := Gr.alloc (Gr.refl w4) (.cells #[.int .i64 a, .int .i64 b] 3)
        have hc5 := CL.new w4 [.int .i64 a, .int .i64 b] 3 _ rfl
        refine hK _ _ hSn ?_
        clear hK K hS
        have hS := hSn
        clear hSn
        generalize w4.alloc (.cells #[.int .i64 a, .int .i64 b] 3) = w5 at hS hgn hc5 ⊢
        generalize w4.heap.size = g5 at hc5 ⊢
        replace hc4 := hc4.gr hgn
        clear hgn
        refine next_at 2 rfl (by kernel_rfl) (by rfl) (fun K hK => ?_)
        go_simp
        refine (tput_any g4 2 1 [0, 0] w5 (Rb.nil (fun _ => True) _) (by simp) hc4 (by omega) (by omega) (by simp) (by simp) (by decide)).mono ?_
        rintro e w6 ⟨v5, rfl, ho, hgn⟩
        replace hS := hS.step hgn
        obtain ⟨lv5, hl⟩ : ∃ m, m = [] ++ bputs 1 [0, 0] := ⟨_, rfl⟩
        rw [← hl] at ho
        have HLv5 := Lib.hid (show lv5.length = 2 by rw [hl]; simp [bputs, bput_len])
        have HEv5 := Lib.hid hl
        have Hv5 := Lib.hid ho.rb.any
        obtain ⟨av5, cv5, rfl, -, -⟩ := ho.rb.form
        rw [HLv5.out] at Hv5 ⊢
        refine hK _ _ hS ?_
        clear hK K ho hl hc4
        replace hc5 := hc5.gr hgn
        clear hgn
        refine next_at 8 rfl (by kernel_rfl) (by rfl) (fun K hK => ?_)
        go_simp
        refine (tput_any g5 2 2 [a, b] w6 (Rb.nil (fun _ => True) _) (by simp) hc5 (by omega) (by omega) (by simp) (by simp) (by simp; omega)).mono ?_
        rintro e w7 ⟨v7, rfl, ho, hgn⟩
        replace hS := hS.step hgn
        obtain ⟨lv7, hl⟩ : ∃ m, m = [] ++ bputs 2 [a, b] := ⟨_, rfl⟩
        rw [← hl] at ho
        have HLv7 := Lib.hid (show lv7.length = 4 by rw [hl]; simp [bputs, bput_len])
        have HEv7 := Lib.hid hl
        have Hv7 := Lib.hid ho.rb.any
        obtain ⟨av7, cv7, rfl, -, -⟩ := ho.rb.form
        rw [HLv7.out] at Hv7 ⊢
        refine hK _ _ hS ?_
        clear hK K ho hl hc5
        replace Hv5 := Lib.hid (Hv5.out.gr hgn)
        clear hgn
        refine next_at 11 rfl (by kernel_rfl) (by rfl) (fun K hK => ?_)
        go_simp
        have hSn := hS.alloc (.cells #[.slice av7 4 cv7, .slice av N cv] 22)
        have hgn := Gr.alloc (Gr.refl w7) (.cells #[.slice av7 4 cv7, .slice av N cv] 22)
        have hcb := CL.new w7 [.slice av7 4 cv7, .slice av N cv] 22 _ rfl
        refine hK _ _ hSn ?_
        clear hK K hS
        have hS := hSn
        clear hSn
        generalize w7.alloc (.cells #[.slice av7 4 cv7, .slice av N cv] 22) = wb at hS hgn hcb ⊢
        generalize w7.heap.size = gb at hcb ⊢
        replace Hv5 := Lib.hid (Hv5.out.gr hgn)
        refine next_at 12 rfl (by kernel_rfl) (by rfl) (fun K hK => ?_)
        go_simp
        refine (concat_two gb 2 wb (Hv7.out.gr hgn) (HR.out.gr (hG.step hS)) (by rw [HLv7.out]; omega) (by have := HN.out; omega) (by rw [HLv7.out]; omega) (hcb.at' 0 _ rfl).1 (hcb.at' 1 _ rfl).1).mono ?_
        rintro e wc ⟨vc, rfl, ho, hgn⟩
        replace hS := hS.step hgn
        obtain ⟨lvc, hl⟩ : ∃ m, m = lv7 ++ d := ⟨_, rfl⟩
        rw [← hl] at ho
        obtain ⟨nvc, hn⟩ : ∃ n, n = lvc.length := ⟨_, rfl⟩
        have HLvc := Lib.hid hn
        have HEvc := Lib.hid hl
        have Hvc := Lib.hid ho.rb.any
        obtain ⟨avc, cvc, rfl, -, -⟩ := ho.rb.form
        rw [← hn] at Hvc ⊢
        refine hK _ _ hS ?_
        clear hK K ho hl hn hcb
        replace Hv5 := Lib.hid (Hv5.out.gr hgn)
        clear hgn Hv7
        have hz := hG.step hS
        refine next_at 13 rfl (by kernel_rfl) (by rfl) (fun K hK => ?_)
        go_simp
        refine (summed_0 wc Hv5.out Hvc.out (by rw [HLv5.out]; omega) (by rw [HEvc.out, List.length_append, HLv7.out]; have := HN.out; omega)).mono ?_
        rintro e wd ⟨vd, rfl, ho, hgn⟩
        replace hS := hS.step hgn
        replace ho := ho.base (Gr.size hz)
        refine hK _ _ hS ?_
        clear hK K hgn hz
        refine next_at 14 rfl (by kernel_rfl) (by rfl) (fun K hK => ?_)
        go_simp
        refine hK _ _ hS ?_
        clear hK K
        refine next_at 15 rfl (by kernel_rfl) (by rfl) (fun K hK => ?_)
        go_simp
        refine hK _ _ hS ?_
        clear hK K
        refine wpAnyH_done (by kernel_rfl) ?_ _
        refine qz_normal ?_
        have hz := hG.step hS
        go_wp2_with fail
        go_ret2
        rw [HEvc.out, HEv5.out, HEv7.out] at ho
        exact ⟨_, rfl, ho, hz⟩
    · skip
      go_simp
      have hSn := hS.alloc (.cells #[.int .i64 a, .int .i64 b] 3)
      have hgn := Gr.alloc (Gr.refl w3) (.cells #[.int .i64 a, .int .i64 b] 3)
      have hc5 := CL.new w3 [.int .i64 a, .int .i64 b] 3 _ rfl
      refine hK _ _ hSn ?_
      clear hK K hS
      have hS := hSn
      clear hSn
      generalize w3.alloc (.cells #[.int .i64 a, .int .i64 b] 3) = w4 at hS hgn hc5 ⊢
      generalize w3.heap.size = g5 at hc5 ⊢
      clear hgn
      refine next_at 1 rfl (by kernel_rfl) (by rfl) (fun K hK => ?_)
      go_simp
      have hSn := hS.alloc (.cells #[.int .i64 0, .int .i64 0] 3)
      have hgn := Gr.alloc (Gr.refl w4) (.cells #[.int .i64 0, .int .i64 0] 3)
      have hc4 := CL.new w4 [.int .i64 0, .int .i64 0] 3 _ rfl
      refine hK _ _ hSn ?_
      clear hK K hS
      have hS := hSn
      clear hSn
      generalize w4.alloc (.cells #[.int .i64 0, .int .i64 0] 3) = w5 at hS hgn hc4 ⊢
      generalize w4.heap.size = g4 at hc4 ⊢
      replace hc5 := hc5.gr hgn
      clear hgn
      refine next_at 2 rfl (by kernel_rfl) (by rfl) (fun K hK => ?_)
      go_simp
      refine (tput_any g4 2 1 [0, 0] w5 (Rb.nil (fun _ => True) _) (by simp) hc4 (by omega) (by omega) (by simp) (by simp) (by decide)).mono ?_
      rintro e w6 ⟨v5, rfl, ho, hgn⟩
      replace hS := hS.step hgn
      obtain ⟨lv5, hl⟩ : ∃ m, m = [] ++ bputs 1 [0, 0] := ⟨_, rfl⟩
      rw [← hl] at ho
      have HLv5 := Lib.hid (show lv5.length = 2 by rw [hl]; simp [bputs, bput_len])
      have HEv5 := Lib.hid hl
      have Hv5 := Lib.hid ho.rb.any
      obtain ⟨av5, cv5, rfl, -, -⟩ := ho.rb.form
      rw [HLv5.out] at Hv5 ⊢
      refine hK _ _ hS ?_
      clear hK K ho hl hc4
      replace hc5 := hc5.gr hgn
      clear hgn
      refine next_at 8 rfl (by kernel_rfl) (by rfl) (fun K hK => ?_)
      go_simp
      refine (tput_any g5 2 2 [a, b] w6 (Rb.nil (fun _ => True) _) (by simp) hc5 (by omega) (by omega) (by simp) (by simp) (by simp; omega)).mono ?_
      rintro e w7 ⟨v7, rfl, ho, hgn⟩
      replace hS := hS.step hgn
      obtain ⟨lv7, hl⟩ : ∃ m, m = [] ++ bputs 2 [a, b] := ⟨_, rfl⟩
      rw [← hl] at ho
      have HLv7 := Lib.hid (show lv7.length = 4 by rw [hl]; simp [bputs, bput_len])
      have HEv7 := Lib.hid hl
      have Hv7 := Lib.hid ho.rb.any
      obtain ⟨av7, cv7, rfl, -, -⟩ := ho.rb.form
      rw [HLv7.out] at Hv7 ⊢
      refine hK _ _ hS ?_
      clear hK K ho hl hc5
      replace Hv5 := Lib.hid (Hv5.out.gr hgn)
      clear hgn
      refine next_at 11 rfl (by kernel_rfl) (by rfl) (fun K hK => ?_)
      go_simp
      have hSn := hS.alloc (.cells #[.slice av7 4 cv7, .slice av N cv] 22)
      have hgn := Gr.alloc (Gr.refl w7) (.cells #[.slice av7 4 cv7, .slice av N cv] 22)
      have hcb := CL.new w7 [.slice av7 4 cv7, .slice av N cv] 22 _ rfl
      refine hK _ _ hSn ?_
      clear hK K hS
      have hS := hSn
      clear hSn
      generalize w7.alloc (.cells #[.slice av7 4 cv7, .slice av N cv] 22) = wb at hS hgn hcb ⊢
      generalize w7.heap.size = gb at hcb ⊢
      replace Hv5 := Lib.hid (Hv5.out.gr hgn)
      refine next_at 12 rfl (by kernel_rfl) (by rfl) (fun K hK => ?_)
      go_simp
      refine (concat_two gb 2 wb (Hv7.out.gr hgn) (HR.out.gr (hG.step hS)) (by rw [HLv7.out]; omega) (by have := HN.out; omega) (by rw [HLv7.out]; omega) (hcb.at' 0 _ rfl).1 (hcb.at' 1 _ rfl).1).mono ?_
      rintro e wc ⟨vc, rfl, ho, hgn⟩
      replace hS := hS.step hgn
      obtain ⟨lvc, hl⟩ : ∃ m, m = lv7 ++ d := ⟨_, rfl⟩
      rw [← hl] at ho
      obtain ⟨nvc, hn⟩ : ∃ n, n = lvc.length := ⟨_, rfl⟩
      have HLvc := Lib.hid hn
      have HEvc := Lib.hid hl
      have Hvc := Lib.hid ho.rb.any
      obtain ⟨avc, cvc, rfl, -, -⟩ := ho.rb.form
      rw [← hn] at Hvc ⊢
      refine hK _ _ hS ?_
      clear hK K ho hl hn hcb
      replace Hv5 := Lib.hid (Hv5.out.gr hgn)
      clear hgn Hv7
      have hz := hG.step hS
      refine next_at 13 rfl (by kernel_rfl) (by rfl) (fun K hK => ?_)
      go_simp
      refine (summed_0 wc Hv5.out Hvc.out (by rw [HLv5.out]; omega) (by rw [HEvc.out, List.length_append, HLv7.out]; have := HN.out; omega)).mono ?_
      rintro e wd ⟨vd, rfl, ho, hgn⟩
      replace hS := hS.step hgn
      replace ho := ho.base (Gr.size hz)
      refine hK _ _ hS ?_
      clear hK K hgn hz
      refine next_at 14 rfl (by kernel_rfl) (by rfl) (fun K hK => ?_)
      go_simp
      refine hK _ _ hS ?_
      clear hK K
      refine next_at 15 rfl (by kernel_rfl) (by rfl) (fun K hK => ?_)
      go_simp
      refine hK _ _ hS ?_
      clear hK K
      refine wpAnyH_done (by kernel_rfl) ?_ _
      refine qz_normal ?_
      have hz := hG.step hS
      go_wp2_with fail
      go_ret2
      rw [HEvc.out, HEv5.out, HEv7.out] at ho
      exact ⟨_, rfl, ho, hz⟩
end Go.Proofs.YtkpejaiigopmgaaGreatDoor
