/- The package transport: encoding notices. -/
import Derived.Test.YtkpejaiigopmgaaGreatDoorKeM
import Derived.WalkKit
import Derived.WalkSpells
import Derived.WalkLawsBesides
import Derived.WalkSmall
import Derived.Handy
import Derived.BigQuiet
import Derived.Deep.QuietTactic
import Derived.Deep.RegionHeld3
import Derived.Deep.DeepFit
import Derived.Below
import Derived.Lib.Hide
import Derived.Lib.QuietBelow
namespace Go.Proofs.YtkpejaiigopmgaaGreatDoor
open Go Go.RowKit Go.Sort
set_option maxRecDepth 100000
set_option linter.unusedVariables false
def ntOk (n : Int) : Prop := n = 3 ∨ n = 11
instance (n : Int) : Decidable (ntOk n) := by unfold ntOk; infer_instance
theorem ntype_any (n : Int) (w : World) (c : Bool) (hc : c = decide (ntOk n)) :
    Calls Tryz.prog 54 #[.int .i64 n] w fun e w' => e = .returned (.bool c) ∧ w = w' := by
  have HC := Lib.hid hc
  clear hc
  by_cases h0 : n = 3
  · have H := Lib.hid (show c = true from HC.out.trans (decide_eq_true (.inl h0)))
    have d1 : (n == 3) = true := by rw [beq_iff_eq]; exact h0
    clear h0
    go_enter Tryz.func54, Tryz.ntmps54
    go_wp2
    go_ret
    first | exact ⟨ret_bool H.out.symm, rfl⟩ | (rw [H.out]; exact ⟨rfl, rfl⟩)
  · have d1 : (n == 3) = false := by rw [beq_eq_false_iff_ne]; exact h0
    by_cases h1 : n = 11
    · have H := Lib.hid (show c = true from HC.out.trans (decide_eq_true (.inr h1)))
      have d2 : (n == 11) = true := by rw [beq_iff_eq]; exact h1
      clear h0 h1
      go_enter Tryz.func54, Tryz.ntmps54
      go_wp2
      go_ret
      first | exact ⟨ret_bool H.out.symm, rfl⟩ | (rw [H.out]; exact ⟨rfl, rfl⟩)
    · have H := Lib.hid (show c = false from HC.out.trans (decide_eq_false (fun h => h.elim h0 h1)))
      have d2 : (n == 11) = false := by rw [beq_eq_false_iff_ne]; exact h1
      clear h0 h1
      go_enter Tryz.func54, Tryz.ntmps54
      go_wp2
      go_ret
      first | exact ⟨ret_bool H.out.symm, rfl⟩ | (rw [H.out]; exact ⟨rfl, rfl⟩)
def noteA (t c : Nat) : List Nat := bput t 1 ++ bput c 1
def noteZ (d : List Nat) : List Nat := bput 0 4 ++ d
def noteL (t c : Nat) (d : List Nat) : List Nat := msg s0 (noteA t c) (noteZ d)
set_option maxHeartbeats 2000000 in
theorem note_ok {p : Nat → Prop} {v : Value} {d : List Nat} (t c : Nat) (w : World) (hr : Rb p w v d) (ht : t = 3 ∨ t = 11) (hc : c < 256) (h28 : 28 ≤ d.length) (hl : d.length ≤ 1472) :
    Calls Tryz.prog 26 #[.agg #[.int .i64 t, .int .i64 c, v]] w fun e w' => ∃ v', e = .returned (.tuple #[v', .int .i64 0]) ∧ OwB w.heap.size w' v' (noteL t c d) ∧ Gr w w' := by
  have HR := Lib.hid hr
  obtain ⟨av, cv, rfl, -, -⟩ := hr.form
  obtain ⟨N, hN⟩ : ∃ N, N = d.length := ⟨_, rfl⟩
  have HN := Lib.hid hN
  have hN2 : N ≤ 1472 := by omega
  rw [← hN] at HR ⊢
  have d1 : decide ((1472 : Int) < (N : Int)) = false := by rw [decide_eq_false_iff_not]; omega
  have d2 : decide ((N : Int) < 28) = false := by rw [decide_eq_false_iff_not]; omega
  have HNT := Lib.hid (fun w => ntype_any (t : Int) w true (by symm; rw [decide_eq_true_eq]; unfold ntOk; omega))
  have ht2 : t < 256 := by omega
  have hC := CL.new w [.int .i64 t, .int .i64 c, .slice av N cv] 65 _ rfl
  have hG := Gr.alloc (Gr.refl w) (.cells #[.int .i64 t, .int .i64 c, .slice av N cv] 65)
  clear hN hr hl h28 ht
  go_enter Tryz.func26, Tryz.ntmps26
  go_upto_region 1 with fail
  generalize w.alloc (.cells #[.int .i64 t, .int .i64 c, .slice av N cv] 65) = w1 at hC hG ⊢
  generalize w.heap.size = g0 at hC ⊢
  obtain ⟨⟨x0, x1, x2⟩, -⟩ := hC.three
  go_wp2_with fail
  refine (HNT.out _).mono ?_
  rintro e w1' ⟨rfl, rfl⟩
  go_wp2_with fail
  refine (fit_one 1 (c : Int) w1 (by omega) (by omega) true (by symm; rw [decide_eq_true_eq]; show 0 ≤ (c : Int) ∧ (c : Int) < 256; omega)).mono ?_
  rintro e w2 ⟨rfl, hg2⟩
  clear x0 x1 x2
  replace hC := hC.gr hg2
  replace hG := hG.step hg2
  obtain ⟨⟨x0, x1, x2⟩, -⟩ := hC.three
  have HC := Lib.hid hC
  clear hC hg2
  go_wp2_with fail
  clear x0 x1 x2
  have hS : Gr w2 w2.drew := Gr.drew (Gr.refl _)
  refine region_plain (Gr w2) (by kernel_rfl) ?_
  generalize w2.drew = w3 at hS ⊢
  refine take_at 0 (some 26) (v := ?vn0) rfl rfl (by kernel_rfl) (by kernel_rfl) (by kernel_rfl) (by rfl) ?yn0 hS ?tn0
  case yn0 =>
    intro w' hSw
    obtain ⟨⟨q0, q1, q2⟩, -⟩ := (HC.out.gr hSw).three
    go_simp
    (try with_reducible rfl)
  simp only [Act.put, List.setIfInBounds_toArray, List.set_cons_zero, List.set_cons_succ]
  refine take_at 1 (some 27) (v := ?vn1) rfl rfl (by kernel_rfl) (by kernel_rfl) (by kernel_rfl) (by rfl) ?yn1 hS ?tn1
  case yn1 =>
    intro w' hSw
    obtain ⟨⟨q0, q1, q2⟩, -⟩ := (HC.out.gr hSw).three
    go_simp
    (try with_reducible rfl)
  simp only [Act.put, List.setIfInBounds_toArray, List.set_cons_zero, List.set_cons_succ]
  refine take_at 2 (some 28) (v := ?vn2) rfl rfl (by kernel_rfl) (by kernel_rfl) (by kernel_rfl) (by rfl) ?yn2 hS ?tn2
  case yn2 =>
    intro w' hSw
    obtain ⟨⟨q0, q1, q2⟩, -⟩ := (HC.out.gr hSw).three
    go_simp
    (try with_reducible rfl)
  simp only [Act.put, List.setIfInBounds_toArray, List.set_cons_zero, List.set_cons_succ]
  refine take_at 3 (some 29) (v := ?vn3) rfl rfl (by kernel_rfl) (by kernel_rfl) (by kernel_rfl) (by rfl) ?yn3 hS ?tn3
  case yn3 =>
    intro w' hSw
    obtain ⟨⟨q0, q1, q2⟩, -⟩ := (HC.out.gr hSw).three
    go_simp
    (try with_reducible rfl)
  simp only [Act.put, List.setIfInBounds_toArray, List.set_cons_zero, List.set_cons_succ]
  refine take_at 8 (some 34) (v := ?vn8) rfl rfl (by kernel_rfl) (by kernel_rfl) (by kernel_rfl) (by rfl) ?yn8 hS ?tn8
  case yn8 =>
    intro w' hSw
    obtain ⟨⟨q0, q1, q2⟩, -⟩ := (HC.out.gr hSw).three
    go_simp
    (try with_reducible rfl)
  simp only [Act.put, List.setIfInBounds_toArray, List.set_cons_zero, List.set_cons_succ]
  refine take_at 9 (some 35) (v := ?vn9) rfl rfl (by kernel_rfl) (by kernel_rfl) (by kernel_rfl) (by rfl) ?yn9 hS ?tn9
  case yn9 =>
    intro w' hSw
    obtain ⟨⟨q0, q1, q2⟩, -⟩ := (HC.out.gr hSw).three
    go_simp
    (try with_reducible rfl)
  simp only [Act.put, List.setIfInBounds_toArray, List.set_cons_zero, List.set_cons_succ]
  refine next_two 4 6 rfl rfl (by kernel_rfl) (by rfl) (by rfl) (fun K hK => ?_) (fun K hK => ?_)
  · skip
    go_simp
    have hSn := hS.alloc (.cells #[.int .i64 t, .int .i64 c] 3)
    have hgn := Gr.alloc (Gr.refl w3) (.cells #[.int .i64 t, .int .i64 c] 3)
    have hc4 := CL.new w3 [.int .i64 t, .int .i64 c] 3 _ rfl
    refine hK _ _ hSn ?_
    clear hK K hS
    have hS := hSn
    clear hSn
    generalize w3.alloc (.cells #[.int .i64 t, .int .i64 c] 3) = w4 at hS hgn hc4 ⊢
    generalize w3.heap.size = g4 at hc4 ⊢
    clear hgn
    refine next_two 5 6 rfl rfl (by kernel_rfl) (by rfl) (by rfl) (fun K hK => ?_) (fun K hK => ?_)
    · skip
      go_simp
      refine (tput_any g4 2 1 [t, c] w4 (Rb.nil (fun _ => True) _) (by simp) hc4 (by omega) (by omega) (by simp) (by simp) (by simp; omega)).mono ?_
      rintro e w5 ⟨v5, rfl, ho, hgn⟩
      replace hS := hS.step hgn
      obtain ⟨lv5, hl⟩ : ∃ m, m = [] ++ bputs 1 [t, c] := ⟨_, rfl⟩
      rw [← hl] at ho
      have HLv5 := Lib.hid (show lv5.length = 2 by rw [hl]; simp [bputs, bput_len])
      have HEv5 := Lib.hid hl
      have Hv5 := Lib.hid ho.rb.any
      obtain ⟨av5, cv5, rfl, -, -⟩ := ho.rb.form
      rw [HLv5.out] at Hv5 ⊢
      refine hK _ _ hS ?_
      clear hK K ho hl hc4
      clear hgn
      refine next_at 6 rfl (by kernel_rfl) (by rfl) (fun K hK => ?_)
      go_simp
      have hSn := hS.alloc (.cells #[.int .i64 0] 3)
      have hgn := Gr.alloc (Gr.refl w5) (.cells #[.int .i64 0] 3)
      have hc6 := CL.new w5 [.int .i64 0] 3 _ rfl
      refine hK _ _ hSn ?_
      clear hK K hS
      have hS := hSn
      clear hSn
      generalize w5.alloc (.cells #[.int .i64 0] 3) = w6 at hS hgn hc6 ⊢
      generalize w5.heap.size = g6 at hc6 ⊢
      replace Hv5 := Lib.hid (Hv5.out.gr hgn)
      clear hgn
      refine next_at 7 rfl (by kernel_rfl) (by rfl) (fun K hK => ?_)
      go_simp
      refine (tput_any g6 1 4 [0] w6 (Rb.nil (fun _ => True) _) (by simp) hc6 (by omega) (by omega) (by simp) (by simp) (by decide)).mono ?_
      rintro e w7 ⟨v7, rfl, ho, hgn⟩
      replace hS := hS.step hgn
      obtain ⟨lv7, hl⟩ : ∃ m, m = [] ++ bputs 4 [0] := ⟨_, rfl⟩
      rw [← hl] at ho
      have HLv7 := Lib.hid (show lv7.length = 4 by rw [hl]; simp [bputs, bput_len])
      have HEv7 := Lib.hid hl
      have Hv7 := Lib.hid ho.rb.any
      obtain ⟨av7, cv7, rfl, -, -⟩ := ho.rb.form
      rw [HLv7.out] at Hv7 ⊢
      refine hK _ _ hS ?_
      clear hK K ho hl hc6
      replace Hv5 := Lib.hid (Hv5.out.gr hgn)
      clear hgn
      refine next_at 10 rfl (by kernel_rfl) (by rfl) (fun K hK => ?_)
      go_simp
      have hSn := hS.alloc (.cells #[.slice av7 4 cv7, .slice av N cv] 22)
      have hgn := Gr.alloc (Gr.refl w7) (.cells #[.slice av7 4 cv7, .slice av N cv] 22)
      have hcb := CL.new w7 [.slice av7 4 cv7, .slice av N cv] 22 _ rfl
      refine hK _ _ hSn ?_
      clear hK K hS
      have hS := hSn
      clear hSn
      generalize w7.alloc (.cells #[.slice av7 4 cv7, .slice av N cv] 22) = wb at hS hgn hcb ⊢
      generalize w7.heap.size = gb at hcb ⊢
      replace Hv5 := Lib.hid (Hv5.out.gr hgn)
      refine next_at 11 rfl (by kernel_rfl) (by rfl) (fun K hK => ?_)
      go_simp
      refine (concat_two gb 2 wb (Hv7.out.gr hgn) (HR.out.gr (hG.step hS)) (by rw [HLv7.out]; omega) (by have := HN.out; omega) (by rw [HLv7.out]; omega) (hcb.at' 0 _ rfl).1 (hcb.at' 1 _ rfl).1).mono ?_
      rintro e wc ⟨vc, rfl, ho, hgn⟩
      replace hS := hS.step hgn
      obtain ⟨lvc, hl⟩ : ∃ m, m = lv7 ++ d := ⟨_, rfl⟩
      rw [← hl] at ho
      obtain ⟨nvc, hn⟩ : ∃ n, n = lvc.length := ⟨_, rfl⟩
      have HLvc := Lib.hid hn
      have HEvc := Lib.hid hl
      have Hvc := Lib.hid ho.rb.any
      obtain ⟨avc, cvc, rfl, -, -⟩ := ho.rb.form
      rw [← hn] at Hvc ⊢
      refine hK _ _ hS ?_
      clear hK K ho hl hn hcb
      replace Hv5 := Lib.hid (Hv5.out.gr hgn)
      clear hgn Hv7
      have hz := hG.step hS
      refine next_at 12 rfl (by kernel_rfl) (by rfl) (fun K hK => ?_)
      go_simp
      refine (summed_0 wc Hv5.out Hvc.out (by rw [HLv5.out]; omega) (by rw [HEvc.out, List.length_append, HLv7.out]; have := HN.out; omega)).mono ?_
      rintro e wd ⟨vd, rfl, ho, hgn⟩
      replace hS := hS.step hgn
      replace ho := ho.base (Gr.size hz)
      refine hK _ _ hS ?_
      clear hK K hgn hz
      refine next_at 13 rfl (by kernel_rfl) (by rfl) (fun K hK => ?_)
      go_simp
      refine hK _ _ hS ?_
      clear hK K
      refine next_at 14 rfl (by kernel_rfl) (by rfl) (fun K hK => ?_)
      go_simp
      refine hK _ _ hS ?_
      clear hK K
      refine wpAnyH_done (by kernel_rfl) ?_ _
      refine qz_normal ?_
      have hz := hG.step hS
      go_wp2_with fail
      go_ret2
      rw [HEvc.out, HEv5.out, HEv7.out] at ho
      exact ⟨_, rfl, ho, hz⟩
    · skip
      go_simp
      have hSn := hS.alloc (.cells #[.int .i64 0] 3)
      have hgn := Gr.alloc (Gr.refl w4) (.cells #[.int .i64 0] 3)
      have hc5 := CL.new w4 [.int .i64 0] 3 _ rfl
      refine hK _ _ hSn ?_
      clear hK K hS
      have hS := hSn
      clear hSn
      generalize w4.alloc (.cells #[.int .i64 0] 3) = w5 at hS hgn hc5 ⊢
      generalize w4.heap.size = g5 at hc5 ⊢
      replace hc4 := hc4.gr hgn
      clear hgn
      refine next_at 5 rfl (by kernel_rfl) (by rfl) (fun K hK => ?_)
      go_simp
      refine (tput_any g4 2 1 [t, c] w5 (Rb.nil (fun _ => True) _) (by simp) hc4 (by omega) (by omega) (by simp) (by simp) (by simp; omega)).mono ?_
      rintro e w6 ⟨v5, rfl, ho, hgn⟩
      replace hS := hS.step hgn
      obtain ⟨lv5, hl⟩ : ∃ m, m = [] ++ bputs 1 [t, c] := ⟨_, rfl⟩
      rw [← hl] at ho
      have HLv5 := Lib.hid (show lv5.length = 2 by rw [hl]; simp [bputs, bput_len])
      have HEv5 := Lib.hid hl
      have Hv5 := Lib.hid ho.rb.any
      obtain ⟨av5, cv5, rfl, -, -⟩ := ho.rb.form
      rw [HLv5.out] at Hv5 ⊢
      refine hK _ _ hS ?_
      clear hK K ho hl hc4
      replace hc5 := hc5.gr hgn
      clear hgn
      refine next_at 7 rfl (by kernel_rfl) (by rfl) (fun K hK => ?_)
      go_simp
      refine (tput_any g5 1 4 [0] w6 (Rb.nil (fun _ => True) _) (by simp) hc5 (by omega) (by omega) (by simp) (by simp) (by decide)).mono ?_
      rintro e w7 ⟨v7, rfl, ho, hgn⟩
      replace hS := hS.step hgn
      obtain ⟨lv7, hl⟩ : ∃ m, m = [] ++ bputs 4 [0] := ⟨_, rfl⟩
      rw [← hl] at ho
      have HLv7 := Lib.hid (show lv7.length = 4 by rw [hl]; simp [bputs, bput_len])
      have HEv7 := Lib.hid hl
      have Hv7 := Lib.hid ho.rb.any
      obtain ⟨av7, cv7, rfl, -, -⟩ := ho.rb.form
      rw [HLv7.out] at Hv7 ⊢
      refine hK _ _ hS ?_
      clear hK K ho hl hc5
      replace Hv5 := Lib.hid (Hv5.out.gr hgn)
      clear hgn
      refine next_at 10 rfl (by kernel_rfl) (by rfl) (fun K hK => ?_)
      go_simp
      have hSn := hS.alloc (.cells #[.slice av7 4 cv7, .slice av N cv] 22)
      have hgn := Gr.alloc (Gr.refl w7) (.cells #[.slice av7 4 cv7, .slice av N cv] 22)
      have hcb := CL.new w7 [.slice av7 4 cv7, .slice av N cv] 22 _ rfl
      refine hK _ _ hSn ?_
      clear hK K hS
      have hS := hSn
      clear hSn
      generalize w7.alloc (.cells #[.slice av7 4 cv7, .slice av N cv] 22) = wb at hS hgn hcb ⊢
      generalize w7.heap.size = gb at hcb ⊢
      replace Hv5 := Lib.hid (Hv5.out.gr hgn)
      refine next_at 11 rfl (by kernel_rfl) (by rfl) (fun K hK => ?_)
      go_simp
      refine (concat_two gb 2 wb (Hv7.out.gr hgn) (HR.out.gr (hG.step hS)) (by rw [HLv7.out]; omega) (by have := HN.out; omega) (by rw [HLv7.out]; omega) (hcb.at' 0 _ rfl).1 (hcb.at' 1 _ rfl).1).mono ?_
      rintro e wc ⟨vc, rfl, ho, hgn⟩
      replace hS := hS.step hgn
      obtain ⟨lvc, hl⟩ : ∃ m, m = lv7 ++ d := ⟨_, rfl⟩
      rw [← hl] at ho
      obtain ⟨nvc, hn⟩ : ∃ n, n = lvc.length := ⟨_, rfl⟩
      have HLvc := Lib.hid hn
      have HEvc := Lib.hid hl
      have Hvc := Lib.hid ho.rb.any
      obtain ⟨avc, cvc, rfl, -, -⟩ := ho.rb.form
      rw [← hn] at Hvc ⊢
      refine hK _ _ hS ?_
      clear hK K ho hl hn hcb
      replace Hv5 := Lib.hid (Hv5.out.gr hgn)
      clear hgn Hv7
      have hz := hG.step hS
      refine next_at 12 rfl (by kernel_rfl) (by rfl) (fun K hK => ?_)
      go_simp
      refine (summed_0 wc Hv5.out Hvc.out (by rw [HLv5.out]; omega) (by rw [HEvc.out, List.length_append, HLv7.out]; have := HN.out; omega)).mono ?_
      rintro e wd ⟨vd, rfl, ho, hgn⟩
      replace hS := hS.step hgn
      replace ho := ho.base (Gr.size hz)
      refine hK _ _ hS ?_
      clear hK K hgn hz
      refine next_at 13 rfl (by kernel_rfl) (by rfl) (fun K hK => ?_)
      go_simp
      refine hK _ _ hS ?_
      clear hK K
      refine next_at 14 rfl (by kernel_rfl) (by rfl) (fun K hK => ?_)
      go_simp
      refine hK _ _ hS ?_
      clear hK K
      refine wpAnyH_done (by kernel_rfl) ?_ _
      refine qz_normal ?_
      have hz := hG.step hS
      go_wp2_with fail
      go_ret2
      rw [HEvc.out, HEv5.out, HEv7.out] at ho
      exact ⟨_, rfl, ho, hz⟩
  · skip
    go_simp
    have hSn := hS.alloc (.cells #[.int .i64 0] 3)
    have hgn := Gr.alloc (Gr.refl w3) (.cells #[.int .i64 0] 3)
    have hc5 := CL.new w3 [.int .i64 0] 3 _ rfl
    refine hK _ _ hSn ?_
    clear hK K hS
    have hS := hSn
    clear hSn
    generalize w3.alloc (.cells #[.int .i64 0] 3) = w4 at hS hgn hc5 ⊢
    generalize w3.heap.size = g5 at hc5 ⊢
    clear hgn
    refine next_at 4 rfl (by kernel_rfl) (by rfl) (fun K hK => ?_)
    go_simp
    have hSn := hS.alloc (.cells #[.int .i64 t, .int .i64 c] 3)
    have hgn := Gr.alloc (Gr.refl w4) (.cells #[.int .i64 t, .int .i64 c] 3)
    have hc4 := CL.new w4 [.int .i64 t, .int .i64 c] 3 _ rfl
    refine hK _ _ hSn ?_
    clear hK K hS
    have hS := hSn
    clear hSn
    generalize w4.alloc (.cells #[.int .i64 t, .int .i64 c] 3) = w5 at hS hgn hc4 ⊢
    generalize w4.heap.size = g4 at hc4 ⊢
    replace hc5 := hc5.gr hgn
    clear hgn
    refine next_at 5 rfl (by kernel_rfl) (by rfl) (fun K hK => ?_)
    go_simp
    refine (tput_any g4 2 1 [t, c] w5 (Rb.nil (fun _ => True) _) (by simp) hc4 (by omega) (by omega) (by simp) (by simp) (by simp; omega)).mono ?_
    rintro e w6 ⟨v5, rfl, ho, hgn⟩
    replace hS := hS.step hgn
    obtain ⟨lv5, hl⟩ : ∃ m, m = [] ++ bputs 1 [t, c] := ⟨_, rfl⟩
    rw [← hl] at ho
    have HLv5 := Lib.hid (show lv5.length = 2 by rw [hl]; simp [bputs, bput_len])
    have HEv5 := Lib.hid hl
    have Hv5 := Lib.hid ho.rb.any
    obtain ⟨av5, cv5, rfl, -, -⟩ := ho.rb.form
    rw [HLv5.out] at Hv5 ⊢
    refine hK _ _ hS ?_
    clear hK K ho hl hc4
    replace hc5 := hc5.gr hgn
    clear hgn
    refine next_at 7 rfl (by kernel_rfl) (by rfl) (fun K hK => ?_)
    go_simp
    refine (tput_any g5 1 4 [0] w6 (Rb.nil (fun _ => True) _) (by simp) hc5 (by omega) (by omega) (by simp) (by simp) (by decide)).mono ?_
    rintro e w7 ⟨v7, rfl, ho, hgn⟩
    replace hS := hS.step hgn
    obtain ⟨lv7, hl⟩ : ∃ m, m = [] ++ bputs 4 [0] := ⟨_, rfl⟩
    rw [← hl] at ho
    have HLv7 := Lib.hid (show lv7.length = 4 by rw [hl]; simp [bputs, bput_len])
    have HEv7 := Lib.hid hl
    have Hv7 := Lib.hid ho.rb.any
    obtain ⟨av7, cv7, rfl, -, -⟩ := ho.rb.form
    rw [HLv7.out] at Hv7 ⊢
    refine hK _ _ hS ?_
    clear hK K ho hl hc5
    replace Hv5 := Lib.hid (Hv5.out.gr hgn)
    clear hgn
    refine next_at 10 rfl (by kernel_rfl) (by rfl) (fun K hK => ?_)
    go_simp
    have hSn := hS.alloc (.cells #[.slice av7 4 cv7, .slice av N cv] 22)
    have hgn := Gr.alloc (Gr.refl w7) (.cells #[.slice av7 4 cv7, .slice av N cv] 22)
    have hcb := CL.new w7 [.slice av7 4 cv7, .slice av N cv] 22 _ rfl
    refine hK _ _ hSn ?_
    clear hK K hS
    have hS := hSn
    clear hSn
    generalize w7.alloc (.cells #[.slice av7 4 cv7, .slice av N cv] 22) = wb at hS hgn hcb ⊢
    generalize w7.heap.size = gb at hcb ⊢
    replace Hv5 := Lib.hid (Hv5.out.gr hgn)
    refine next_at 11 rfl (by kernel_rfl) (by rfl) (fun K hK => ?_)
    go_simp
    refine (concat_two gb 2 wb (Hv7.out.gr hgn) (HR.out.gr (hG.step hS)) (by rw [HLv7.out]; omega) (by have := HN.out; omega) (by rw [HLv7.out]; omega) (hcb.at' 0 _ rfl).1 (hcb.at' 1 _ rfl).1).mono ?_
    rintro e wc ⟨vc, rfl, ho, hgn⟩
    replace hS := hS.step hgn
    obtain ⟨lvc, hl⟩ : ∃ m, m = lv7 ++ d := ⟨_, rfl⟩
    rw [← hl] at ho
    obtain ⟨nvc, hn⟩ : ∃ n, n = lvc.length := ⟨_, rfl⟩
    have HLvc := Lib.hid hn
    have HEvc := Lib.hid hl
    have Hvc := Lib.hid ho.rb.any
    obtain ⟨avc, cvc, rfl, -, -⟩ := ho.rb.form
    rw [← hn] at Hvc ⊢
    refine hK _ _ hS ?_
    clear hK K ho hl hn hcb
    replace Hv5 := Lib.hid (Hv5.out.gr hgn)
    clear hgn Hv7
    have hz := hG.step hS
    refine next_at 12 rfl (by kernel_rfl) (by rfl) (fun K hK => ?_)
    go_simp
    refine (summed_0 wc Hv5.out Hvc.out (by rw [HLv5.out]; omega) (by rw [HEvc.out, List.length_append, HLv7.out]; have := HN.out; omega)).mono ?_
    rintro e wd ⟨vd, rfl, ho, hgn⟩
    replace hS := hS.step hgn
    replace ho := ho.base (Gr.size hz)
    refine hK _ _ hS ?_
    clear hK K hgn hz
    refine next_at 13 rfl (by kernel_rfl) (by rfl) (fun K hK => ?_)
    go_simp
    refine hK _ _ hS ?_
    clear hK K
    refine next_at 14 rfl (by kernel_rfl) (by rfl) (fun K hK => ?_)
    go_simp
    refine hK _ _ hS ?_
    clear hK K
    refine wpAnyH_done (by kernel_rfl) ?_ _
    refine qz_normal ?_
    have hz := hG.step hS
    go_wp2_with fail
    go_ret2
    rw [HEvc.out, HEv5.out, HEv7.out] at ho
    exact ⟨_, rfl, ho, hz⟩
end Go.Proofs.YtkpejaiigopmgaaGreatDoor
