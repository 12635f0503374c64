/- The package transport: encoding datagrams and segments. -/
import Derived.Test.YtkpejaiigopmgaaGreatDoorKeM
import Derived.WalkKit
import Derived.WalkSpells
import Derived.WalkLawsBesides
import Derived.WalkSmall
import Derived.Handy
import Derived.BigQuiet
import Derived.Deep.QuietTactic
import Derived.Deep.RegionHeld3
import Derived.Deep.DeepFit
import Derived.Below
import Derived.Lib.Hide
import Derived.Lib.QuietBelow
namespace Go.Proofs.YtkpejaiigopmgaaGreatDoor
open Go Go.RowKit Go.Sort
set_option maxRecDepth 100000
set_option linter.unusedVariables false
theorem udpSum_any (s d : Nat) (w : World) (hs : s < 4294967296) (hd : d < 4294967296) :
    Calls Tryz.prog 50 #[.int .u32 s, .int .u32 d] w fun e w' => ∃ ga gb, e = .returned (.func (.func 84) #[] #[.pointer (some ⟨ga, 0, none⟩), .pointer (some ⟨gb, 0, none⟩)]) ∧ Caps w' ga gb s d ∧ Gr w w' := by
  go_enter Tryz.func50, Tryz.ntmps50
  go_wp2_with fail
  go_ret
  exact ⟨_, _, rfl, ⟨by simp, by simp, hs, hd⟩, ((Gr.refl w).alloc _).alloc _⟩
theorem tcpSum_any (s d : Nat) (w : World) (hs : s < 4294967296) (hd : d < 4294967296) :
    Calls Tryz.prog 86 #[.int .u32 s, .int .u32 d] w fun e w' => ∃ ga gb, e = .returned (.func (.func 101) #[] #[.pointer (some ⟨ga, 0, none⟩), .pointer (some ⟨gb, 0, none⟩)]) ∧ Caps w' ga gb s d ∧ Gr w w' := by
  go_enter Tryz.func86, Tryz.ntmps86
  go_wp2_with fail
  go_ret
  exact ⟨_, _, rfl, ⟨by simp, by simp, hs, hd⟩, ((Gr.refl w).alloc _).alloc _⟩
def udpA (sp dp n : Nat) : List Nat := bputs 2 [sp, dp, 8 + n]
def udpL (src dst sp dp : Nat) (d : List Nat) : List Nat := msg (sU src dst) (udpA sp dp d.length) d
set_option maxHeartbeats 2000000 in
theorem udp_ok {p : Nat → Prop} {v : Value} {d : List Nat} (src dst sp dp : Nat) (w : World) (hr : Rb p w v d) (hs : src < 4294967296) (hd : dst < 4294967296) (ha : sp < 65536) (hb : dp < 65536) (hl : d.length ≤ 1472) :
    Calls Tryz.prog 109 #[.int .u32 src, .int .u32 dst, .agg #[.int .i64 sp, .int .i64 dp, v]] w fun e w' => ∃ v', e = .returned (.tuple #[v', .int .i64 0]) ∧ OwB w.heap.size w' v' (udpL src dst sp dp d) ∧ Gr w w' := by
  have HR := Lib.hid hr
  obtain ⟨av, cv, rfl, -, -⟩ := hr.form
  obtain ⟨N, hN⟩ : ∃ N, N = d.length := ⟨_, rfl⟩
  have HN := Lib.hid hN
  have hN2 : N ≤ 1472 := by omega
  rw [← hN] at HR ⊢
  have d1 : decide ((1472 : Int) < (N : Int)) = false := by rw [decide_eq_false_iff_not]; omega
  have hC := CL.new w [.int .i64 sp, .int .i64 dp, .slice av N cv] 60 _ rfl
  have hG := Gr.alloc (Gr.refl w) (.cells #[.int .i64 sp, .int .i64 dp, .slice av N cv] 60)
  obtain ⟨U, hU⟩ : ∃ U, U = 8 + N := ⟨_, rfl⟩
  have e8 : (8 : Int) + (N : Int) = (U : Int) := by omega
  have hU2 : U ≤ 1480 := by omega
  have HU := Lib.hid hU
  have eWU : IntKind.i64.wrap (U : Int) = (U : Int) := by rw [IntWalk.i64_in _ (by omega)]
  have HSM := Lib.hid (fun w => udpSum_any src dst w hs hd)
  clear hN hr hl hU
  go_enter Tryz.func109, Tryz.ntmps109
  go_upto_region 1 with fail
  generalize w.alloc (.cells #[.int .i64 sp, .int .i64 dp, .slice av N cv] 60) = w1 at hC hG ⊢
  generalize w.heap.size = g0 at hC ⊢
  obtain ⟨⟨x0, x1, x2⟩, -⟩ := hC.three
  go_wp2_with fail
  refine (fit_two 2 (sp : Int) (dp : Int) w1 (by omega) (by omega) true (by symm; rw [decide_eq_true_eq]; show (0 ≤ (sp : Int) ∧ (sp : Int) < 65536) ∧ 0 ≤ (dp : Int) ∧ (dp : Int) < 65536; omega)).mono ?_
  rintro e w2 ⟨rfl, hg2⟩
  clear x0 x1 x2
  replace hC := hC.gr hg2
  replace hG := hG.step hg2
  obtain ⟨⟨x0, x1, x2⟩, -⟩ := hC.three
  have HC := Lib.hid hC
  clear hC hg2
  go_wp2_with fail
  clear x0 x1 x2
  have hS : Gr w2 w2.drew := Gr.drew (Gr.refl _)
  refine region_plain (Gr w2) (by kernel_rfl) ?_
  generalize w2.drew = w3 at hS ⊢
  refine take_at 0 (some 19) (v := ?vn0) rfl rfl (by kernel_rfl) (by kernel_rfl) (by kernel_rfl) (by rfl) ?yn0 hS ?tn0
  case yn0 =>
    intro w' hSw
    obtain ⟨⟨q0, q1, q2⟩, -⟩ := (HC.out.gr hSw).three
    go_simp
    (try with_reducible rfl)
  simp only [Act.put, List.setIfInBounds_toArray, List.set_cons_zero, List.set_cons_succ]
  refine take_at 1 (some 20) (v := ?vn1) rfl rfl (by kernel_rfl) (by kernel_rfl) (by kernel_rfl) (by rfl) ?yn1 hS ?tn1
  case yn1 =>
    intro w' hSw
    obtain ⟨⟨q0, q1, q2⟩, -⟩ := (HC.out.gr hSw).three
    go_simp
    (try with_reducible rfl)
  simp only [Act.put, List.setIfInBounds_toArray, List.set_cons_zero, List.set_cons_succ]
  refine take_at 2 (some 21) (v := ?vn2) rfl rfl (by kernel_rfl) (by kernel_rfl) (by kernel_rfl) (by rfl) ?yn2 hS ?tn2
  case yn2 =>
    intro w' hSw
    obtain ⟨⟨q0, q1, q2⟩, -⟩ := (HC.out.gr hSw).three
    go_simp
    (try with_reducible rfl)
  simp only [Act.put, List.setIfInBounds_toArray, List.set_cons_zero, List.set_cons_succ]
  refine take_at 3 (some 22) (v := ?vn3) rfl rfl (by kernel_rfl) (by kernel_rfl) (by kernel_rfl) (by rfl) ?yn3 hS ?tn3
  case yn3 =>
    intro w' hSw
    obtain ⟨⟨q0, q1, q2⟩, -⟩ := (HC.out.gr hSw).three
    go_simp
    (try with_reducible rfl)
  simp only [Act.put, List.setIfInBounds_toArray, List.set_cons_zero, List.set_cons_succ]
  refine take_at 4 (some 23) (v := ?vn4) rfl rfl (by kernel_rfl) (by kernel_rfl) (by kernel_rfl) (by rfl) ?yn4 hS ?tn4
  case yn4 =>
    intro w' hSw
    obtain ⟨⟨q0, q1, q2⟩, -⟩ := (HC.out.gr hSw).three
    go_simp
    (try with_reducible rfl)
  simp only [Act.put, List.setIfInBounds_toArray, List.set_cons_zero, List.set_cons_succ]
  refine take_at 5 (some 24) (v := ?vn5) rfl rfl (by kernel_rfl) (by kernel_rfl) (by kernel_rfl) (by rfl) ?yn5 hS ?tn5
  case yn5 =>
    intro w' hSw
    obtain ⟨⟨q0, q1, q2⟩, -⟩ := (HC.out.gr hSw).three
    go_simp
    (try with_reducible rfl)
  simp only [Act.put, List.setIfInBounds_toArray, List.set_cons_zero, List.set_cons_succ]
  refine take_at 6 (some 25) (v := ?vn6) rfl rfl (by kernel_rfl) (by kernel_rfl) (by kernel_rfl) (by rfl) ?yn6 hS ?tn6
  case yn6 =>
    intro w' hSw
    obtain ⟨⟨q0, q1, q2⟩, -⟩ := (HC.out.gr hSw).three
    go_simp
    (try with_reducible rfl)
  simp only [Act.put, List.setIfInBounds_toArray, List.set_cons_zero, List.set_cons_succ]
  refine take_at 7 (some 26) (v := ?vn7) rfl rfl (by kernel_rfl) (by kernel_rfl) (by kernel_rfl) (by rfl) ?yn7 hS ?tn7
  case yn7 =>
    intro w' hSw
    obtain ⟨⟨q0, q1, q2⟩, -⟩ := (HC.out.gr hSw).three
    go_simp
    (try with_reducible rfl)
  simp only [Act.put, List.setIfInBounds_toArray, List.set_cons_zero, List.set_cons_succ]
  refine take_at 10 (some 29) (v := ?vn10) rfl rfl (by kernel_rfl) (by kernel_rfl) (by kernel_rfl) (by rfl) ?yn10 hS ?tn10
  case yn10 =>
    intro w' hSw
    obtain ⟨⟨q0, q1, q2⟩, -⟩ := (HC.out.gr hSw).three
    go_simp
    (try with_reducible rfl)
  simp only [Act.put, List.setIfInBounds_toArray, List.set_cons_zero, List.set_cons_succ]
  refine take_at 11 (some 30) (v := ?vn11) rfl rfl (by kernel_rfl) (by kernel_rfl) (by kernel_rfl) (by rfl) ?yn11 hS ?tn11
  case yn11 =>
    intro w' hSw
    obtain ⟨⟨q0, q1, q2⟩, -⟩ := (HC.out.gr hSw).three
    go_simp
    (try with_reducible rfl)
  simp only [Act.put, List.setIfInBounds_toArray, List.set_cons_zero, List.set_cons_succ]
  refine take_at 12 (some 31) (v := ?vn12) rfl rfl (by kernel_rfl) (by kernel_rfl) (by kernel_rfl) (by rfl) ?yn12 hS ?tn12
  case yn12 =>
    intro w' hSw
    obtain ⟨⟨q0, q1, q2⟩, -⟩ := (HC.out.gr hSw).three
    go_simp
    (try with_reducible rfl)
  simp only [Act.put, List.setIfInBounds_toArray, List.set_cons_zero, List.set_cons_succ]
  refine take_at 13 (some 32) (v := ?vn13) rfl rfl (by kernel_rfl) (by kernel_rfl) (by kernel_rfl) (by rfl) ?yn13 hS ?tn13
  case yn13 =>
    intro w' hSw
    obtain ⟨⟨q0, q1, q2⟩, -⟩ := (HC.out.gr hSw).three
    go_simp
    (try with_reducible rfl)
  simp only [Act.put, List.setIfInBounds_toArray, List.set_cons_zero, List.set_cons_succ]
  (try rw [eWU])
  refine next_at 8 rfl (by kernel_rfl) (by rfl) (fun K hK => ?_)
  go_simp
  have hSn := hS.alloc (.cells #[.int .i64 sp, .int .i64 dp, .int .i64 U] 3)
  have hgn := Gr.alloc (Gr.refl w3) (.cells #[.int .i64 sp, .int .i64 dp, .int .i64 U] 3)
  have hc4 := CL.new w3 [.int .i64 sp, .int .i64 dp, .int .i64 U] 3 _ rfl
  refine hK _ _ hSn ?_
  clear hK K hS
  have hS := hSn
  clear hSn
  generalize w3.alloc (.cells #[.int .i64 sp, .int .i64 dp, .int .i64 U] 3) = w4 at hS hgn hc4 ⊢
  generalize w3.heap.size = g4 at hc4 ⊢
  clear hgn
  refine next_at 9 rfl (by kernel_rfl) (by rfl) (fun K hK => ?_)
  go_simp
  refine (tput_any g4 3 2 [sp, dp, U] w4 (Rb.nil (fun _ => True) _) (by simp) hc4 (by omega) (by omega) (by simp) (by simp) (by simp; omega)).mono ?_
  rintro e w5 ⟨v5, rfl, ho, hgn⟩
  replace hS := hS.step hgn
  obtain ⟨lv5, hl⟩ : ∃ m, m = [] ++ bputs 2 [sp, dp, U] := ⟨_, rfl⟩
  rw [← hl] at ho
  have HLv5 := Lib.hid (show lv5.length = 6 by rw [hl]; simp [bputs, bput_len])
  have HEv5 := Lib.hid hl
  have Hv5 := Lib.hid ho.rb.any
  obtain ⟨av5, cv5, rfl, -, -⟩ := ho.rb.form
  rw [HLv5.out] at Hv5 ⊢
  refine hK _ _ hS ?_
  clear hK K ho hl hc4
  clear hgn
  refine next_at 14 rfl (by kernel_rfl) (by rfl) (fun K hK => ?_)
  go_simp
  refine (HSM.out _).mono ?_
  rintro e w6 ⟨ga, gb, rfl, hk, hgn⟩
  replace hS := hS.step hgn
  replace Hv5 := Lib.hid (Hv5.out.gr hgn)
  refine hK _ _ hS ?_
  clear hK K hgn
  have hz := hG.step hS
  refine next_at 15 rfl (by kernel_rfl) (by rfl) (fun K hK => ?_)
  go_simp
  refine (summed_U ga gb src dst w6 hk Hv5.out (HR.out.gr hz) (by rw [HLv5.out]; omega) (by rw [← HN.out]; omega)).mono ?_
  rintro e wd ⟨vd, rfl, ho, hgn⟩
  replace hS := hS.step hgn
  replace ho := ho.base (Gr.size hz)
  refine hK _ _ hS ?_
  clear hK K hgn hz
  refine next_at 16 rfl (by kernel_rfl) (by rfl) (fun K hK => ?_)
  go_simp
  refine hK _ _ hS ?_
  clear hK K
  refine next_at 17 rfl (by kernel_rfl) (by rfl) (fun K hK => ?_)
  go_simp
  refine hK _ _ hS ?_
  clear hK K
  refine wpAnyH_done (by kernel_rfl) ?_ _
  refine qz_normal ?_
  have hz := hG.step hS
  go_wp2_with fail
  go_ret2
  rw [HEv5.out, HU.out, HN.out] at ho
  exact ⟨_, rfl, ho, hz⟩
def tcpA (sp dp sq ak fl wi : Nat) : List Nat := bput sp 2 ++ bput dp 2 ++ (bput sq 4 ++ bput ak 4) ++ (bput 80 1 ++ bput fl 1) ++ bput wi 2
def tcpZ (d : List Nat) : List Nat := bput 0 2 ++ d
def tcpL (src dst sp dp sq ak fl wi : Nat) (d : List Nat) : List Nat := msg (sP src dst 6) (tcpA sp dp sq ak fl wi) (tcpZ d)
set_option maxHeartbeats 4000000 in
theorem tcp_ok {p : Nat → Prop} {v : Value} {d : List Nat} (src dst sp dp sq ak fl wi : Nat) (w : World) (hr : Rb p w v d) (hs : src < 4294967296) (hd : dst < 4294967296) (ha : sp < 65536) (hb : dp < 65536) (hq : sq < 4294967296) (hk : ak < 4294967296) (hf : fl < 256) (hw : wi < 65536) (hl : d.length ≤ 1460) :
    Calls Tryz.prog 53 #[.int .u32 src, .int .u32 dst, .agg #[.int .i64 sp, .int .i64 dp, .int .i64 sq, .int .i64 ak, .int .i64 fl, .int .i64 wi, v]] w fun e w' => ∃ v', e = .returned (.tuple #[v', .int .i64 0]) ∧ OwB w.heap.size w' v' (tcpL src dst sp dp sq ak fl wi d) ∧ Gr w w' := by
  have HR := Lib.hid hr
  obtain ⟨av, cv, rfl, -, -⟩ := hr.form
  obtain ⟨N, hN⟩ : ∃ N, N = d.length := ⟨_, rfl⟩
  have HN := Lib.hid hN
  have hN2 : N ≤ 1460 := by omega
  rw [← hN] at HR ⊢
  have d1 : decide ((1460 : Int) < (N : Int)) = false := by rw [decide_eq_false_iff_not]; omega
  have hC := CL.new w [.int .i64 sp, .int .i64 dp, .int .i64 sq, .int .i64 ak, .int .i64 fl, .int .i64 wi, .slice av N cv] 80 _ rfl
  have hG := Gr.alloc (Gr.refl w) (.cells #[.int .i64 sp, .int .i64 dp, .int .i64 sq, .int .i64 ak, .int .i64 fl, .int .i64 wi, .slice av N cv] 80)
  have HSM := Lib.hid (fun w => tcpSum_any src dst w hs hd)
  clear hN hr hl
  go_enter Tryz.func53, Tryz.ntmps53
  go_upto_region 1 with fail
  generalize w.alloc (.cells #[.int .i64 sp, .int .i64 dp, .int .i64 sq, .int .i64 ak, .int .i64 fl, .int .i64 wi, .slice av N cv] 80) = w1 at hC hG ⊢
  generalize w.heap.size = g0 at hC ⊢
  obtain ⟨⟨x0, x1, x2, x3, x4, x5, x6⟩, -⟩ := hC.seven
  go_wp2_with fail
  refine (fit_three 2 (sp : Int) (dp : Int) (wi : Int) w1 (by omega) (by omega) true (by symm; rw [decide_eq_true_eq]; show (0 ≤ (sp : Int) ∧ (sp : Int) < 65536) ∧ (0 ≤ (dp : Int) ∧ (dp : Int) < 65536) ∧ 0 ≤ (wi : Int) ∧ (wi : Int) < 65536; omega)).mono ?_
  rintro e w2 ⟨rfl, hg⟩
  clear x0 x1 x2 x3 x4 x5 x6
  replace hC := hC.gr hg
  replace hG := hG.step hg
  clear hg
  obtain ⟨⟨x0, x1, x2, x3, x4, x5, x6⟩, -⟩ := hC.seven
  go_wp2_with fail
  refine (fit_two 4 (sq : Int) (ak : Int) w2 (by omega) (by omega) true (by symm; rw [decide_eq_true_eq]; show (0 ≤ (sq : Int) ∧ (sq : Int) < 4294967296) ∧ 0 ≤ (ak : Int) ∧ (ak : Int) < 4294967296; omega)).mono ?_
  rintro e w3 ⟨rfl, hg⟩
  clear x0 x1 x2 x3 x4 x5 x6
  replace hC := hC.gr hg
  replace hG := hG.step hg
  clear hg
  obtain ⟨⟨x0, x1, x2, x3, x4, x5, x6⟩, -⟩ := hC.seven
  go_wp2_with fail
  refine (fit_one 1 (fl : Int) w3 (by omega) (by omega) true (by symm; rw [decide_eq_true_eq]; show 0 ≤ (fl : Int) ∧ (fl : Int) < 256; omega)).mono ?_
  rintro e w4 ⟨rfl, hg⟩
  clear x0 x1 x2 x3 x4 x5 x6
  replace hC := hC.gr hg
  replace hG := hG.step hg
  clear hg
  obtain ⟨⟨x0, x1, x2, x3, x4, x5, x6⟩, -⟩ := hC.seven
  go_wp2_with fail
  refine (put_two sp dp 2 w4 (Rb.nil (fun _ => True) _) (by simp) (by omega) (by omega) (by show sp < 65536; omega) (by show dp < 65536; omega)).mono ?_
  rintro e w5 ⟨v5, rfl, ho5, hg⟩
  obtain ⟨l5, hl5⟩ : ∃ m, m = [] ++ (bput sp 2 ++ bput dp 2) := ⟨_, rfl⟩
  rw [← hl5] at ho5
  have HL5 := Lib.hid (show l5.length = 4 by rw [hl5]; simp [bput_len])
  have HE5 := Lib.hid hl5
  have HO5 := Lib.hid ho5.rb.any
  obtain ⟨a5, c5, rfl, -, -⟩ := ho5.rb.form
  rw [HL5.out] at HO5 ⊢
  clear hl5 ho5
  clear x0 x1 x2 x3 x4 x5 x6
  replace hC := hC.gr hg
  replace hG := hG.step hg
  clear hg
  obtain ⟨⟨x0, x1, x2, x3, x4, x5, x6⟩, -⟩ := hC.seven
  go_wp2_with fail
  refine (put_two sq ak 4 w5 HO5.out (by rw [HL5.out]; omega) (by omega) (by omega) (by show sq < 4294967296; omega) (by show ak < 4294967296; omega)).mono ?_
  rintro e w6 ⟨v6, rfl, ho6, hg⟩
  obtain ⟨l6, hl6⟩ : ∃ m, m = l5 ++ (bput sq 4 ++ bput ak 4) := ⟨_, rfl⟩
  rw [← hl6] at ho6
  have HL6 := Lib.hid (show l6.length = 12 by rw [hl6]; simp [bput_len, HL5.out])
  have HE6 := Lib.hid hl6
  have HO6 := Lib.hid ho6.rb.any
  obtain ⟨a6, c6, rfl, -, -⟩ := ho6.rb.form
  rw [HL6.out] at HO6 ⊢
  clear hl6 ho6
  clear x0 x1 x2 x3 x4 x5 x6
  replace hC := hC.gr hg
  replace hG := hG.step hg
  clear hg
  obtain ⟨⟨x0, x1, x2, x3, x4, x5, x6⟩, -⟩ := hC.seven
  go_wp2_with fail
  refine (put_two 80 fl 1 w6 HO6.out (by rw [HL6.out]; omega) (by omega) (by omega) (by decide) (by show fl < 256; omega)).mono ?_
  rintro e w7 ⟨v7, rfl, ho7, hg⟩
  obtain ⟨l7, hl7⟩ : ∃ m, m = l6 ++ (bput 80 1 ++ bput fl 1) := ⟨_, rfl⟩
  rw [← hl7] at ho7
  have HL7 := Lib.hid (show l7.length = 14 by rw [hl7]; simp [bput_len, HL6.out])
  have HE7 := Lib.hid hl7
  have HO7 := Lib.hid ho7.rb.any
  obtain ⟨a7, c7, rfl, -, -⟩ := ho7.rb.form
  rw [HL7.out] at HO7 ⊢
  clear hl7 ho7
  clear x0 x1 x2 x3 x4 x5 x6
  replace hC := hC.gr hg
  replace hG := hG.step hg
  clear hg
  obtain ⟨⟨x0, x1, x2, x3, x4, x5, x6⟩, -⟩ := hC.seven
  go_wp2_with fail
  refine (put_one wi 2 w7 HO7.out (by rw [HL7.out]; omega) (by omega) (by omega) (by show wi < 65536; omega)).mono ?_
  rintro e w8 ⟨v8, rfl, ho8, hg⟩
  obtain ⟨l8, hl8⟩ : ∃ m, m = l7 ++ bput wi 2 := ⟨_, rfl⟩
  rw [← hl8] at ho8
  have HL8 := Lib.hid (show l8.length = 16 by rw [hl8]; simp [bput_len, HL7.out])
  have HE8 := Lib.hid hl8
  have HO8 := Lib.hid ho8.rb.any
  obtain ⟨a8, c8, rfl, -, -⟩ := ho8.rb.form
  rw [HL8.out] at HO8 ⊢
  clear hl8 ho8
  replace hG := hG.step hg
  replace hC := hC.gr hg
  have HC := Lib.hid hC
  clear hC hg HO5 HO6 HO7
  clear x0 x1 x2 x3 x4 x5 x6
  go_wp2_with fail
  have hS : Gr w8 w8.drew := Gr.drew (Gr.refl _)
  refine region_plain (Gr w8) (by kernel_rfl) ?_
  generalize w8.drew = w9 at hS ⊢
  refine take_at 0 (some 61) (v := ?vn0) rfl rfl (by kernel_rfl) (by kernel_rfl) (by kernel_rfl) (by rfl) ?yn0 hS ?tn0
  case yn0 =>
    intro w' hSw
    obtain ⟨⟨q0, q1, q2, q3, q4, q5, q6⟩, -⟩ := (HC.out.gr hSw).seven
    go_simp
    (try with_reducible rfl)
  simp only [Act.put, List.setIfInBounds_toArray, List.set_cons_zero, List.set_cons_succ]
  refine take_at 3 (some 64) (v := ?vn3) rfl rfl (by kernel_rfl) (by kernel_rfl) (by kernel_rfl) (by rfl) ?yn3 hS ?tn3
  case yn3 =>
    intro w' hSw
    obtain ⟨⟨q0, q1, q2, q3, q4, q5, q6⟩, -⟩ := (HC.out.gr hSw).seven
    go_simp
    (try with_reducible rfl)
  simp only [Act.put, List.setIfInBounds_toArray, List.set_cons_zero, List.set_cons_succ]
  refine take_at 4 (some 65) (v := ?vn4) rfl rfl (by kernel_rfl) (by kernel_rfl) (by kernel_rfl) (by rfl) ?yn4 hS ?tn4
  case yn4 =>
    intro w' hSw
    obtain ⟨⟨q0, q1, q2, q3, q4, q5, q6⟩, -⟩ := (HC.out.gr hSw).seven
    go_simp
    (try with_reducible rfl)
  simp only [Act.put, List.setIfInBounds_toArray, List.set_cons_zero, List.set_cons_succ]
  refine take_at 7 (some 68) (v := ?vn7) rfl rfl (by kernel_rfl) (by kernel_rfl) (by kernel_rfl) (by rfl) ?yn7 hS ?tn7
  case yn7 =>
    intro w' hSw
    obtain ⟨⟨q0, q1, q2, q3, q4, q5, q6⟩, -⟩ := (HC.out.gr hSw).seven
    go_simp
    (try with_reducible rfl)
  simp only [Act.put, List.setIfInBounds_toArray, List.set_cons_zero, List.set_cons_succ]
  refine take_at 8 (some 69) (v := ?vn8) rfl rfl (by kernel_rfl) (by kernel_rfl) (by kernel_rfl) (by rfl) ?yn8 hS ?tn8
  case yn8 =>
    intro w' hSw
    obtain ⟨⟨q0, q1, q2, q3, q4, q5, q6⟩, -⟩ := (HC.out.gr hSw).seven
    go_simp
    (try with_reducible rfl)
  simp only [Act.put, List.setIfInBounds_toArray, List.set_cons_zero, List.set_cons_succ]
  refine next_at 1 rfl (by kernel_rfl) (by rfl) (fun K hK => ?_)
  go_simp
  have hSn := hS.alloc (.cells #[.int .i64 0] 3)
  have hgn := Gr.alloc (Gr.refl w9) (.cells #[.int .i64 0] 3)
  have hc4 := CL.new w9 [.int .i64 0] 3 _ rfl
  refine hK _ _ hSn ?_
  clear hK K hS
  have hS := hSn
  clear hSn
  generalize w9.alloc (.cells #[.int .i64 0] 3) = wa at hS hgn hc4 ⊢
  generalize w9.heap.size = g4 at hc4 ⊢
  clear hgn
  refine next_at 2 rfl (by kernel_rfl) (by rfl) (fun K hK => ?_)
  go_simp
  refine (tput_any g4 1 2 [0] wa (Rb.nil (fun _ => True) _) (by simp) hc4 (by omega) (by omega) (by simp) (by simp) (by decide)).mono ?_
  rintro e wb ⟨vb, rfl, ho, hgn⟩
  replace hS := hS.step hgn
  obtain ⟨lvb, hl⟩ : ∃ m, m = [] ++ bputs 2 [0] := ⟨_, rfl⟩
  rw [← hl] at ho
  have HLvb := Lib.hid (show lvb.length = 2 by rw [hl]; simp [bputs, bput_len])
  have HEvb := Lib.hid hl
  have Hvb := Lib.hid ho.rb.any
  obtain ⟨avb, cvb, rfl, -, -⟩ := ho.rb.form
  rw [HLvb.out] at Hvb ⊢
  refine hK _ _ hS ?_
  clear hK K ho hl hc4
  clear hgn
  refine next_at 5 rfl (by kernel_rfl) (by rfl) (fun K hK => ?_)
  go_simp
  have hSn := hS.alloc (.cells #[.slice avb 2 cvb, .slice av N cv] 22)
  have hgn := Gr.alloc (Gr.refl wb) (.cells #[.slice avb 2 cvb, .slice av N cv] 22)
  have hcc := CL.new wb [.slice avb 2 cvb, .slice av N cv] 22 _ rfl
  refine hK _ _ hSn ?_
  clear hK K hS
  have hS := hSn
  clear hSn
  generalize wb.alloc (.cells #[.slice avb 2 cvb, .slice av N cv] 22) = wc at hS hgn hcc ⊢
  generalize wb.heap.size = gc at hcc ⊢
  refine next_at 6 rfl (by kernel_rfl) (by rfl) (fun K hK => ?_)
  go_simp
  refine (concat_two gc 2 wc (Hvb.out.gr hgn) (HR.out.gr (hG.step hS)) (by rw [HLvb.out]; omega) (by have := HN.out; omega) (by rw [HLvb.out]; omega) (hcc.at' 0 _ rfl).1 (hcc.at' 1 _ rfl).1).mono ?_
  rintro e wd ⟨vd, rfl, ho, hgn⟩
  replace hS := hS.step hgn
  obtain ⟨lvd, hl⟩ : ∃ m, m = lvb ++ d := ⟨_, rfl⟩
  rw [← hl] at ho
  obtain ⟨nvd, hn⟩ : ∃ n, n = lvd.length := ⟨_, rfl⟩
  have HLvd := Lib.hid hn
  have HEvd := Lib.hid hl
  have Hvd := Lib.hid ho.rb.any
  obtain ⟨avd, cvd, rfl, -, -⟩ := ho.rb.form
  rw [← hn] at Hvd ⊢
  refine hK _ _ hS ?_
  clear hK K ho hl hn hcc
  clear hgn Hvb
  refine next_at 9 rfl (by kernel_rfl) (by rfl) (fun K hK => ?_)
  go_simp
  refine (HSM.out _).mono ?_
  rintro e we ⟨ga, gb, rfl, hk, hgn⟩
  replace hS := hS.step hgn
  replace Hvd := Lib.hid (Hvd.out.gr hgn)
  replace HO8 := Lib.hid (HO8.out.gr hS)
  refine hK _ _ hS ?_
  clear hK K hgn
  have hz := hG.step hS
  refine next_at 10 rfl (by kernel_rfl) (by rfl) (fun K hK => ?_)
  go_simp
  refine (summed_P ga gb src dst we hk HO8.out Hvd.out (by rw [HL8.out]; omega) (by rw [HEvd.out, List.length_append, HLvb.out]; have := HN.out; omega)).mono ?_
  rintro e wf ⟨vf, rfl, ho, hgn⟩
  replace hS := hS.step hgn
  replace ho := ho.base (Gr.size hz)
  refine hK _ _ hS ?_
  clear hK K hgn hz
  refine next_at 11 rfl (by kernel_rfl) (by rfl) (fun K hK => ?_)
  go_simp
  refine hK _ _ hS ?_
  clear hK K
  refine next_at 12 rfl (by kernel_rfl) (by rfl) (fun K hK => ?_)
  go_simp
  refine hK _ _ hS ?_
  clear hK K
  refine wpAnyH_done (by kernel_rfl) ?_ _
  refine qz_normal ?_
  have hz := hG.step hS
  go_wp2_with fail
  go_ret2
  rw [HEvd.out, HEvb.out, HE8.out, HE7.out, HE6.out, HE5.out] at ho
  exact ⟨_, rfl, ho, hz⟩
end Go.Proofs.YtkpejaiigopmgaaGreatDoor
