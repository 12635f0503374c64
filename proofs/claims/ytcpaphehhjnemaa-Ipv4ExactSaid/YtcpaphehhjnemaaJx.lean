/- The walk of the statement on all functions of the package ipv4. -/
import Derived.Test.YtcpaphehhjnemaaJl
import Derived.Test.YtcpaphehhjnemaaJq
import Derived.Test.YtcpaphehhjnemaaJs
import Derived.Test.YtcpaphehhjnemaaIs
import Derived.Test.YtcpaphehhjnemaaIq
import Derived.Test.YtcpaphehhjnemaaTd
import Derived.WalkKit
import Derived.WalkSpells
import Derived.WalkLawsBesides
import Derived.WalkSmall
import Derived.Handy
import Derived.BigQuiet
import Derived.Deep.QuietTactic
import Derived.Deep.RegionHeld3
import Derived.Deep.DeepFit
import Derived.Below
import Derived.Lib.Hide
import Derived.Lib.QuietBelow
import Derived.Deep.DeepCutAuto
namespace Go.Proofs.Ytcpaphehhjnemaa
open Go Go.RowKit Go.Sort
set_option maxRecDepth 100000
set_option linter.unusedVariables false
set_option maxHeartbeats 4000000 in
theorem exact_walk {q r : Nat → Prop} (sv vd vr : Value) (len : Nat) (a b0 c d : Int) (e : Bool) (f i : Nat) (ld lr : List Nat) (w : World) (hl : len ≤ 9223372036854775807) (hb : BytesV w.heap.size w sv len) (hf : f < 4294967296) (hi : i < 4294967296) (hd : Rb q w vd ld) (hr : Rb r w vr lr) :
    Calls Try.prog 3 #[sv, hdV a b0 c d e f i, vd, vr] w fun e w' => e = .returned (.bool true) ∧ Gr w w' := by
  obtain ⟨ad, cd, rfl, hcd, hmd⟩ := hd.form
  obtain ⟨ar, cr, rfl, hcr, hmr⟩ := hr.form
  unfold hdV
  by_cases h1 : 1600 < ld.length
  · have d1 : decide ((1600 : Int) < (ld.length : Int)) = true := by rw [decide_eq_true_eq]; omega
    clear hd hr
    go_enter Try.func3, Try.ntmps3
    go_wp2_with fail
    refine (iawake_any _).mono ?_
    rintro e w1 ⟨rfl, hg⟩
    go_wp2_with fail
    go_ret
    exact ⟨rfl, (Gr.alloc (Gr.refl w) _).step hg⟩
  have d1 : decide ((1600 : Int) < (ld.length : Int)) = false := by rw [decide_eq_false_iff_not]; omega
  by_cases h2 : 1600 < lr.length
  · have d2 : decide ((1600 : Int) < (lr.length : Int)) = true := by rw [decide_eq_true_eq]; omega
    clear hd hr
    go_enter Try.func3, Try.ntmps3
    go_wp2_with fail
    refine (iawake_any _).mono ?_
    rintro e w1 ⟨rfl, hg⟩
    go_wp2_with fail
    go_ret
    exact ⟨rfl, (Gr.alloc (Gr.refl w) _).step hg⟩
  have d2 : decide ((1600 : Int) < (lr.length : Int)) = false := by rw [decide_eq_false_iff_not]; omega
  have HD := Lib.hid hd.any
  have HR := Lib.hid (hr.imp (q := (· < w.heap.size)) fun _ hb _ => hb)
  have HB := Lib.hid hb
  obtain ⟨M, hM⟩ : ∃ M, M = ld.length := ⟨_, rfl⟩
  obtain ⟨R, hR⟩ : ∃ R, R = lr.length := ⟨_, rfl⟩
  have HM := Lib.hid hM
  have HRL := Lib.hid hR
  have hM2 : M ≤ 1600 := by omega
  have hR2 : R ≤ 1600 := by omega
  rw [← hM] at HD d1 ⊢
  rw [← hR] at HR d2 ⊢
  have HC5 := Lib.hid (CL.new w [.int .i64 a, .int .i64 b0, .int .i64 c, .int .i64 d, .bool e, .int .u32 f, .int .u32 i] 26 _ rfl)
  have hg := Gr.alloc (Gr.refl w) (.cells #[.int .i64 a, .int .i64 b0, .int .i64 c, .int .i64 d, .bool e, .int .u32 f, .int .u32 i] 26)
  clear hd hr hb h1 h2 hM hR hcd hcr
  go_enter Try.func3, Try.ntmps3
  go_wp2_with fail
  refine (iawake_any _).mono ?_
  rintro e1 w1 ⟨rfl, hg1⟩
  replace hg := hg.step hg1
  have HC5 := Lib.hid (HC5.out.gr hg1)
  clear hg1
  obtain ⟨⟨x0, x1, x2, x3, x4, x5, x6⟩, -⟩ := HC5.out.seven
  go_wp2_with fail
  clear x0 x1 x2 x3 x4 x5 x6
  refine (packet_any sv len a b0 c d e f i ad M cd w.heap.size w1 hl (HB.out.gr hg) hf hi).mono ?_
  rintro e1 w2 ⟨tos, id, ttl, proto, kb, src, dst, rfl, hsrc, hdst, hg2⟩
  have hga := hg2.alloc (.cells #[.int .i64 tos, .int .i64 id, .int .i64 ttl, .int .i64 proto, .bool kb, .int .u32 src, .int .u32 dst, .slice ad M cd] 29)
  have h9 := CL.new w2 [.int .i64 tos, .int .i64 id, .int .i64 ttl, .int .i64 proto, .bool kb, .int .u32 src, .int .u32 dst, .slice ad M cd] 29 _ rfl
  have HC5 := Lib.hid (HC5.out.gr hga)
  replace hg := hg.step hga
  clear hg2 hga
  unfold pkV
  go_wp2_with fail
  have HC9 := Lib.hid h9
  clear h9
  generalize w2.alloc (.cells #[.int .i64 tos, .int .i64 id, .int .i64 ttl, .int .i64 proto, .bool kb, .int .u32 src, .int .u32 dst, .slice ad M cd] 29) = w3 at *
  generalize w2.heap.size = g9 at *
  have HE := Lib.hid (encode_res tos id ttl proto kb src dst w3 (HD.out.gr hg) hsrc hdst (by have := HM.out; omega))
  have HEL := Lib.hid (enL_len tos id ttl proto kb src dst ld)
  have HRE := Lib.hid (fun w' (k : Gr w3 w') => rencode_res tos id ttl proto kb src dst w' (HD.out.gr (hg.step k)) hsrc hdst (by have := HM.out; omega))
  unfold EnRes pkV at HE HRE
  generalize enE tos id ttl proto ld.length = E at *
  generalize enL tos id ttl proto kb src dst ld = L at *
  refine HE.out.mono ?_
  rintro e1 w4 ⟨v4, rfl, ho4, hg4⟩
  replace hg := hg.step hg4
  have HC5 := Lib.hid (HC5.out.gr hg4)
  have HC9 := Lib.hid (HC9.out.gr hg4)
  have HO4 := Lib.hid ho4.rb.any
  obtain ⟨a4, c4, rfl, -, -⟩ := ho4.rb.form
  obtain ⟨N, hN⟩ : ∃ N, N = L.length := ⟨_, rfl⟩
  have HN := Lib.hid hN
  have hN2 : N ≤ 1500 := by have := HEL.out; omega
  rw [← hN] at HO4 ⊢
  clear ho4 HE HEL
  obtain ⟨⟨x0, x1, x2, x3, x4, x5, x6, x7⟩, -⟩ := HC9.out.eight
  go_wp2_with fail
  clear x0 x1 x2 x3 x4 x5 x6 x7
  refine (HRE.out _ hg4).mono ?_
  rintro e1 w5 ⟨v5, rfl, ho5, hg5⟩
  replace hg := hg.step hg5
  have HC5 := Lib.hid (HC5.out.gr hg5)
  have HC9 := Lib.hid (HC9.out.gr hg5)
  have HO4 := Lib.hid (HO4.out.gr hg5)
  have HO5 := Lib.hid ho5
  have hcap5 := ho5.rb.any
  obtain ⟨a5, c5, rfl, hN5, -⟩ := hcap5.form
  rw [← hN] at HO5 hN5 ⊢
  clear ho5 HRE hg4 hg5 hcap5 hN
  go_wp2_with fail
  have HQ := Lib.hid (fun w' (k : Gr w5 w') => rweq_c w' (HO4.out.gr k) (HO5.out.rb.any.gr k) (by have := HN.out; omega) (by have := HN.out; omega) true (by simp))
  have HK1 := Lib.hid (fun w => check_any a b0 c d e f i w)
  have HK2 := Lib.hid (fun w => rcheck_any a b0 c d e f i w)
  have HK3 := Lib.hid (fun w => check_any tos id ttl proto kb src dst w)
  have HK4 := Lib.hid (fun w => rcheck_any tos id ttl proto kb src dst w)
  generalize ckE a b0 c d = k1 at *
  generalize ckE tos id ttl proto = k2 at *
  unfold hdV at HK1 HK2 HK3 HK4
  have hS : Gr w5 w5.drew := Gr.drew (Gr.refl _)
  refine region_plain (Gr w5) (by kernel_rfl) ?_
  refine take_at 0 (some 65) (v := ?vg0) rfl rfl (by kernel_rfl) (by kernel_rfl) (by kernel_rfl) (by rfl) ?yg0 hS ?tg0
  case yg0 =>
    intro w' hSw
    go_simp
    (try rw [if_pos (by omega)])
    (try with_reducible rfl)
  simp only [Act.put, List.setIfInBounds_toArray, List.set_cons_zero, List.set_cons_succ]
  refine take_at 1 (some 66) (v := ?vg1) rfl rfl (by kernel_rfl) (by kernel_rfl) (by kernel_rfl) (by rfl) ?yg1 hS ?tg1
  case yg1 =>
    intro w' hSw
    go_simp
    (try rw [if_pos (by omega)])
    (try with_reducible rfl)
  simp only [Act.put, List.setIfInBounds_toArray, List.set_cons_zero, List.set_cons_succ]
  refine take_at 2 (some 67) (v := ?vg2) rfl rfl (by kernel_rfl) (by kernel_rfl) (by kernel_rfl) (by rfl) ?yg2 hS ?tg2
  case yg2 =>
    intro w' hSw
    go_simp
    (try rw [if_pos (by omega)])
    (try with_reducible rfl)
  simp only [Act.put, List.setIfInBounds_toArray, List.set_cons_zero, List.set_cons_succ]
  refine take_at 3 (some 68) (v := ?vg3) rfl rfl (by kernel_rfl) (by kernel_rfl) (by kernel_rfl) (by rfl) ?yg3 hS ?tg3
  case yg3 =>
    intro w' hSw
    go_simp
    (try rw [if_pos (by omega)])
    (try with_reducible rfl)
  simp only [Act.put, List.setIfInBounds_toArray, List.set_cons_zero, List.set_cons_succ]
  refine take_at 4 (some 69) (v := ?vg4) rfl rfl (by kernel_rfl) (by kernel_rfl) (by kernel_rfl) (by rfl) ?yg4 hS ?tg4
  case yg4 =>
    intro w' hSw
    go_simp
    (try rw [if_pos (by omega)])
    (try with_reducible rfl)
  simp only [Act.put, List.setIfInBounds_toArray, List.set_cons_zero, List.set_cons_succ]
  refine take_at 5 (some 70) (v := ?vg5) rfl rfl (by kernel_rfl) (by kernel_rfl) (by kernel_rfl) (by rfl) ?yg5 hS ?tg5
  case yg5 =>
    intro w' hSw
    go_simp
    (try rw [if_pos (by omega)])
    (try with_reducible rfl)
  simp only [Act.put, List.setIfInBounds_toArray, List.set_cons_zero, List.set_cons_succ]
  refine next_at 6 rfl (by kernel_rfl) (by rfl) (fun K hK => ?_)
  go_simp
  refine (HQ.out _ hS).mono ?_
  rintro e1 wj ⟨rfl, hgj⟩
  replace hS := Gr.step hS hgj
  refine hK _ _ hS ?_
  clear hK K hgj HQ
  refine take_at 7 (some 72) (v := ?vg7) rfl rfl (by kernel_rfl) (by kernel_rfl) (by kernel_rfl) (by rfl) ?yg7 hS ?tg7
  case yg7 =>
    intro w' hSw
    go_simp
    (try rw [if_pos (by omega)])
    (try with_reducible rfl)
  simp only [Act.put, List.setIfInBounds_toArray, List.set_cons_zero, List.set_cons_succ]
  refine take_at 8 (some 73) (v := ?vg8) rfl rfl (by kernel_rfl) (by kernel_rfl) (by kernel_rfl) (by rfl) ?yg8 hS ?tg8
  case yg8 =>
    intro w' hSw
    go_simp
    (try rw [if_pos (by omega)])
    (try with_reducible rfl)
  simp only [Act.put, List.setIfInBounds_toArray, List.set_cons_zero, List.set_cons_succ]
  refine take_at 9 (some 74) (v := ?vg9) rfl rfl (by kernel_rfl) (by kernel_rfl) (by kernel_rfl) (by rfl) ?yg9 hS ?tg9
  case yg9 =>
    intro w' hSw
    go_simp
    (try rw [if_pos (by omega)])
    (try with_reducible rfl)
  simp only [Act.put, List.setIfInBounds_toArray, List.set_cons_zero, List.set_cons_succ]
  refine take_at 10 (some 75) (v := ?vg10) rfl rfl (by kernel_rfl) (by kernel_rfl) (by kernel_rfl) (by rfl) ?yg10 hS ?tg10
  case yg10 =>
    intro w' hSw
    obtain ⟨⟨q0, q1, q2, q3, q4, q5, q6⟩, -⟩ := (HC5.out.gr hSw).seven
    go_simp
    (try with_reducible rfl)
  simp only [Act.put, List.setIfInBounds_toArray, List.set_cons_zero, List.set_cons_succ]
  refine take_at 12 (some 77) (v := ?vg12) rfl rfl (by kernel_rfl) (by kernel_rfl) (by kernel_rfl) (by rfl) ?yg12 hS ?tg12
  case yg12 =>
    intro w' hSw
    obtain ⟨⟨q0, q1, q2, q3, q4, q5, q6⟩, -⟩ := (HC5.out.gr hSw).seven
    go_simp
    (try with_reducible rfl)
  simp only [Act.put, List.setIfInBounds_toArray, List.set_cons_zero, List.set_cons_succ]
  refine next_at 11 rfl (by kernel_rfl) (by rfl) (fun K hK => ?_)
  go_simp
  refine (HK1.out _).mono ?_
  rintro e wj ⟨rfl, hgj⟩
  replace hS := Gr.step hS hgj
  refine hK _ _ hS ?_
  clear hK K hgj
  refine next_at 13 rfl (by kernel_rfl) (by rfl) (fun K hK => ?_)
  go_simp
  refine (HK2.out _).mono ?_
  rintro e wj ⟨rfl, hgj⟩
  replace hS := Gr.step hS hgj
  refine hK _ _ hS ?_
  clear hK K hgj
  refine take_at 14 (some 79) (v := ?vg14) rfl rfl (by kernel_rfl) (by kernel_rfl) (by kernel_rfl) (by rfl) ?yg14 hS ?tg14
  case yg14 =>
    intro w' hSw
    go_simp
    (try rw [if_pos (by omega)])
    (try with_reducible rfl)
  simp only [Act.put, List.setIfInBounds_toArray, List.set_cons_zero, List.set_cons_succ]
  refine take_at 15 (some 80) (v := ?vg15) rfl rfl (by kernel_rfl) (by kernel_rfl) (by kernel_rfl) (by rfl) ?yg15 hS ?tg15
  case yg15 =>
    intro w' hSw
    go_simp
    (try rw [if_pos (by omega)])
    (try with_reducible rfl)
  simp only [Act.put, List.setIfInBounds_toArray, List.set_cons_zero, List.set_cons_succ]
  refine take_at 16 (some 81) (v := ?vg16) rfl rfl (by kernel_rfl) (by kernel_rfl) (by kernel_rfl) (by rfl) ?yg16 hS ?tg16
  case yg16 =>
    intro w' hSw
    go_simp
    (try rw [if_pos (by omega)])
    (try with_reducible rfl)
  simp only [Act.put, List.setIfInBounds_toArray, List.set_cons_zero, List.set_cons_succ]
  refine take_at 17 (some 82) (v := ?vg17) rfl rfl (by kernel_rfl) (by kernel_rfl) (by kernel_rfl) (by rfl) ?yg17 hS ?tg17
  case yg17 =>
    intro w' hSw
    go_simp
    (try rw [if_pos (by omega)])
    (try with_reducible rfl)
  simp only [Act.put, List.setIfInBounds_toArray, List.set_cons_zero, List.set_cons_succ]
  refine take_at 18 (some 83) (v := ?vg18) rfl rfl (by kernel_rfl) (by kernel_rfl) (by kernel_rfl) (by rfl) ?yg18 hS ?tg18
  case yg18 =>
    intro w' hSw
    obtain ⟨⟨q0, q1, q2, q3, q4, q5, q6, q7⟩, -⟩ := (HC9.out.gr hSw).eight
    go_simp
    (try with_reducible rfl)
  simp only [Act.put, List.setIfInBounds_toArray, List.set_cons_zero, List.set_cons_succ]
  refine take_at 20 (some 85) (v := ?vg20) rfl rfl (by kernel_rfl) (by kernel_rfl) (by kernel_rfl) (by rfl) ?yg20 hS ?tg20
  case yg20 =>
    intro w' hSw
    go_simp
    (try rw [if_pos (by omega)])
    (try with_reducible rfl)
  simp only [Act.put, List.setIfInBounds_toArray, List.set_cons_zero, List.set_cons_succ]
  refine take_at 21 (some 86) (v := ?vg21) rfl rfl (by kernel_rfl) (by kernel_rfl) (by kernel_rfl) (by rfl) ?yg21 hS ?tg21
  case yg21 =>
    intro w' hSw
    obtain ⟨⟨q0, q1, q2, q3, q4, q5, q6, q7⟩, -⟩ := (HC9.out.gr hSw).eight
    go_simp
    (try with_reducible rfl)
  simp only [Act.put, List.setIfInBounds_toArray, List.set_cons_zero, List.set_cons_succ]
  refine next_at 19 rfl (by kernel_rfl) (by rfl) (fun K hK => ?_)
  go_simp
  refine (HK3.out _).mono ?_
  rintro e wj ⟨rfl, hgj⟩
  replace hS := Gr.step hS hgj
  refine hK _ _ hS ?_
  clear hK K hgj
  refine next_at 22 rfl (by kernel_rfl) (by rfl) (fun K hK => ?_)
  go_simp
  refine (HK4.out _).mono ?_
  rintro e wj ⟨rfl, hgj⟩
  replace hS := Gr.step hS hgj
  refine hK _ _ hS ?_
  clear hK K hgj
  refine take_at 23 (some 88) (v := ?vg23) rfl rfl (by kernel_rfl) (by kernel_rfl) (by kernel_rfl) (by rfl) ?yg23 hS ?tg23
  case yg23 =>
    intro w' hSw
    go_simp
    (try rw [if_pos (by omega)])
    (try with_reducible rfl)
  simp only [Act.put, List.setIfInBounds_toArray, List.set_cons_zero, List.set_cons_succ]
  refine take_at 24 (some 89) (v := ?vg24) rfl rfl (by kernel_rfl) (by kernel_rfl) (by kernel_rfl) (by rfl) ?yg24 hS ?tg24
  case yg24 =>
    intro w' hSw
    go_simp
    (try rw [if_pos (by omega)])
    (try with_reducible rfl)
  simp only [Act.put, List.setIfInBounds_toArray, List.set_cons_zero, List.set_cons_succ]
  refine wpAnyH_done (by kernel_rfl) ?_ _
  refine qz_normal ?_
  replace hg := hg.step hS
  have HO5 := Lib.hid (HO5.out.gr hS)
  clear HC5 HC9 HO4 HK1 HK2 HK3 HK4 hS
  go_wp2_with fail
  refine (new_any sv len 80 _ (by omega) hl (HB.out.gr hg)).mono ?_
  rintro e1 w6 ⟨b2, rfl, hbe, hc2, hg2⟩
  have hlt5 := HO5.out.1.lt
  have hgw := Gr.size hg
  have HRN := Lib.hid ((HR.out.imp (q := (· ≠ b2)) (fun x _ hx => by omega)).gr (hg.step hg2))
  have HXN := Lib.hid (((HO5.out.rb).imp (q := (· ≠ b2)) (fun x hx _ => by omega)).gr hg2)
  have HNB := Lib.hid (fun k hk => (by have := (hlt5 k hk).2; omega : k ≠ b2))
  have HO5 := Lib.hid (HO5.out.gr hg2)
  have hb2w : w.heap.size ≤ b2 := by omega
  have hb26 := hc2.lt
  replace hg := hg.step hg2
  have HC := Lib.hid hc2
  clear hbe hc2 hg2 hlt5 hgw HB
  obtain ⟨Hf, hHf⟩ : ∃ Hf, Hf = N / 2 := ⟨_, rfl⟩
  have e2 : (N : Int) / 2 = (Hf : Int) := by omega
  have u1 : (Hf : Int) ≤ (c5 : Int) := by omega
  have eWH : IntKind.i64.wrap (Hf : Int) = (Hf : Int) := by rw [IntWalk.i64_in _ (by omega)]
  have u2 : Hf ≤ c5 := by omega
  have u3 : Hf ≤ N := by omega
  clear hHf
  go_wp2_with fail
  have hS : True := trivial
  refine region_cut9 ?aF (fun sa sn sc a7 c7 a8 n8 c8 gz wz => ∃ ls : List Nat, sn ≤ 3000 ∧ Rb (fun _ => True) wz (.slice ar R cr) lr ∧ Rb (fun _ => True) wz (.slice a5 N c5) L ∧ Rb (fun _ => True) wz (.slice sa sn sc) ls ∧ Rb (fun _ => True) wz (.slice a8 n8 c8) (L ++ lr) ∧ Gr w wz ∧ CL wz gz [.slice ar R cr, .slice a5 N c5, .slice sa sn sc, .slice a8 n8 c8, .slice a5 Hf c5]) ?reg ?cont
  case reg =>
    refine region_plain (fun _ => True) (by kernel_rfl) ?_
    refine take_at 0 (some 92) (v := ?vh0) rfl rfl (by kernel_rfl) (by kernel_rfl) (by kernel_rfl) (by rfl) ?yh0 hS ?th0
    case yh0 =>
      intro w' hSw
      go_simp
      (try rw [if_pos (by omega)])
      (try with_reducible rfl)
    simp only [Act.put, List.setIfInBounds_toArray, List.set_cons_zero, List.set_cons_succ]
    refine take_at 1 (some 93) (v := ?vh1) rfl rfl (by kernel_rfl) (by kernel_rfl) (by kernel_rfl) (by rfl) ?yh1 hS ?th1
    case yh1 =>
      intro w' hSw
      go_simp
      (try rw [if_pos (by omega)])
      (try with_reducible rfl)
    simp only [Act.put, List.setIfInBounds_toArray, List.set_cons_zero, List.set_cons_succ]
    refine take_at 2 (some 94) (v := ?vh2) rfl rfl (by kernel_rfl) (by kernel_rfl) (by kernel_rfl) (by rfl) ?yh2 hS ?th2
    case yh2 =>
      intro w' hSw
      go_simp
      (try rw [if_pos (by omega)])
      (try with_reducible rfl)
    simp only [Act.put, List.setIfInBounds_toArray, List.set_cons_zero, List.set_cons_succ]
    refine take_at 3 (some 95) (v := ?vh3) rfl rfl (by kernel_rfl) (by kernel_rfl) (by kernel_rfl) (by rfl) ?yh3 hS ?th3
    case yh3 =>
      intro w' hSw
      go_simp
      (try rw [if_pos (by omega)])
      (try with_reducible rfl)
    simp only [Act.put, List.setIfInBounds_toArray, List.set_cons_zero, List.set_cons_succ]
    refine take_at 5 (some 97) (v := ?vh5) rfl rfl (by kernel_rfl) (by kernel_rfl) (by kernel_rfl) (by rfl) ?yh5 hS ?th5
    case yh5 =>
      intro w' hSw
      go_simp
      (try rw [if_pos (by omega)])
      (try with_reducible rfl)
    simp only [Act.put, List.setIfInBounds_toArray, List.set_cons_zero, List.set_cons_succ]
    refine take_at 7 (some 99) (v := ?vh7) rfl rfl (by kernel_rfl) (by kernel_rfl) (by kernel_rfl) (by rfl) ?yh7 hS ?th7
    case yh7 =>
      intro w' hSw
      go_simp
      (try rw [if_pos (by omega)])
      (try with_reducible rfl)
    simp only [Act.put, List.setIfInBounds_toArray, List.set_cons_zero, List.set_cons_succ]
    refine take_at 9 (some 101) (v := ?vh9) rfl rfl (by kernel_rfl) (by kernel_rfl) (by kernel_rfl) (by rfl) ?yh9 hS ?th9
    case yh9 =>
      intro w' hSw
      go_simp
      (try rw [if_pos (by omega)])
      (try with_reducible rfl)
    simp only [Act.put, List.setIfInBounds_toArray, List.set_cons_zero, List.set_cons_succ]
    refine take_at 10 (some 102) (v := ?vh10) rfl rfl (by kernel_rfl) (by kernel_rfl) (by kernel_rfl) (by rfl) ?yh10 hS ?th10
    case yh10 =>
      intro w' hSw
      go_simp
      (try rw [if_pos (by omega)])
      (try with_reducible rfl)
    simp only [Act.put, List.setIfInBounds_toArray, List.set_cons_zero, List.set_cons_succ]
    refine take_at 11 (some 103) (v := ?vh11) rfl rfl (by kernel_rfl) (by kernel_rfl) (by kernel_rfl) (by rfl) ?yh11 hS ?th11
    case yh11 =>
      intro w' hSw
      go_simp
      (try rw [if_pos (by omega)])
      (try with_reducible rfl)
    simp only [Act.put, List.setIfInBounds_toArray, List.set_cons_zero, List.set_cons_succ]
    refine take_at 12 (some 104) (v := ?vh12) rfl rfl (by kernel_rfl) (by kernel_rfl) (by kernel_rfl) (by rfl) ?yh12 hS ?th12
    case yh12 =>
      intro w' hSw
      go_simp
      (try rw [if_pos (by omega)])
      (try with_reducible rfl)
    simp only [Act.put, List.setIfInBounds_toArray, List.set_cons_zero, List.set_cons_succ]
    refine take_at 13 (some 105) (v := ?vh13) rfl rfl (by kernel_rfl) (by kernel_rfl) (by kernel_rfl) (by rfl) ?yh13 hS ?th13
    case yh13 =>
      intro w' hSw
      go_simp
      (try rw [if_pos (by omega)])
      (try with_reducible rfl)
    simp only [Act.put, List.setIfInBounds_toArray, List.set_cons_zero, List.set_cons_succ]
    refine take_at 16 (some 108) (v := ?vh16) rfl rfl (by kernel_rfl) (by kernel_rfl) (by kernel_rfl) (by rfl) ?yh16 hS ?th16
    case yh16 =>
      intro w' hSw
      go_simp
      (try rw [if_pos (by omega)])
      (try with_reducible rfl)
    simp only [Act.put, List.setIfInBounds_toArray, List.set_cons_zero, List.set_cons_succ]
    refine next_at 4 rfl (by kernel_rfl) (by rfl) (fun K hK => ?_)
    go_simp
    refine (spoilt_res b2 (.slice a5 N c5) L _ (HC.out.gr (Gr.drew (Gr.refl w6))) (HO5.out.gr (Gr.drew (Gr.refl w6))) (by have := HN.out; omega) HNB.out).mono ?_
    rintro e1 ws ⟨vs, ls, rfl, hrs, hls, hEs⟩
    obtain ⟨sa, sc, rfl, -, -⟩ := hrs.form
    refine hK _ _ trivial ?_
    clear hK K
    refine next_at 6 rfl (by kernel_rfl) (by rfl) (fun K hK => ?_)
    refine oper_app (base := ws.heap.size) (.const (.slice none 0 0)) (.tmp 97) rfl rfl (OwB.nil _ _) rfl ((HXN.out.gr (Gr.drew (Gr.refl w6))).ex hEs (fun _ h => h)) (by have := HN.out; simp; omega) (Nat.le_refl _) ?_
    intro v7 w7 ho7 g7
    have hg7 : Gr ws w7 := Gr.grownNew (Gr.refl _) g7 (fun _ h => by cases h)
    rw [List.nil_append] at ho7
    have hab7 := ho7.above
    obtain ⟨a7, c7, rfl, -, -⟩ := ho7.rb.form
    rw [← HN.out] at ho7 hab7 ⊢
    refine hK _ _ trivial ?_
    simp only [Act.put, List.setIfInBounds_toArray]
    clear hK K
    refine next_at 8 rfl (by kernel_rfl) (by rfl) (fun K hK => ?_)
    refine oper_app (base := ws.heap.size) (.tmp 98) (.tmp 99) rfl rfl ho7 rfl (((HRN.out.gr (Gr.drew (Gr.refl w6))).ex hEs (fun _ h => h)).gr hg7) (by have := HN.out; have := HRL.out; omega) (Gr.size hg7) ?_
    intro v8 w8 ho8 g8
    obtain ⟨a8, c8, rfl, -, -⟩ := ho8.rb.form
    generalize (L ++ lr).length = n8 at *
    refine hK _ _ trivial ?_
    simp only [Act.put]
    clear hK K
    have hg8 := hg7.grownNew g8 hab7
    have hEF := hEs.trans (Ex.ofGr hg8)
    have HRF := Lib.hid (((HRN.out.gr (Gr.drew (Gr.refl _))).ex hEF (fun _ h => h)).any)
    have HXF := Lib.hid (((HXN.out.gr (Gr.drew (Gr.refl _))).ex hEF (fun _ h => h)).any)
    have HSF := Lib.hid ((hrs.gr hg8).any)
    have HAF := Lib.hid ((ho8.rb).any)
    have hgz := Ex.gr (hg.step (Gr.drew (Gr.refl _))) hb2w hEF
    clear hEF
    have HLS := Lib.hid hls
    clear hls
    generalize hns : ls.length = sn at *
    refine next_at 14 rfl (by kernel_rfl) (by rfl) (fun K hK => ?_)
    go_simp
    refine hK _ _ trivial ?_
    clear hK K
    have hga := Gr.alloc (Gr.refl w8) (.cells #[.slice ar R cr, .slice a5 N c5, .slice sa sn sc, .slice a8 n8 c8, .slice a5 Hf c5] 22)
    have hcl := CL.new w8 [.slice ar R cr, .slice a5 N c5, .slice sa sn sc, .slice a8 n8 c8, .slice a5 Hf c5] 22 _ rfl
    have HRF := Lib.hid (HRF.out.gr hga)
    have HXF := Lib.hid (HXF.out.gr hga)
    have HSF := Lib.hid (HSF.out.gr hga)
    have HAF := Lib.hid (HAF.out.gr hga)
    replace hgz := hgz.step hga
    clear hga
    have HCLZ := Lib.hid (show CL (w8.alloc (.cells #[.slice ar R cr, .slice a5 N c5, .slice sa sn sc, .slice a8 n8 c8, .slice a5 Hf c5] 22)) w8.heap.size [.slice ar R cr, .slice a5 N c5, .slice sa sn sc, .slice a8 n8 c8, .slice a5 Hf c5] from hcl)
    clear hcl
    generalize w8.alloc (.cells #[.slice ar R cr, .slice a5 N c5, .slice sa sn sc, .slice a8 n8 c8, .slice a5 Hf c5] 22) = wz at *
    generalize w8.heap.size = gz at *
    refine next_at 15 rfl (by kernel_rfl) (by rfl) (fun K hK => ?_)
    go_simp
    refine hK _ _ trivial ?_
    clear hK K
    refine wpAnyH_done (by kernel_rfl) ?_ _
    refine qz_normal ⟨rfl, sa, sn, sc, a7, c7, a8, n8, c8, gz, ?_, ls, HLS.out, HRF.out, HXF.out, HSF.out, HAF.out, hgz, HCLZ.out⟩
    first | with_reducible rfl | exact rfl
  case cont =>
    intro sa sn sc a7 c7 a8 n8 c8 gz wz hR
    obtain ⟨ls, hls, hRF, hXF, hSF, hAF, hgz, hcl⟩ := hR
    have hsl : sn = ls.length := by obtain ⟨_, _, hh, _⟩ := hSF.form; cases hh; rfl
    have hn8 : n8 = (L ++ lr).length := by obtain ⟨_, _, hh, _⟩ := hAF.form; cases hh; rfl
    have HY : Hid (∀ t, t < 5 → ∃ (ya : Option Addr) (yn yc : Nat) (l : List Nat), wz.cell? ⟨gz, t, none⟩ = some (.slice ya yn yc) ∧ Rb (fun _ => True) wz (.slice ya yn yc) l ∧ l.length ≤ 4000) := Lib.hid (by
      intro t ht
      have h0 := (hcl.at' 0 _ rfl).1
      have h1 := (hcl.at' 1 _ rfl).1
      have h2 := (hcl.at' 2 _ rfl).1
      have h3 := (hcl.at' 3 _ rfl).1
      have h4 := (hcl.at' 4 _ rfl).1
      have := HN.out
      have := HRL.out
      have : t = 0 ∨ t = 1 ∨ t = 2 ∨ t = 3 ∨ t = 4 := by omega
      rcases this with rfl | rfl | rfl | rfl | rfl
      · exact ⟨_, _, _, _, h0, hRF, by omega⟩
      · exact ⟨_, _, _, _, h1, hXF, by omega⟩
      · exact ⟨_, _, _, _, h2, hSF, by omega⟩
      · exact ⟨_, _, _, _, h3, hAF, by rw [List.length_append]; omega⟩
      · exact ⟨_, _, _, _, h4, hXF.take (k := Hf) (by omega), by rw [List.length_take]; omega⟩)
    have hzl := hcl.lt
    have HGZ := Lib.hid hgz
    clear hRF hXF hSF hAF hcl hsl hn8 hls hgz HC HO5 HNB HXN HRN hg
    go_wp2_with fail
    go_loopw [108] (fun iv wr => ∃ t : Nat, t ≤ 5 ∧ iv = .int .i64 t ∧ Gr wz wr) (fun iv _ => 5 - (intOf iv).toNat)
    case atStart => exact ⟨0, by omega, rfl, Gr.refl _⟩
    case round =>
      obtain ⟨t, ht, rfl, hgr⟩ := hrel
      by_cases hlt : t < 5
      · have dt : (t : Int) < 5 := by omega
        obtain ⟨ya, yn, yc, l, hyc, hyr, hyl⟩ := HY.out t hlt
        have hcell := ((Gr.cells hgr).1 gz t hzl).trans hyc
        have HYR := Lib.hid (hyr.gr hgr)
        clear hyr hyc
        go_wp2_with fail
        have HD1 := Lib.hid (decode_res wr HYR.out (by omega))
        have HD2 := Lib.hid (fun w' (k : Gr wr w') => rdecode_res w' (HYR.out.gr k) (by omega))
        have HP1 := Lib.hid (fun w' (k : Gr wr w') => peek_any w' (HYR.out.gr k) (by omega))
        have HP2 := Lib.hid (fun w' (k : Gr wr w') => rpeek_any w' (HYR.out.gr k) (by omega))
        have HL1 := Lib.hid (fun w' (k : Gr wr w') => lower_res w' (HYR.out.gr k) (by omega))
        have HL2 := Lib.hid (fun w' (k : Gr wr w') => rlower_res w' (HYR.out.gr k) (by omega))
        have hdl := dcL_len l
        have hll := lwL_len l
        rw [pkHd_v] at HP1 HP2
        unfold DcRes Hd.p pkV at HD1 HD2
        unfold Hd.v hdV at HP1 HP2
        unfold LwRes at HL1 HL2
        generalize dcH l = H at *
        generalize dcE l = DE at *
        generalize dcL l = DL at *
        generalize pkHd l = PH at *
        generalize pkN l = PN at *
        generalize pkE l = PE at *
        generalize lwE l = LE at *
        generalize lwL l = LL at *
        have HDL : Hid (DL.length ≤ 100000) := Lib.hid (by omega)
        have HLL : Hid (LL.length ≤ 100000) := Lib.hid (by omega)
        clear hdl hll HYR
        refine HD1.out.mono ?_
        rintro e1 w10 ⟨v10, rfl, h10, hg10⟩
        obtain ⟨a10, c10, rfl, -, -⟩ := h10.form
        have hc17 := CL.new w10 [.int .i64 H.tos, .int .i64 H.id, .int .i64 H.ttl, .int .i64 H.proto, .bool H.keep, .int .u32 H.src, .int .u32 H.dst, .slice a10 DL.length c10] 29 _ rfl
        have hG := hg10.alloc (.cells #[.int .i64 H.tos, .int .i64 H.id, .int .i64 H.ttl, .int .i64 H.proto, .bool H.keep, .int .u32 H.src, .int .u32 H.dst, .slice a10 DL.length c10] 29)
        have H10 := Lib.hid (h10.gr (Gr.alloc (Gr.refl w10) (.cells #[.int .i64 H.tos, .int .i64 H.id, .int .i64 H.ttl, .int .i64 H.proto, .bool H.keep, .int .u32 H.src, .int .u32 H.dst, .slice a10 DL.length c10] 29)))
        clear h10 hg10 hcell HD1
        go_wp2_with fail
        have HC17 := Lib.hid hc17
        clear hc17
        generalize w10.alloc (.cells #[.int .i64 H.tos, .int .i64 H.id, .int .i64 H.ttl, .int .i64 H.proto, .bool H.keep, .int .u32 H.src, .int .u32 H.dst, .slice a10 DL.length c10] 29) = w11 at *
        generalize w10.heap.size = g17 at *
        refine (HD2.out _ hG).mono ?_
        rintro e1 w12 ⟨v12, rfl, h12, hg12⟩
        obtain ⟨a12, c12, rfl, -, -⟩ := h12.form
        have hc19 := CL.new w12 [.int .i64 H.tos, .int .i64 H.id, .int .i64 H.ttl, .int .i64 H.proto, .bool H.keep, .int .u32 H.src, .int .u32 H.dst, .slice a12 DL.length c12] 29 _ rfl
        have hga := hg12.alloc (.cells #[.int .i64 H.tos, .int .i64 H.id, .int .i64 H.ttl, .int .i64 H.proto, .bool H.keep, .int .u32 H.src, .int .u32 H.dst, .slice a12 DL.length c12] 29)
        have H12 := Lib.hid (h12.gr (Gr.alloc (Gr.refl w12) (.cells #[.int .i64 H.tos, .int .i64 H.id, .int .i64 H.ttl, .int .i64 H.proto, .bool H.keep, .int .u32 H.src, .int .u32 H.dst, .slice a12 DL.length c12] 29)))
        have H10 := Lib.hid (H10.out.gr hga)
        have HC17 := Lib.hid (HC17.out.gr hga)
        replace hG := hG.step hga
        clear h12 hg12 hga HD2
        go_wp2_with fail
        have HC19 := Lib.hid hc19
        clear hc19
        generalize w12.alloc (.cells #[.int .i64 H.tos, .int .i64 H.id, .int .i64 H.ttl, .int .i64 H.proto, .bool H.keep, .int .u32 H.src, .int .u32 H.dst, .slice a12 DL.length c12] 29) = w13 at *
        generalize w12.heap.size = g19 at *
        refine (HP1.out _ hG).mono ?_
        rintro e1 w14 ⟨rfl, hg14⟩
        have hcx := CL.new w14 [.int .i64 PH.tos, .int .i64 PH.id, .int .i64 PH.ttl, .int .i64 PH.proto, .bool PH.keep, .int .u32 PH.src, .int .u32 PH.dst] 26 _ rfl
        have hga := hg14.alloc (.cells #[.int .i64 PH.tos, .int .i64 PH.id, .int .i64 PH.ttl, .int .i64 PH.proto, .bool PH.keep, .int .u32 PH.src, .int .u32 PH.dst] 26)
        have H10 := Lib.hid (H10.out.gr hga)
        have H12 := Lib.hid (H12.out.gr hga)
        have HC17 := Lib.hid (HC17.out.gr hga)
        have HC19 := Lib.hid (HC19.out.gr hga)
        replace hG := hG.step hga
        clear hga hg14 HP1
        go_wp2_with fail
        have HC21 := Lib.hid hcx
        clear hcx
        generalize w14.alloc (.cells #[.int .i64 PH.tos, .int .i64 PH.id, .int .i64 PH.ttl, .int .i64 PH.proto, .bool PH.keep, .int .u32 PH.src, .int .u32 PH.dst] 26) = w15 at *
        generalize w14.heap.size = g21 at *
        refine (HP2.out _ hG).mono ?_
        rintro e1 w16 ⟨rfl, hg16⟩
        have hcx := CL.new w16 [.int .i64 PH.tos, .int .i64 PH.id, .int .i64 PH.ttl, .int .i64 PH.proto, .bool PH.keep, .int .u32 PH.src, .int .u32 PH.dst] 26 _ rfl
        have hga := hg16.alloc (.cells #[.int .i64 PH.tos, .int .i64 PH.id, .int .i64 PH.ttl, .int .i64 PH.proto, .bool PH.keep, .int .u32 PH.src, .int .u32 PH.dst] 26)
        have H10 := Lib.hid (H10.out.gr hga)
        have H12 := Lib.hid (H12.out.gr hga)
        have HC17 := Lib.hid (HC17.out.gr hga)
        have HC19 := Lib.hid (HC19.out.gr hga)
        have HC21 := Lib.hid (HC21.out.gr hga)
        replace hG := hG.step hga
        clear hga hg16 HP2
        go_wp2_with fail
        have HC24 := Lib.hid hcx
        clear hcx
        generalize w16.alloc (.cells #[.int .i64 PH.tos, .int .i64 PH.id, .int .i64 PH.ttl, .int .i64 PH.proto, .bool PH.keep, .int .u32 PH.src, .int .u32 PH.dst] 26) = w17 at *
        generalize w16.heap.size = g24 at *
        refine (HL1.out _ hG).mono ?_
        rintro e1 w18 ⟨v18, rfl, h18, hg18⟩
        obtain ⟨a18, c18, rfl, -, -⟩ := h18.form
        go_wp2_with fail
        refine (HL2.out _ (hG.step hg18)).mono ?_
        rintro e1 w19 ⟨v19, rfl, h19, hg19⟩
        obtain ⟨a19, c19, rfl, -, -⟩ := h19.form
        have hgl := hg18.step hg19
        have H18 := Lib.hid (h18.gr hg19)
        have H19 := Lib.hid h19
        have H10 := Lib.hid (H10.out.gr hgl)
        have H12 := Lib.hid (H12.out.gr hgl)
        have HC17 := Lib.hid (HC17.out.gr hgl)
        have HC19 := Lib.hid (HC19.out.gr hgl)
        have HC21 := Lib.hid (HC21.out.gr hgl)
        have HC24 := Lib.hid (HC24.out.gr hgl)
        replace hG := hG.step hgl
        clear h18 h19 hg18 hg19 hgl HL1 HL2
        have HS := Lib.hid (rsame_self H.tos H.id H.ttl H.proto H.keep H.src H.dst w19 H10.out H12.out HDL.out)
        unfold pkV at HS
        have HQ := Lib.hid (fun w' (k : Gr w19 w') => rweq_c w' (H18.out.gr k) (H19.out.gr k) HLL.out HLL.out true (by simp))
        obtain ⟨⟨m0, m1, m2, m3, m4, m5, m6, m7⟩, -⟩ := HC17.out.eight
        obtain ⟨⟨n0, n1, n2, n3, n4, n5, n6, n7⟩, -⟩ := HC19.out.eight
        go_wp2_with fail
        clear m0 m1 m2 m3 m4 m5 m6 m7 n0 n1 n2 n3 n4 n5 n6 n7
        refine HS.out.mono ?_
        rintro e1 w20 ⟨rfl, hg20⟩
        obtain ⟨⟨m0, m1, m2, m3, m4, m5, m6⟩, -⟩ := (HC21.out.gr hg20).seven
        obtain ⟨⟨n0, n1, n2, n3, n4, n5, n6⟩, -⟩ := (HC24.out.gr hg20).seven
        go_wp2_with fail
        clear m0 m1 m2 m3 m4 m5 m6 n0 n1 n2 n3 n4 n5 n6
        refine (HQ.out _ hg20).mono ?_
        rintro e1 w21 ⟨rfl, hg21⟩
        have hGF := ((hgr.step hG).step hg20).step hg21
        go_wp2_with fail
        case roundEnd => exact ⟨⟨t + 1, by omega, by simp, hGF⟩, by simp [intOf]; omega⟩
      · obtain rfl : t = 5 := by omega
        go_wp2_with fail
        go_ret
        exact ⟨rfl, HGZ.out.step hgr⟩
end Go.Proofs.Ytcpaphehhjnemaa
