/- The package transport: check. -/
import Derived.Test.YtkpejaiigopmgaaGreatDoorKsM
import Derived.Test.YtkpejaiigopmgaaGreatDoorGD
import Derived.WalkKit
import Derived.WalkSpells
import Derived.WalkLawsBesides
import Derived.WalkSmall
import Derived.Handy
import Derived.BigQuiet
import Derived.Deep.QuietTactic
import Derived.Deep.RegionHeld3
import Derived.Deep.DeepFit
import Derived.Below
import Derived.Lib.Hide
import Derived.Lib.QuietBelow
namespace Go.Proofs.YtkpejaiigopmgaaGreatDoor
open Go Go.RowKit Go.Sort
set_option maxRecDepth 100000
set_option linter.unusedVariables false
theorem Rb.tail {p : Nat → Prop} {w : World} {b off n cap : Nat} {l : List Nat} (h : Rb p w (.slice (some ⟨b, off, none⟩) n cap) l) {k : Nat} (hk : k ≤ l.length) : Rb p w (.slice (if cap = k then some ⟨b, off, none⟩ else some ⟨b, off + k, none⟩) (n - k) (cap - k)) (l.drop k) := by
  have hn : n = l.length := by obtain ⟨_, _, e, _⟩ := h; cases e; rfl
  subst hn
  by_cases hc : cap = k
  · obtain ⟨a', cap', e, hl, hc', hn, hx, H⟩ := h
    cases e
    have e1 : l.length - k = 0 := by omega
    have e2 : l.drop k = [] := List.drop_of_length_le (by omega)
    rw [if_pos hc, e1, e2, show cap - k = 0 by omega]
    exact ⟨_, 0, rfl, Nat.le_refl _, by omega, fun _ => rfl, (fun _ h => by cases h), fun i hi => absurd hi (Nat.not_lt_zero i)⟩
  · rw [if_neg hc]
    have := h.part (k := k) (m := l.length - k) (by omega)
    rw [List.take_of_length_le (by rw [List.length_drop]; exact Nat.le_refl _)] at this
    exact this
set_option maxHeartbeats 2000000 in
theorem check_0 {p : Nat → Prop} {v : Value} {l : List Nat} (i : Nat) (w : World) (h : Rb p w v l) (hl : l.length ≤ 30000) (hi : i + 2 ≤ l.length) :
    Calls Tryz.prog 49 #[v, .int .i64 i, .func (.func 59) #[] #[]] w fun e w' => e = .returned (.int .i64 (vE s0 i l : Nat)) ∧ Gr w w' := by
  have HR := Lib.hid h
  have HV1 := Lib.hid (fun h => vE_long (S := s0) (i := i) (l := l) h)
  have HV2 := Lib.hid (fun h k => vE_ok (S := s0) (i := i) (l := l) h k)
  have HV3 := Lib.hid (fun h k => vE_bad (S := s0) (i := i) (l := l) h k)
  obtain ⟨av, cap, rfl, hcap, hmx⟩ := h.form
  obtain ⟨bk, off, rfl, -, -⟩ := h.at' (i := 0) (by omega)
  clear h
  generalize hE : vE s0 i l = E at *
  clear hE
  obtain ⟨L, hL⟩ : ∃ L, L = l.length := ⟨_, rfl⟩
  have HL := Lib.hid hL
  rw [← hL] at HR hl hi hcap HV1 HV2 HV3 ⊢
  clear hL
  by_cases h1 : 1480 < L
  · have d1 : decide ((1480 : Int) < (L : Int)) = true := by rw [decide_eq_true_eq]; omega
    have H := Lib.hid (HV1.out h1)
    clear h1 HV1 HV2 HV3 HR
    go_enter Tryz.func49, Tryz.ntmps49
    go_wp2_with fail
    go_ret
    exact ⟨ret_int (by rw [H.out]; rfl), Gr.refl _⟩
  · have d1 : decide ((1480 : Int) < (L : Int)) = false := by rw [decide_eq_false_iff_not]; omega
    obtain ⟨J, hJ⟩ : ∃ J, J = i + 2 := ⟨_, rfl⟩
    have HJ := Lib.hid hJ
    have hJ2 : J ≤ L := by omega
    have e1 : (i : Int) + 2 = (J : Int) := by omega
    have eWJ : IntKind.i64.wrap (J : Int) = (J : Int) := by rw [IntWalk.i64_in _ (by omega)]
    have HA := Lib.hid (HR.out.take (k := i) (by rw [← HL.out]; omega))
    have HZ := Lib.hid (HR.out.tail (k := J) (by rw [← HL.out]; omega))
    rw [hJ] at HZ
    have HSM := Lib.hid (fun w' (g : Gr w w') => summed_0 w' (HA.out.gr g) (HZ.out.gr g) (by rw [List.length_take]; omega) (by rw [List.length_drop, ← HL.out]; omega))
    rw [← hJ] at HZ HSM
    have HF := Lib.hid (show ¬ 1480 < L from h1)
    clear hJ h1
    go_enter Tryz.func49, Tryz.ntmps49
    go_wp2_with fail
    have hS : Gr w w.drew := Gr.drew (Gr.refl _)
    refine region_plain (Gr w) (by kernel_rfl) ?_
    refine take_at 0 (some 10) (v := ?va0) rfl rfl (by kernel_rfl) (by kernel_rfl) (by kernel_rfl) (by rfl) ?ya0 hS ?ta0
    case ya0 =>
      intro w' hSw
      go_simp
      (try rw [if_pos (by omega)])
      (try with_reducible rfl)
    simp only [Act.put, List.setIfInBounds_toArray, List.set_cons_zero, List.set_cons_succ]
    refine take_at 1 (some 11) (v := ?va1) rfl rfl (by kernel_rfl) (by kernel_rfl) (by kernel_rfl) (by rfl) ?ya1 hS ?ta1
    case ya1 =>
      intro w' hSw
      go_simp
      (try rw [if_pos (by omega)])
      (try with_reducible rfl)
    simp only [Act.put, List.setIfInBounds_toArray, List.set_cons_zero, List.set_cons_succ]
    refine take_at 2 (some 12) (v := ?va2) rfl rfl (by kernel_rfl) (by kernel_rfl) (by kernel_rfl) (by rfl) ?ya2 hS ?ta2
    case ya2 =>
      intro w' hSw
      go_simp
      (try rw [if_pos (by omega)])
      (try with_reducible rfl)
    simp only [Act.put, List.setIfInBounds_toArray, List.set_cons_zero, List.set_cons_succ]
    refine take_at 3 (some 13) (v := ?va3) rfl rfl (by kernel_rfl) (by kernel_rfl) (by kernel_rfl) (by rfl) ?ya3 hS ?ta3
    case ya3 =>
      intro w' hSw
      go_simp
      (try rw [if_pos (by omega)])
      (try with_reducible rfl)
    simp only [Act.put, List.setIfInBounds_toArray, List.set_cons_zero, List.set_cons_succ]
    refine take_at 4 (some 14) (v := ?va4) rfl rfl (by kernel_rfl) (by kernel_rfl) (by kernel_rfl) (by rfl) ?ya4 hS ?ta4
    case ya4 =>
      intro w' hSw
      go_simp
      (try rw [if_pos (by omega)])
      (try with_reducible rfl)
    simp only [Act.put, List.setIfInBounds_toArray, List.set_cons_zero, List.set_cons_succ]
    refine take_at 5 (some 15) (v := ?va5) rfl rfl (by kernel_rfl) (by kernel_rfl) (by kernel_rfl) (by rfl) ?ya5 hS ?ta5
    case ya5 =>
      intro w' hSw
      go_simp
      (try rw [if_pos (by omega)])
      (try with_reducible rfl)
    simp only [Act.put, List.setIfInBounds_toArray, List.set_cons_zero, List.set_cons_succ]
    refine take_at 6 (some 16) (v := ?va6) rfl rfl (by kernel_rfl) (by kernel_rfl) (by kernel_rfl) (by rfl) ?ya6 hS ?ta6
    case ya6 =>
      intro w' hSw
      go_simp
      (try rw [if_pos (by omega)])
      (try with_reducible rfl)
    simp only [Act.put, List.setIfInBounds_toArray, List.set_cons_zero, List.set_cons_succ]
    refine take_at 7 (some 17) (v := ?va7) rfl rfl (by kernel_rfl) (by kernel_rfl) (by kernel_rfl) (by rfl) ?ya7 hS ?ta7
    case ya7 =>
      intro w' hSw
      go_simp
      (try rw [if_pos (by omega)])
      (try with_reducible rfl)
    simp only [Act.put, List.setIfInBounds_toArray, List.set_cons_zero, List.set_cons_succ]
    generalize (if cap = J then some (⟨bk, off, none⟩ : Addr) else some ⟨bk, off + J, none⟩) = aq at HZ HSM ⊢
    refine take_at 8 (some 18) (v := ?va8) rfl rfl (by kernel_rfl) (by kernel_rfl) (by kernel_rfl) (by rfl) ?ya8 hS ?ta8
    case ya8 =>
      intro w' hSw
      go_simp
      (try rw [if_pos (by omega)])
      (try with_reducible rfl)
    simp only [Act.put, List.setIfInBounds_toArray, List.set_cons_zero, List.set_cons_succ]
    refine next_at 9 rfl (by kernel_rfl) (by rfl) (fun K hK => ?_)
    go_simp
    refine (HSM.out _ hS).mono ?_
    rintro e w1 ⟨v1, rfl, ho1, hg1⟩
    replace hS := Gr.step hS hg1
    have HQ := Lib.hid (weq_any w1 (HR.out.gr hS) ho1.rb)
    obtain ⟨a1, c1, rfl, -, -⟩ := ho1.rb.form
    generalize (msg s0 (l.take i) (l.drop J)).length = M at HQ ⊢
    refine hK _ _ hS ?_
    clear hK K ho1 hg1 HSM
    refine next_at 10 rfl (by kernel_rfl) (by rfl) (fun K hK => ?_)
    go_simp
    refine HQ.out.mono ?_
    rintro e w2 ⟨rfl, rfl⟩
    refine hK _ _ hS ?_
    clear hK K HQ
    rw [HJ.out]
    by_cases hm : l = msg s0 (l.take i) (l.drop (i + 2))
    · have H := Lib.hid (HV2.out HF.out hm)
      rw [decide_eq_true hm]
      clear hm HV1 HV2 HV3
      refine next_at 11 rfl (by kernel_rfl) (by rfl) (fun K hK => ?_)
      go_simp
      refine hK _ _ hS ?_
      clear hK K
      refine wpAnyH_done (by kernel_rfl) ?_ _
      refine qz_normal ?_
      go_wp2_with fail
      go_ret
      exact ⟨ret_int (by rw [H.out]; rfl), hS⟩
    · have H := Lib.hid (HV3.out HF.out hm)
      rw [decide_eq_false hm]
      clear hm HV1 HV2 HV3
      refine next_at 11 rfl (by kernel_rfl) (by rfl) (fun K hK => ?_)
      go_simp
      refine hK _ _ hS ?_
      clear hK K
      refine wpAnyH_done (by kernel_rfl) ?_ _
      refine qz_normal ?_
      go_wp2_with fail
      go_ret
      exact ⟨ret_int (by rw [H.out]; rfl), hS⟩
set_option maxHeartbeats 2000000 in
theorem check_P {p : Nat → Prop} {v : Value} {l : List Nat} (ga gb src dst i : Nat) (w : World) (k : Caps w ga gb src dst) (h : Rb p w v l) (hl : l.length ≤ 30000) (hi : i + 2 ≤ l.length) :
    Calls Tryz.prog 49 #[v, .int .i64 i, .func (.func 101) #[] #[.pointer (some ⟨ga, 0, none⟩), .pointer (some ⟨gb, 0, none⟩)]] w fun e w' => e = .returned (.int .i64 (vE (sP src dst 6) i l : Nat)) ∧ Gr w w' := by
  have HK := Lib.hid k
  clear k
  have HR := Lib.hid h
  have HV1 := Lib.hid (fun h => vE_long (S := (sP src dst 6)) (i := i) (l := l) h)
  have HV2 := Lib.hid (fun h k => vE_ok (S := (sP src dst 6)) (i := i) (l := l) h k)
  have HV3 := Lib.hid (fun h k => vE_bad (S := (sP src dst 6)) (i := i) (l := l) h k)
  obtain ⟨av, cap, rfl, hcap, hmx⟩ := h.form
  obtain ⟨bk, off, rfl, -, -⟩ := h.at' (i := 0) (by omega)
  clear h
  generalize hE : vE (sP src dst 6) i l = E at *
  clear hE
  obtain ⟨L, hL⟩ : ∃ L, L = l.length := ⟨_, rfl⟩
  have HL := Lib.hid hL
  rw [← hL] at HR hl hi hcap HV1 HV2 HV3 ⊢
  clear hL
  by_cases h1 : 1480 < L
  · have d1 : decide ((1480 : Int) < (L : Int)) = true := by rw [decide_eq_true_eq]; omega
    have H := Lib.hid (HV1.out h1)
    clear h1 HV1 HV2 HV3 HR
    go_enter Tryz.func49, Tryz.ntmps49
    go_wp2_with fail
    go_ret
    exact ⟨ret_int (by rw [H.out]; rfl), Gr.refl _⟩
  · have d1 : decide ((1480 : Int) < (L : Int)) = false := by rw [decide_eq_false_iff_not]; omega
    obtain ⟨J, hJ⟩ : ∃ J, J = i + 2 := ⟨_, rfl⟩
    have HJ := Lib.hid hJ
    have hJ2 : J ≤ L := by omega
    have e1 : (i : Int) + 2 = (J : Int) := by omega
    have eWJ : IntKind.i64.wrap (J : Int) = (J : Int) := by rw [IntWalk.i64_in _ (by omega)]
    have HA := Lib.hid (HR.out.take (k := i) (by rw [← HL.out]; omega))
    have HZ := Lib.hid (HR.out.tail (k := J) (by rw [← HL.out]; omega))
    rw [hJ] at HZ
    have HSM := Lib.hid (fun w' (g : Gr w w') => summed_P ga gb src dst w' (HK.out.gr g) (HA.out.gr g) (HZ.out.gr g) (by rw [List.length_take]; omega) (by rw [List.length_drop, ← HL.out]; omega))
    rw [← hJ] at HZ HSM
    have HF := Lib.hid (show ¬ 1480 < L from h1)
    clear hJ h1
    go_enter Tryz.func49, Tryz.ntmps49
    go_wp2_with fail
    have hS : Gr w w.drew := Gr.drew (Gr.refl _)
    refine region_plain (Gr w) (by kernel_rfl) ?_
    refine take_at 0 (some 10) (v := ?va0) rfl rfl (by kernel_rfl) (by kernel_rfl) (by kernel_rfl) (by rfl) ?ya0 hS ?ta0
    case ya0 =>
      intro w' hSw
      go_simp
      (try rw [if_pos (by omega)])
      (try with_reducible rfl)
    simp only [Act.put, List.setIfInBounds_toArray, List.set_cons_zero, List.set_cons_succ]
    refine take_at 1 (some 11) (v := ?va1) rfl rfl (by kernel_rfl) (by kernel_rfl) (by kernel_rfl) (by rfl) ?ya1 hS ?ta1
    case ya1 =>
      intro w' hSw
      go_simp
      (try rw [if_pos (by omega)])
      (try with_reducible rfl)
    simp only [Act.put, List.setIfInBounds_toArray, List.set_cons_zero, List.set_cons_succ]
    refine take_at 2 (some 12) (v := ?va2) rfl rfl (by kernel_rfl) (by kernel_rfl) (by kernel_rfl) (by rfl) ?ya2 hS ?ta2
    case ya2 =>
      intro w' hSw
      go_simp
      (try rw [if_pos (by omega)])
      (try with_reducible rfl)
    simp only [Act.put, List.setIfInBounds_toArray, List.set_cons_zero, List.set_cons_succ]
    refine take_at 3 (some 13) (v := ?va3) rfl rfl (by kernel_rfl) (by kernel_rfl) (by kernel_rfl) (by rfl) ?ya3 hS ?ta3
    case ya3 =>
      intro w' hSw
      go_simp
      (try rw [if_pos (by omega)])
      (try with_reducible rfl)
    simp only [Act.put, List.setIfInBounds_toArray, List.set_cons_zero, List.set_cons_succ]
    refine take_at 4 (some 14) (v := ?va4) rfl rfl (by kernel_rfl) (by kernel_rfl) (by kernel_rfl) (by rfl) ?ya4 hS ?ta4
    case ya4 =>
      intro w' hSw
      go_simp
      (try rw [if_pos (by omega)])
      (try with_reducible rfl)
    simp only [Act.put, List.setIfInBounds_toArray, List.set_cons_zero, List.set_cons_succ]
    refine take_at 5 (some 15) (v := ?va5) rfl rfl (by kernel_rfl) (by kernel_rfl) (by kernel_rfl) (by rfl) ?ya5 hS ?ta5
    case ya5 =>
      intro w' hSw
      go_simp
      (try rw [if_pos (by omega)])
      (try with_reducible rfl)
    simp only [Act.put, List.setIfInBounds_toArray, List.set_cons_zero, List.set_cons_succ]
    refine take_at 6 (some 16) (v := ?va6) rfl rfl (by kernel_rfl) (by kernel_rfl) (by kernel_rfl) (by rfl) ?ya6 hS ?ta6
    case ya6 =>
      intro w' hSw
      go_simp
      (try rw [if_pos (by omega)])
      (try with_reducible rfl)
    simp only [Act.put, List.setIfInBounds_toArray, List.set_cons_zero, List.set_cons_succ]
    refine take_at 7 (some 17) (v := ?va7) rfl rfl (by kernel_rfl) (by kernel_rfl) (by kernel_rfl) (by rfl) ?ya7 hS ?ta7
    case ya7 =>
      intro w' hSw
      go_simp
      (try rw [if_pos (by omega)])
      (try with_reducible rfl)
    simp only [Act.put, List.setIfInBounds_toArray, List.set_cons_zero, List.set_cons_succ]
    generalize (if cap = J then some (⟨bk, off, none⟩ : Addr) else some ⟨bk, off + J, none⟩) = aq at HZ HSM ⊢
    refine take_at 8 (some 18) (v := ?va8) rfl rfl (by kernel_rfl) (by kernel_rfl) (by kernel_rfl) (by rfl) ?ya8 hS ?ta8
    case ya8 =>
      intro w' hSw
      go_simp
      (try rw [if_pos (by omega)])
      (try with_reducible rfl)
    simp only [Act.put, List.setIfInBounds_toArray, List.set_cons_zero, List.set_cons_succ]
    refine next_at 9 rfl (by kernel_rfl) (by rfl) (fun K hK => ?_)
    go_simp
    refine (HSM.out _ hS).mono ?_
    rintro e w1 ⟨v1, rfl, ho1, hg1⟩
    replace hS := Gr.step hS hg1
    have HQ := Lib.hid (weq_any w1 (HR.out.gr hS) ho1.rb)
    obtain ⟨a1, c1, rfl, -, -⟩ := ho1.rb.form
    generalize (msg (sP src dst 6) (l.take i) (l.drop J)).length = M at HQ ⊢
    refine hK _ _ hS ?_
    clear hK K ho1 hg1 HSM
    refine next_at 10 rfl (by kernel_rfl) (by rfl) (fun K hK => ?_)
    go_simp
    refine HQ.out.mono ?_
    rintro e w2 ⟨rfl, rfl⟩
    refine hK _ _ hS ?_
    clear hK K HQ
    rw [HJ.out]
    by_cases hm : l = msg (sP src dst 6) (l.take i) (l.drop (i + 2))
    · have H := Lib.hid (HV2.out HF.out hm)
      rw [decide_eq_true hm]
      clear hm HV1 HV2 HV3
      refine next_at 11 rfl (by kernel_rfl) (by rfl) (fun K hK => ?_)
      go_simp
      refine hK _ _ hS ?_
      clear hK K
      refine wpAnyH_done (by kernel_rfl) ?_ _
      refine qz_normal ?_
      go_wp2_with fail
      go_ret
      exact ⟨ret_int (by rw [H.out]; rfl), hS⟩
    · have H := Lib.hid (HV3.out HF.out hm)
      rw [decide_eq_false hm]
      clear hm HV1 HV2 HV3
      refine next_at 11 rfl (by kernel_rfl) (by rfl) (fun K hK => ?_)
      go_simp
      refine hK _ _ hS ?_
      clear hK K
      refine wpAnyH_done (by kernel_rfl) ?_ _
      refine qz_normal ?_
      go_wp2_with fail
      go_ret
      exact ⟨ret_int (by rw [H.out]; rfl), hS⟩
set_option maxHeartbeats 2000000 in
theorem check_U {p : Nat → Prop} {v : Value} {l : List Nat} (ga gb src dst i : Nat) (w : World) (k : Caps w ga gb src dst) (h : Rb p w v l) (hl : l.length ≤ 30000) (hi : i + 2 ≤ l.length) :
    Calls Tryz.prog 49 #[v, .int .i64 i, .func (.func 84) #[] #[.pointer (some ⟨ga, 0, none⟩), .pointer (some ⟨gb, 0, none⟩)]] w fun e w' => e = .returned (.int .i64 (vE (sU src dst) i l : Nat)) ∧ Gr w w' := by
  have HK := Lib.hid k
  clear k
  have HR := Lib.hid h
  have HV1 := Lib.hid (fun h => vE_long (S := (sU src dst)) (i := i) (l := l) h)
  have HV2 := Lib.hid (fun h k => vE_ok (S := (sU src dst)) (i := i) (l := l) h k)
  have HV3 := Lib.hid (fun h k => vE_bad (S := (sU src dst)) (i := i) (l := l) h k)
  obtain ⟨av, cap, rfl, hcap, hmx⟩ := h.form
  obtain ⟨bk, off, rfl, -, -⟩ := h.at' (i := 0) (by omega)
  clear h
  generalize hE : vE (sU src dst) i l = E at *
  clear hE
  obtain ⟨L, hL⟩ : ∃ L, L = l.length := ⟨_, rfl⟩
  have HL := Lib.hid hL
  rw [← hL] at HR hl hi hcap HV1 HV2 HV3 ⊢
  clear hL
  by_cases h1 : 1480 < L
  · have d1 : decide ((1480 : Int) < (L : Int)) = true := by rw [decide_eq_true_eq]; omega
    have H := Lib.hid (HV1.out h1)
    clear h1 HV1 HV2 HV3 HR
    go_enter Tryz.func49, Tryz.ntmps49
    go_wp2_with fail
    go_ret
    exact ⟨ret_int (by rw [H.out]; rfl), Gr.refl _⟩
  · have d1 : decide ((1480 : Int) < (L : Int)) = false := by rw [decide_eq_false_iff_not]; omega
    obtain ⟨J, hJ⟩ : ∃ J, J = i + 2 := ⟨_, rfl⟩
    have HJ := Lib.hid hJ
    have hJ2 : J ≤ L := by omega
    have e1 : (i : Int) + 2 = (J : Int) := by omega
    have eWJ : IntKind.i64.wrap (J : Int) = (J : Int) := by rw [IntWalk.i64_in _ (by omega)]
    have HA := Lib.hid (HR.out.take (k := i) (by rw [← HL.out]; omega))
    have HZ := Lib.hid (HR.out.tail (k := J) (by rw [← HL.out]; omega))
    rw [hJ] at HZ
    have HSM := Lib.hid (fun w' (g : Gr w w') => summed_U ga gb src dst w' (HK.out.gr g) (HA.out.gr g) (HZ.out.gr g) (by rw [List.length_take]; omega) (by rw [List.length_drop, ← HL.out]; omega))
    rw [← hJ] at HZ HSM
    have HF := Lib.hid (show ¬ 1480 < L from h1)
    clear hJ h1
    go_enter Tryz.func49, Tryz.ntmps49
    go_wp2_with fail
    have hS : Gr w w.drew := Gr.drew (Gr.refl _)
    refine region_plain (Gr w) (by kernel_rfl) ?_
    refine take_at 0 (some 10) (v := ?va0) rfl rfl (by kernel_rfl) (by kernel_rfl) (by kernel_rfl) (by rfl) ?ya0 hS ?ta0
    case ya0 =>
      intro w' hSw
      go_simp
      (try rw [if_pos (by omega)])
      (try with_reducible rfl)
    simp only [Act.put, List.setIfInBounds_toArray, List.set_cons_zero, List.set_cons_succ]
    refine take_at 1 (some 11) (v := ?va1) rfl rfl (by kernel_rfl) (by kernel_rfl) (by kernel_rfl) (by rfl) ?ya1 hS ?ta1
    case ya1 =>
      intro w' hSw
      go_simp
      (try rw [if_pos (by omega)])
      (try with_reducible rfl)
    simp only [Act.put, List.setIfInBounds_toArray, List.set_cons_zero, List.set_cons_succ]
    refine take_at 2 (some 12) (v := ?va2) rfl rfl (by kernel_rfl) (by kernel_rfl) (by kernel_rfl) (by rfl) ?ya2 hS ?ta2
    case ya2 =>
      intro w' hSw
      go_simp
      (try rw [if_pos (by omega)])
      (try with_reducible rfl)
    simp only [Act.put, List.setIfInBounds_toArray, List.set_cons_zero, List.set_cons_succ]
    refine take_at 3 (some 13) (v := ?va3) rfl rfl (by kernel_rfl) (by kernel_rfl) (by kernel_rfl) (by rfl) ?ya3 hS ?ta3
    case ya3 =>
      intro w' hSw
      go_simp
      (try rw [if_pos (by omega)])
      (try with_reducible rfl)
    simp only [Act.put, List.setIfInBounds_toArray, List.set_cons_zero, List.set_cons_succ]
    refine take_at 4 (some 14) (v := ?va4) rfl rfl (by kernel_rfl) (by kernel_rfl) (by kernel_rfl) (by rfl) ?ya4 hS ?ta4
    case ya4 =>
      intro w' hSw
      go_simp
      (try rw [if_pos (by omega)])
      (try with_reducible rfl)
    simp only [Act.put, List.setIfInBounds_toArray, List.set_cons_zero, List.set_cons_succ]
    refine take_at 5 (some 15) (v := ?va5) rfl rfl (by kernel_rfl) (by kernel_rfl) (by kernel_rfl) (by rfl) ?ya5 hS ?ta5
    case ya5 =>
      intro w' hSw
      go_simp
      (try rw [if_pos (by omega)])
      (try with_reducible rfl)
    simp only [Act.put, List.setIfInBounds_toArray, List.set_cons_zero, List.set_cons_succ]
    refine take_at 6 (some 16) (v := ?va6) rfl rfl (by kernel_rfl) (by kernel_rfl) (by kernel_rfl) (by rfl) ?ya6 hS ?ta6
    case ya6 =>
      intro w' hSw
      go_simp
      (try rw [if_pos (by omega)])
      (try with_reducible rfl)
    simp only [Act.put, List.setIfInBounds_toArray, List.set_cons_zero, List.set_cons_succ]
    refine take_at 7 (some 17) (v := ?va7) rfl rfl (by kernel_rfl) (by kernel_rfl) (by kernel_rfl) (by rfl) ?ya7 hS ?ta7
    case ya7 =>
      intro w' hSw
      go_simp
      (try rw [if_pos (by omega)])
      (try with_reducible rfl)
    simp only [Act.put, List.setIfInBounds_toArray, List.set_cons_zero, List.set_cons_succ]
    generalize (if cap = J then some (⟨bk, off, none⟩ : Addr) else some ⟨bk, off + J, none⟩) = aq at HZ HSM ⊢
    refine take_at 8 (some 18) (v := ?va8) rfl rfl (by kernel_rfl) (by kernel_rfl) (by kernel_rfl) (by rfl) ?ya8 hS ?ta8
    case ya8 =>
      intro w' hSw
      go_simp
      (try rw [if_pos (by omega)])
      (try with_reducible rfl)
    simp only [Act.put, List.setIfInBounds_toArray, List.set_cons_zero, List.set_cons_succ]
    refine next_at 9 rfl (by kernel_rfl) (by rfl) (fun K hK => ?_)
    go_simp
    refine (HSM.out _ hS).mono ?_
    rintro e w1 ⟨v1, rfl, ho1, hg1⟩
    replace hS := Gr.step hS hg1
    have HQ := Lib.hid (weq_any w1 (HR.out.gr hS) ho1.rb)
    obtain ⟨a1, c1, rfl, -, -⟩ := ho1.rb.form
    generalize (msg (sU src dst) (l.take i) (l.drop J)).length = M at HQ ⊢
    refine hK _ _ hS ?_
    clear hK K ho1 hg1 HSM
    refine next_at 10 rfl (by kernel_rfl) (by rfl) (fun K hK => ?_)
    go_simp
    refine HQ.out.mono ?_
    rintro e w2 ⟨rfl, rfl⟩
    refine hK _ _ hS ?_
    clear hK K HQ
    rw [HJ.out]
    by_cases hm : l = msg (sU src dst) (l.take i) (l.drop (i + 2))
    · have H := Lib.hid (HV2.out HF.out hm)
      rw [decide_eq_true hm]
      clear hm HV1 HV2 HV3
      refine next_at 11 rfl (by kernel_rfl) (by rfl) (fun K hK => ?_)
      go_simp
      refine hK _ _ hS ?_
      clear hK K
      refine wpAnyH_done (by kernel_rfl) ?_ _
      refine qz_normal ?_
      go_wp2_with fail
      go_ret
      exact ⟨ret_int (by rw [H.out]; rfl), hS⟩
    · have H := Lib.hid (HV3.out HF.out hm)
      rw [decide_eq_false hm]
      clear hm HV1 HV2 HV3
      refine next_at 11 rfl (by kernel_rfl) (by rfl) (fun K hK => ?_)
      go_simp
      refine hK _ _ hS ?_
      clear hK K
      refine wpAnyH_done (by kernel_rfl) ?_ _
      refine qz_normal ?_
      go_wp2_with fail
      go_ret
      exact ⟨ret_int (by rw [H.out]; rfl), hS⟩
end Go.Proofs.YtkpejaiigopmgaaGreatDoor
