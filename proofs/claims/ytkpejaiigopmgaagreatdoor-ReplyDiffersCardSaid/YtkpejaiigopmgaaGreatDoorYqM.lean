/- The probe of a quote. -/
import Derived.Test.YtkpejaiigopmgaaGreatDoorGK
import Derived.Test.YtkpejaiigopmgaaGreatDoorGW
import Derived.WalkKit
import Derived.WalkSpells
import Derived.WalkLawsBesides
import Derived.WalkSmall
import Derived.Handy
import Derived.BigQuiet
import Derived.Deep.QuietTactic
import Derived.Deep.RegionHeld3
import Derived.Deep.DeepFit
import Derived.Below
import Derived.Lib.Hide
import Derived.Lib.QuietBelow
namespace Go.Proofs.YtkpejaiigopmgaaGreatDoor
open Go Go.RowKit Go.Sort
set_option maxRecDepth 100000
set_option linter.unusedVariables false
set_option linter.unusedSimpArgs false
theorem qget_any {p : Nat → Prop} {v : Value} {l : List Nat} (i : Nat) (w : World) (h : Rb p w v l) (hi : i + 2 ≤ l.length) :
    Calls Tryz.prog 66 #[v, .int .i64 i] w fun e w' => e = .returned (.int .i64 (gN l i 2 : Nat)) ∧ w = w' := by
  have HG := Lib.hid (get_yes i 2 w h (by omega) (by omega) hi)
  obtain ⟨a, c, rfl, -, -⟩ := h.form
  unfold gN
  generalize bnum (List.take 2 (List.drop i l)) = n at *
  generalize l.length = N at *
  clear h hi
  go_enter Tryz.func66, Tryz.ntmps66
  go_wp2_with fail
  refine HG.out.mono ?_
  rintro e w1 ⟨rfl, rfl⟩
  go_wp2_with fail
  go_ret
  exact ⟨rfl, rfl⟩
set_option maxHeartbeats 1000000 in
theorem quoted_other {p : Nat → Prop} {v : Value} (P : Pr) (k : P.ok) (w : World) (hr : Rb p w v P.qt) (hp : P.proto ≠ 1) :
    Calls Tryz.prog 63 #[v] w fun e w' => e = .returned (.tuple #[P.v, .bool true]) ∧ Gr w w' := by
  have ha : P.a = 20000 + P.flow := if_neg hp
  have HK := Lib.hid (fun w' (g : Gr w w') => peek_any w' (hr.gr g) (by rw [Pr.qt_len k]; omega))
  obtain ⟨e1, e2, -⟩ := Pr.qt_pk k
  obtain ⟨p1, -⟩ := pk_ok e1
  rw [p1, e1, e2] at HK
  unfold Hd.v hdV Pr.hd at HK
  simp only [show ((0 : Nat) : Int) = 0 from rfl] at HK
  obtain ⟨qa, qb⟩ := Pr.qt_at k
  have HG := Lib.hid (fun w' (g : Gr w w') => qget_any 20 w' (hr.gr g) (by rw [Pr.qt_len k]; omega))
  have HG2 := Lib.hid (fun w' (g : Gr w w') => qget_any 22 w' (hr.gr g) (by rw [Pr.qt_len k]; omega))
  rw [qa] at HG
  rw [qb] at HG2
  have HB := Lib.hid (fun W => pbuild_ok P k W)
  have HL := Lib.hid (Pr.pk_len k).1
  have HR := Lib.hid hr
  have hfl := k.flow
  obtain ⟨av, cv, rfl, -, -⟩ := hr.form
  rw [Pr.qt_len k] at HK HG HG2 HR ⊢
  simp only [show ((20 : Nat) : Int) = 20 from rfl] at HG
  simp only [show ((22 : Nat) : Int) = 22 from rfl] at HG2
  generalize pkN P.qt = NN at *
  clear hr e1 e2 p1 qa qb k
  unfold Pr.v prV at *
  rw [ha] at HG
  obtain ⟨A, hA⟩ : ∃ A, A = 20000 + P.flow := ⟨_, rfl⟩
  rw [← hA] at HG
  obtain ⟨F, hF⟩ : ∃ F : Int, F = (P.flow : Int) := ⟨_, rfl⟩
  have eA : (A : Int) - 20000 = F := by omega
  have eW : IntKind.i64.wrap F = F := by rw [IntWalk.i64_in _ (by omega)]
  have d1 : ((P.proto : Int) == 1) = false := by rw [beq_eq_false_iff_ne]; omega
  clear ha hA hp hfl HG2
  have HF := Lib.hid hF
  clear hF
  have hR := CL.new w [.int .u32 0, .int .u32 0, .int .i64 0, .int .i64 0, .int .i64 0, .int .i64 0] 29 _ rfl
  have hG := Gr.alloc (Gr.refl w) (.cells #[.int .u32 0, .int .u32 0, .int .i64 0, .int .i64 0, .int .i64 0, .int .i64 0] 29)
  have hgz := Nat.le_refl w.heap.size
  simp only [List.toArray] at hR
  go_enter Tryz.func63, Tryz.ntmps63
  go_upto_region 1 with fail
  generalize w.alloc (.cells #[.int .u32 0, .int .u32 0, .int .i64 0, .int .i64 0, .int .i64 0, .int .i64 0] 29) = w1 at hR hG ⊢
  generalize hge : w.heap.size = g1 at hR ⊢
  rw [hge] at hgz
  replace hgz : w.heap.size ≤ g1 := by omega
  clear hge
  go_wp2_with fail
  refine (HK.out _ hG).mono ?_
  rintro e w2 ⟨rfl, hg⟩
  replace hR := hR.gr hg
  replace hG := hG.step hg
  clear hg HK
  have hC := CL.new w2 [.int .i64 0, .int .i64 P.tag, .int .i64 P.ttl, .int .i64 P.proto, .bool true, .int .u32 P.src, .int .u32 P.dst] 52 _ rfl
  have hg3 := Gr.alloc (Gr.refl w2) (.cells #[.int .i64 0, .int .i64 P.tag, .int .i64 P.ttl, .int .i64 P.proto, .bool true, .int .u32 P.src, .int .u32 P.dst] 52)
  simp only [List.toArray] at hC
  go_upto_region 4 with fail
  generalize w2.alloc (.cells #[.int .i64 0, .int .i64 P.tag, .int .i64 P.ttl, .int .i64 P.proto, .bool true, .int .u32 P.src, .int .u32 P.dst] 52) = w3 at hC hg3 ⊢
  generalize w2.heap.size = gh at hC ⊢
  replace hR := hR.gr hg3
  replace hG := hG.step hg3
  clear hg3
  replace HG := Lib.hid (fun W (g : Gr w3 W) => HG.out W (hG.step g))
  have HC := Lib.hid hC
  clear hC
  refine region_cut1 ?aF (fun g W => CL W g [.int .u32 P.src, .int .u32 P.dst, .int .i64 P.proto, .int .i64 F, .int .i64 P.tag, .int .i64 P.ttl] ∧ Gr w3 W ∧ w3.heap.size ≤ g) ?h ?k
  case h =>
    have hS : Gr w3 w3.drew := Gr.drew (Gr.refl _)
    refine region_plain (Gr w3) (by kernel_rfl) ?_
    generalize w3.drew = w5 at hS ⊢
    refine take_at 0 (some 18) (v := ?vq0) rfl rfl (by kernel_rfl) (by kernel_rfl) (by kernel_rfl) (by rfl) ?yq0 hS ?tq0
    case yq0 =>
      intro w' hSw
      obtain - := hSw
      go_simp
      (try with_reducible rfl)
    simp only [Act.put, List.setIfInBounds_toArray, List.set_cons_zero, List.set_cons_succ]
    refine take_at 1 (some 19) (v := ?vq1) rfl rfl (by kernel_rfl) (by kernel_rfl) (by kernel_rfl) (by rfl) ?yq1 hS ?tq1
    case yq1 =>
      intro w' hSw
      obtain ⟨⟨q0, q1, q2, q3, q4, q5, q6⟩, -⟩ := (HC.out.gr hSw).seven
      go_simp
      (try with_reducible rfl)
    simp only [Act.put, List.setIfInBounds_toArray, List.set_cons_zero, List.set_cons_succ]
    refine take_at 2 (some 20) (v := ?vq2) rfl rfl (by kernel_rfl) (by kernel_rfl) (by kernel_rfl) (by rfl) ?yq2 hS ?tq2
    case yq2 =>
      intro w' hSw
      obtain - := hSw
      go_simp
      (try with_reducible rfl)
    simp only [Act.put, List.setIfInBounds_toArray, List.set_cons_zero, List.set_cons_succ]
    refine take_at 3 (some 21) (v := ?vq3) rfl rfl (by kernel_rfl) (by kernel_rfl) (by kernel_rfl) (by rfl) ?yq3 hS ?tq3
    case yq3 =>
      intro w' hSw
      obtain ⟨⟨q0, q1, q2, q3, q4, q5, q6⟩, -⟩ := (HC.out.gr hSw).seven
      go_simp
      (try with_reducible rfl)
    simp only [Act.put, List.setIfInBounds_toArray, List.set_cons_zero, List.set_cons_succ]
    refine take_at 4 (some 22) (v := ?vq4) rfl rfl (by kernel_rfl) (by kernel_rfl) (by kernel_rfl) (by rfl) ?yq4 hS ?tq4
    case yq4 =>
      intro w' hSw
      obtain - := hSw
      go_simp
      (try with_reducible rfl)
    simp only [Act.put, List.setIfInBounds_toArray, List.set_cons_zero, List.set_cons_succ]
    refine take_at 5 (some 23) (v := ?vq5) rfl rfl (by kernel_rfl) (by kernel_rfl) (by kernel_rfl) (by rfl) ?yq5 hS ?tq5
    case yq5 =>
      intro w' hSw
      obtain ⟨⟨q0, q1, q2, q3, q4, q5, q6⟩, -⟩ := (HC.out.gr hSw).seven
      go_simp
      (try with_reducible rfl)
    simp only [Act.put, List.setIfInBounds_toArray, List.set_cons_zero, List.set_cons_succ]
    refine take_at 6 (some 24) (v := ?vq6) rfl rfl (by kernel_rfl) (by kernel_rfl) (by kernel_rfl) (by rfl) ?yq6 hS ?tq6
    case yq6 =>
      intro w' hSw
      obtain - := hSw
      go_simp
      (try with_reducible rfl)
    simp only [Act.put, List.setIfInBounds_toArray, List.set_cons_zero, List.set_cons_succ]
    refine take_at 9 (some 27) (v := ?vq9) rfl rfl (by kernel_rfl) (by kernel_rfl) (by kernel_rfl) (by rfl) ?yq9 hS ?tq9
    case yq9 =>
      intro w' hSw
      obtain - := hSw
      go_simp
      (try with_reducible rfl)
    simp only [Act.put, List.setIfInBounds_toArray, List.set_cons_zero, List.set_cons_succ]
    refine take_at 10 (some 28) (v := ?vq10) rfl rfl (by kernel_rfl) (by kernel_rfl) (by kernel_rfl) (by rfl) ?yq10 hS ?tq10
    case yq10 =>
      intro w' hSw
      obtain ⟨⟨q0, q1, q2, q3, q4, q5, q6⟩, -⟩ := (HC.out.gr hSw).seven
      go_simp
      (try with_reducible rfl)
    simp only [Act.put, List.setIfInBounds_toArray, List.set_cons_zero, List.set_cons_succ]
    refine take_at 11 (some 29) (v := ?vq11) rfl rfl (by kernel_rfl) (by kernel_rfl) (by kernel_rfl) (by rfl) ?yq11 hS ?tq11
    case yq11 =>
      intro w' hSw
      obtain - := hSw
      go_simp
      (try with_reducible rfl)
    simp only [Act.put, List.setIfInBounds_toArray, List.set_cons_zero, List.set_cons_succ]
    refine take_at 12 (some 30) (v := ?vq12) rfl rfl (by kernel_rfl) (by kernel_rfl) (by kernel_rfl) (by rfl) ?yq12 hS ?tq12
    case yq12 =>
      intro w' hSw
      obtain ⟨⟨q0, q1, q2, q3, q4, q5, q6⟩, -⟩ := (HC.out.gr hSw).seven
      go_simp
      (try with_reducible rfl)
    simp only [Act.put, List.setIfInBounds_toArray, List.set_cons_zero, List.set_cons_succ]
    refine next_two 7 14 rfl rfl (by kernel_rfl) (by rfl) (by rfl) (fun K hK => ?_) (fun K hK => ?_)
    · skip
      go_simp
      refine (HG.out _ hS).mono ?_
      rintro e w6 ⟨rfl, rfl⟩
      refine hK _ _ hS ?_
      clear hK K
      refine take_at 8 (some 26) (v := ?vqa8) rfl rfl (by kernel_rfl) (by kernel_rfl) (by kernel_rfl) (by rfl) ?yqa8 hS ?tqa8
      case yqa8 =>
        intro w' hSw
        obtain - := hSw
        go_simp
        (try with_reducible rfl)
      simp only [Act.put, List.setIfInBounds_toArray, List.set_cons_zero, List.set_cons_succ]
      refine take_at 13 (some 31) (v := ?vqa13) rfl rfl (by kernel_rfl) (by kernel_rfl) (by kernel_rfl) (by rfl) ?yqa13 hS ?tqa13
      case yqa13 =>
        intro w' hSw
        obtain - := hSw
        go_simp
        (try with_reducible rfl)
      simp only [Act.put, List.setIfInBounds_toArray, List.set_cons_zero, List.set_cons_succ]
      refine next_at 14 rfl (by kernel_rfl) (by rfl) (fun K hK => ?_)
      go_simp
      have hSn := hS.alloc (.cells #[.int .u32 0, .int .u32 0, .int .i64 0, .int .i64 0, .int .i64 0, .int .i64 0] 29)
      have hA := CL.new w5 [.int .u32 0, .int .u32 0, .int .i64 0, .int .i64 0, .int .i64 0, .int .i64 0] 29 _ rfl
      have hga := Gr.size hS
      simp only [List.toArray] at hA
      refine hK _ _ hSn ?_
      clear hK K hS
      have hS := hSn
      clear hSn
      generalize w5.alloc (.cells #[.int .u32 0, .int .u32 0, .int .i64 0, .int .i64 0, .int .i64 0, .int .i64 0] 29) = w7 at hS hA ⊢
      generalize w5.heap.size = ga at hA hga ⊢
      have hcF := hA.fill [.int .u32 P.src, .int .u32 P.dst, .int .i64 P.proto, .int .i64 F, .int .i64 P.tag, .int .i64 P.ttl] rfl
      have hsF := hS.fill hga [.int .u32 P.src, .int .u32 P.dst, .int .i64 P.proto, .int .i64 F, .int .i64 P.tag, .int .i64 P.ttl] 0
      simp only [fillC, Nat.reduceAdd] at hcF hsF
      obtain ⟨⟨y0, y1, y2, y3, y4, y5⟩, u0, u1, u2, u3, u4, u5⟩ := CL.six hA
      refine next_at 15 rfl (by kernel_rfl) (by rfl) (fun K hK => ?_)
      go_simp
      refine hK _ _ hsF ?_
      clear hK K y0 y1 y2 y3 y4 y5 u0 u1 u2 u3 u4 u5
      refine wpAnyH_done (by kernel_rfl) ?_ _
      refine qz_normal ⟨rfl, ga, ?_, hcF, hsF, hga⟩
      first | with_reducible rfl | exact rfl
    · skip
      go_simp
      have hSn := hS.alloc (.cells #[.int .u32 0, .int .u32 0, .int .i64 0, .int .i64 0, .int .i64 0, .int .i64 0] 29)
      have hA := CL.new w5 [.int .u32 0, .int .u32 0, .int .i64 0, .int .i64 0, .int .i64 0, .int .i64 0] 29 _ rfl
      have hga := Gr.size hS
      simp only [List.toArray] at hA
      refine hK _ _ hSn ?_
      clear hK K hS
      have hS := hSn
      clear hSn
      generalize w5.alloc (.cells #[.int .u32 0, .int .u32 0, .int .i64 0, .int .i64 0, .int .i64 0, .int .i64 0] 29) = w6 at hS hA ⊢
      generalize w5.heap.size = ga at hA hga ⊢
      refine next_at 7 rfl (by kernel_rfl) (by rfl) (fun K hK => ?_)
      go_simp
      refine (HG.out _ hS).mono ?_
      rintro e w7 ⟨rfl, rfl⟩
      refine hK _ _ hS ?_
      clear hK K
      refine take_at 8 (some 26) (v := ?vqb8) rfl rfl (by kernel_rfl) (by kernel_rfl) (by kernel_rfl) (by rfl) ?yqb8 hS ?tqb8
      case yqb8 =>
        intro w' hSw
        obtain - := hSw
        go_simp
        (try with_reducible rfl)
      simp only [Act.put, List.setIfInBounds_toArray, List.set_cons_zero, List.set_cons_succ]
      refine take_at 13 (some 31) (v := ?vqb13) rfl rfl (by kernel_rfl) (by kernel_rfl) (by kernel_rfl) (by rfl) ?yqb13 hS ?tqb13
      case yqb13 =>
        intro w' hSw
        obtain - := hSw
        go_simp
        (try with_reducible rfl)
      simp only [Act.put, List.setIfInBounds_toArray, List.set_cons_zero, List.set_cons_succ]
      have hcF := hA.fill [.int .u32 P.src, .int .u32 P.dst, .int .i64 P.proto, .int .i64 F, .int .i64 P.tag, .int .i64 P.ttl] rfl
      have hsF := hS.fill hga [.int .u32 P.src, .int .u32 P.dst, .int .i64 P.proto, .int .i64 F, .int .i64 P.tag, .int .i64 P.ttl] 0
      simp only [fillC, Nat.reduceAdd] at hcF hsF
      obtain ⟨⟨y0, y1, y2, y3, y4, y5⟩, u0, u1, u2, u3, u4, u5⟩ := CL.six hA
      refine next_at 15 rfl (by kernel_rfl) (by rfl) (fun K hK => ?_)
      go_simp
      refine hK _ _ hsF ?_
      clear hK K y0 y1 y2 y3 y4 y5 u0 u1 u2 u3 u4 u5
      refine wpAnyH_done (by kernel_rfl) ?_ _
      refine qz_normal ⟨rfl, ga, ?_, hcF, hsF, hga⟩
      first | with_reducible rfl | exact rfl
  case k =>
    intro ga W5 ⟨hA, hg, hga⟩
    have hne : ga ≠ g1 := by have := hR.lt; omega
    have hgw : w.heap.size ≤ ga := by have := Gr.size hG; omega
    replace hR := hR.gr hg
    replace hG := hG.step hg
    clear hg hga HC HG
    obtain ⟨⟨y0, y1, y2, y3, y4, y5⟩, u0, u1, u2, u3, u4, u5⟩ := CL.six hA
    have hF := HF.out
    subst hF
    go_wp2_with fail
    clear y0 y1 y2 y3 y4 y5 u0 u1 u2 u3 u4 u5
    refine (HB.out _).mono ?_
    rintro e w6 ⟨v6, rfl, ho, hg⟩
    replace hR := hR.gr hg
    replace hG := hG.step hg
    replace hA := hA.gr hg
    have HV := Lib.hid (HR.out.gr hG)
    have hv := ho.rb.any
    obtain ⟨a6, c6, rfl, hc6, -⟩ := hv.form
    have h6 := HL.out
    have HE := Lib.hid (weq_any w6 (hv.take (k := 28) (by omega)) HV.out)
    rw [show decide (P.pk.take 28 = P.qt) = true from decide_eq_true rfl] at HE
    generalize P.pk.length = K6 at *
    clear hg ho hv HB
    go_wp2_with fail
    refine HE.out.mono ?_
    rintro e w7 ⟨rfl, rfl⟩
    obtain ⟨⟨y0, y1, y2, y3, y4, y5⟩, -⟩ := CL.six hA
    obtain ⟨⟨r0, r1, r2, r3, r4, r5⟩, s0, s1, s2, s3, s4, s5⟩ := CL.six hR
    go_wp2_with fail
    clear r0 r1 r2 r3 r4 r5 s0 s1 s2 s3 s4 s5 y0 y1 y2 y3 y4 y5
    have hcF := hR.fill [.int .u32 P.src, .int .u32 P.dst, .int .i64 P.proto, .int .i64 P.flow, .int .i64 P.tag, .int .i64 P.ttl] rfl
    have hgF := hG.fill hgz [.int .u32 P.src, .int .u32 P.dst, .int .i64 P.proto, .int .i64 P.flow, .int .i64 P.tag, .int .i64 P.ttl] 0
    simp only [fillC, Nat.reduceAdd] at hcF hgF
    generalize (((((w6.setCell ⟨g1, 0, none⟩ (.int .u32 P.src)).setCell ⟨g1, 1, none⟩ (.int .u32 P.dst)).setCell ⟨g1, 2, none⟩ (.int .i64 P.proto)).setCell ⟨g1, 3, none⟩ (.int .i64 P.flow)).setCell ⟨g1, 4, none⟩ (.int .i64 P.tag)).setCell ⟨g1, 5, none⟩ (.int .i64 P.ttl) = wF at hcF hgF ⊢
    obtain ⟨⟨c0, c1, c2, c3, c4, c5⟩, -⟩ := CL.six hcF
    exact bodyPost_ret (v := .tuple #[.agg #[.int .u32 P.src, .int .u32 P.dst, .int .i64 P.proto, .int .i64 P.flow, .int .i64 P.tag, .int .i64 P.ttl], .bool true]) (by simp [results, Tryz.results63, go_sem, c0, c1, c2, c3, c4, c5]) rfl ⟨rfl, hgF⟩
set_option maxHeartbeats 1000000 in
theorem quoted_icmp {p : Nat → Prop} {v : Value} (P : Pr) (k : P.ok) (w : World) (hr : Rb p w v P.qt) (hp : P.proto = 1) :
    Calls Tryz.prog 63 #[v] w fun e w' => e = .returned (.tuple #[P.v, .bool true]) ∧ Gr w w' := by
  have ha : P.a = 2048 := if_pos hp
  have hb : P.b = 16384 + P.flow := if_pos hp
  have HK := Lib.hid (fun w' (g : Gr w w') => peek_any w' (hr.gr g) (by rw [Pr.qt_len k]; omega))
  obtain ⟨e1, e2, -⟩ := Pr.qt_pk k
  obtain ⟨p1, -⟩ := pk_ok e1
  rw [p1, e1, e2] at HK
  unfold Hd.v hdV Pr.hd at HK
  simp only [show ((0 : Nat) : Int) = 0 from rfl] at HK
  obtain ⟨qa, qb⟩ := Pr.qt_at k
  have HG := Lib.hid (fun w' (g : Gr w w') => qget_any 20 w' (hr.gr g) (by rw [Pr.qt_len k]; omega))
  have HG2 := Lib.hid (fun w' (g : Gr w w') => qget_any 22 w' (hr.gr g) (by rw [Pr.qt_len k]; omega))
  rw [qa] at HG
  rw [qb] at HG2
  have HB := Lib.hid (fun W => pbuild_ok P k W)
  have HL := Lib.hid (Pr.pk_len k).1
  have HR := Lib.hid hr
  have hfl := k.flow
  obtain ⟨av, cv, rfl, -, -⟩ := hr.form
  rw [Pr.qt_len k] at HK HG HG2 HR ⊢
  simp only [show ((20 : Nat) : Int) = 20 from rfl] at HG
  simp only [show ((22 : Nat) : Int) = 22 from rfl] at HG2
  generalize pkN P.qt = NN at *
  clear hr e1 e2 p1 qa qb k
  unfold Pr.v prV at *
  rw [ha] at HG
  rw [hb] at HG2
  obtain ⟨A, hA⟩ : ∃ A, A = 2048 := ⟨_, rfl⟩
  rw [← hA] at HG
  obtain ⟨B, hB⟩ : ∃ B, B = 16384 + P.flow := ⟨_, rfl⟩
  rw [← hB] at HG2
  obtain ⟨F, hF⟩ : ∃ F : Int, F = -17952 := ⟨_, rfl⟩
  have eA : (A : Int) - 20000 = F := by omega
  have eW : IntKind.i64.wrap F = F := by rw [IntWalk.i64_in _ (by omega)]
  have eB : (B : Int) - 16384 = (P.flow : Int) := by omega
  have eV : IntKind.i64.wrap (P.flow : Int) = (P.flow : Int) := by rw [IntWalk.i64_in _ (by omega)]
  have d1 : ((P.proto : Int) == 1) = true := by rw [hp]; rfl
  clear ha hA hp hfl hb hB hF
  have hR := CL.new w [.int .u32 0, .int .u32 0, .int .i64 0, .int .i64 0, .int .i64 0, .int .i64 0] 29 _ rfl
  have hG := Gr.alloc (Gr.refl w) (.cells #[.int .u32 0, .int .u32 0, .int .i64 0, .int .i64 0, .int .i64 0, .int .i64 0] 29)
  have hgz := Nat.le_refl w.heap.size
  simp only [List.toArray] at hR
  go_enter Tryz.func63, Tryz.ntmps63
  go_upto_region 1 with fail
  generalize w.alloc (.cells #[.int .u32 0, .int .u32 0, .int .i64 0, .int .i64 0, .int .i64 0, .int .i64 0] 29) = w1 at hR hG ⊢
  generalize hge : w.heap.size = g1 at hR ⊢
  rw [hge] at hgz
  replace hgz : w.heap.size ≤ g1 := by omega
  clear hge
  go_wp2_with fail
  refine (HK.out _ hG).mono ?_
  rintro e w2 ⟨rfl, hg⟩
  replace hR := hR.gr hg
  replace hG := hG.step hg
  clear hg HK
  have hC := CL.new w2 [.int .i64 0, .int .i64 P.tag, .int .i64 P.ttl, .int .i64 P.proto, .bool true, .int .u32 P.src, .int .u32 P.dst] 52 _ rfl
  have hg3 := Gr.alloc (Gr.refl w2) (.cells #[.int .i64 0, .int .i64 P.tag, .int .i64 P.ttl, .int .i64 P.proto, .bool true, .int .u32 P.src, .int .u32 P.dst] 52)
  simp only [List.toArray] at hC
  go_upto_region 4 with fail
  generalize w2.alloc (.cells #[.int .i64 0, .int .i64 P.tag, .int .i64 P.ttl, .int .i64 P.proto, .bool true, .int .u32 P.src, .int .u32 P.dst] 52) = w3 at hC hg3 ⊢
  generalize w2.heap.size = gh at hC ⊢
  replace hR := hR.gr hg3
  replace hG := hG.step hg3
  clear hg3
  replace HG := Lib.hid (fun W (g : Gr w3 W) => HG.out W (hG.step g))
  have HC := Lib.hid hC
  clear hC
  refine region_cut1 ?aF (fun g W => CL W g [.int .u32 P.src, .int .u32 P.dst, .int .i64 P.proto, .int .i64 F, .int .i64 P.tag, .int .i64 P.ttl] ∧ Gr w3 W ∧ w3.heap.size ≤ g) ?h ?k
  case h =>
    have hS : Gr w3 w3.drew := Gr.drew (Gr.refl _)
    refine region_plain (Gr w3) (by kernel_rfl) ?_
    generalize w3.drew = w5 at hS ⊢
    refine take_at 0 (some 18) (v := ?vq0) rfl rfl (by kernel_rfl) (by kernel_rfl) (by kernel_rfl) (by rfl) ?yq0 hS ?tq0
    case yq0 =>
      intro w' hSw
      obtain - := hSw
      go_simp
      (try with_reducible rfl)
    simp only [Act.put, List.setIfInBounds_toArray, List.set_cons_zero, List.set_cons_succ]
    refine take_at 1 (some 19) (v := ?vq1) rfl rfl (by kernel_rfl) (by kernel_rfl) (by kernel_rfl) (by rfl) ?yq1 hS ?tq1
    case yq1 =>
      intro w' hSw
      obtain ⟨⟨q0, q1, q2, q3, q4, q5, q6⟩, -⟩ := (HC.out.gr hSw).seven
      go_simp
      (try with_reducible rfl)
    simp only [Act.put, List.setIfInBounds_toArray, List.set_cons_zero, List.set_cons_succ]
    refine take_at 2 (some 20) (v := ?vq2) rfl rfl (by kernel_rfl) (by kernel_rfl) (by kernel_rfl) (by rfl) ?yq2 hS ?tq2
    case yq2 =>
      intro w' hSw
      obtain - := hSw
      go_simp
      (try with_reducible rfl)
    simp only [Act.put, List.setIfInBounds_toArray, List.set_cons_zero, List.set_cons_succ]
    refine take_at 3 (some 21) (v := ?vq3) rfl rfl (by kernel_rfl) (by kernel_rfl) (by kernel_rfl) (by rfl) ?yq3 hS ?tq3
    case yq3 =>
      intro w' hSw
      obtain ⟨⟨q0, q1, q2, q3, q4, q5, q6⟩, -⟩ := (HC.out.gr hSw).seven
      go_simp
      (try with_reducible rfl)
    simp only [Act.put, List.setIfInBounds_toArray, List.set_cons_zero, List.set_cons_succ]
    refine take_at 4 (some 22) (v := ?vq4) rfl rfl (by kernel_rfl) (by kernel_rfl) (by kernel_rfl) (by rfl) ?yq4 hS ?tq4
    case yq4 =>
      intro w' hSw
      obtain - := hSw
      go_simp
      (try with_reducible rfl)
    simp only [Act.put, List.setIfInBounds_toArray, List.set_cons_zero, List.set_cons_succ]
    refine take_at 5 (some 23) (v := ?vq5) rfl rfl (by kernel_rfl) (by kernel_rfl) (by kernel_rfl) (by rfl) ?yq5 hS ?tq5
    case yq5 =>
      intro w' hSw
      obtain ⟨⟨q0, q1, q2, q3, q4, q5, q6⟩, -⟩ := (HC.out.gr hSw).seven
      go_simp
      (try with_reducible rfl)
    simp only [Act.put, List.setIfInBounds_toArray, List.set_cons_zero, List.set_cons_succ]
    refine take_at 6 (some 24) (v := ?vq6) rfl rfl (by kernel_rfl) (by kernel_rfl) (by kernel_rfl) (by rfl) ?yq6 hS ?tq6
    case yq6 =>
      intro w' hSw
      obtain - := hSw
      go_simp
      (try with_reducible rfl)
    simp only [Act.put, List.setIfInBounds_toArray, List.set_cons_zero, List.set_cons_succ]
    refine take_at 9 (some 27) (v := ?vq9) rfl rfl (by kernel_rfl) (by kernel_rfl) (by kernel_rfl) (by rfl) ?yq9 hS ?tq9
    case yq9 =>
      intro w' hSw
      obtain - := hSw
      go_simp
      (try with_reducible rfl)
    simp only [Act.put, List.setIfInBounds_toArray, List.set_cons_zero, List.set_cons_succ]
    refine take_at 10 (some 28) (v := ?vq10) rfl rfl (by kernel_rfl) (by kernel_rfl) (by kernel_rfl) (by rfl) ?yq10 hS ?tq10
    case yq10 =>
      intro w' hSw
      obtain ⟨⟨q0, q1, q2, q3, q4, q5, q6⟩, -⟩ := (HC.out.gr hSw).seven
      go_simp
      (try with_reducible rfl)
    simp only [Act.put, List.setIfInBounds_toArray, List.set_cons_zero, List.set_cons_succ]
    refine take_at 11 (some 29) (v := ?vq11) rfl rfl (by kernel_rfl) (by kernel_rfl) (by kernel_rfl) (by rfl) ?yq11 hS ?tq11
    case yq11 =>
      intro w' hSw
      obtain - := hSw
      go_simp
      (try with_reducible rfl)
    simp only [Act.put, List.setIfInBounds_toArray, List.set_cons_zero, List.set_cons_succ]
    refine take_at 12 (some 30) (v := ?vq12) rfl rfl (by kernel_rfl) (by kernel_rfl) (by kernel_rfl) (by rfl) ?yq12 hS ?tq12
    case yq12 =>
      intro w' hSw
      obtain ⟨⟨q0, q1, q2, q3, q4, q5, q6⟩, -⟩ := (HC.out.gr hSw).seven
      go_simp
      (try with_reducible rfl)
    simp only [Act.put, List.setIfInBounds_toArray, List.set_cons_zero, List.set_cons_succ]
    refine next_two 7 14 rfl rfl (by kernel_rfl) (by rfl) (by rfl) (fun K hK => ?_) (fun K hK => ?_)
    · skip
      go_simp
      refine (HG.out _ hS).mono ?_
      rintro e w6 ⟨rfl, rfl⟩
      refine hK _ _ hS ?_
      clear hK K
      refine take_at 8 (some 26) (v := ?vqa8) rfl rfl (by kernel_rfl) (by kernel_rfl) (by kernel_rfl) (by rfl) ?yqa8 hS ?tqa8
      case yqa8 =>
        intro w' hSw
        obtain - := hSw
        go_simp
        (try with_reducible rfl)
      simp only [Act.put, List.setIfInBounds_toArray, List.set_cons_zero, List.set_cons_succ]
      refine take_at 13 (some 31) (v := ?vqa13) rfl rfl (by kernel_rfl) (by kernel_rfl) (by kernel_rfl) (by rfl) ?yqa13 hS ?tqa13
      case yqa13 =>
        intro w' hSw
        obtain - := hSw
        go_simp
        (try with_reducible rfl)
      simp only [Act.put, List.setIfInBounds_toArray, List.set_cons_zero, List.set_cons_succ]
      refine next_at 14 rfl (by kernel_rfl) (by rfl) (fun K hK => ?_)
      go_simp
      have hSn := hS.alloc (.cells #[.int .u32 0, .int .u32 0, .int .i64 0, .int .i64 0, .int .i64 0, .int .i64 0] 29)
      have hA := CL.new w5 [.int .u32 0, .int .u32 0, .int .i64 0, .int .i64 0, .int .i64 0, .int .i64 0] 29 _ rfl
      have hga := Gr.size hS
      simp only [List.toArray] at hA
      refine hK _ _ hSn ?_
      clear hK K hS
      have hS := hSn
      clear hSn
      generalize w5.alloc (.cells #[.int .u32 0, .int .u32 0, .int .i64 0, .int .i64 0, .int .i64 0, .int .i64 0] 29) = w7 at hS hA ⊢
      generalize w5.heap.size = ga at hA hga ⊢
      have hcF := hA.fill [.int .u32 P.src, .int .u32 P.dst, .int .i64 P.proto, .int .i64 F, .int .i64 P.tag, .int .i64 P.ttl] rfl
      have hsF := hS.fill hga [.int .u32 P.src, .int .u32 P.dst, .int .i64 P.proto, .int .i64 F, .int .i64 P.tag, .int .i64 P.ttl] 0
      simp only [fillC, Nat.reduceAdd] at hcF hsF
      obtain ⟨⟨y0, y1, y2, y3, y4, y5⟩, u0, u1, u2, u3, u4, u5⟩ := CL.six hA
      refine next_at 15 rfl (by kernel_rfl) (by rfl) (fun K hK => ?_)
      go_simp
      refine hK _ _ hsF ?_
      clear hK K y0 y1 y2 y3 y4 y5 u0 u1 u2 u3 u4 u5
      refine wpAnyH_done (by kernel_rfl) ?_ _
      refine qz_normal ⟨rfl, ga, ?_, hcF, hsF, hga⟩
      first | with_reducible rfl | exact rfl
    · skip
      go_simp
      have hSn := hS.alloc (.cells #[.int .u32 0, .int .u32 0, .int .i64 0, .int .i64 0, .int .i64 0, .int .i64 0] 29)
      have hA := CL.new w5 [.int .u32 0, .int .u32 0, .int .i64 0, .int .i64 0, .int .i64 0, .int .i64 0] 29 _ rfl
      have hga := Gr.size hS
      simp only [List.toArray] at hA
      refine hK _ _ hSn ?_
      clear hK K hS
      have hS := hSn
      clear hSn
      generalize w5.alloc (.cells #[.int .u32 0, .int .u32 0, .int .i64 0, .int .i64 0, .int .i64 0, .int .i64 0] 29) = w6 at hS hA ⊢
      generalize w5.heap.size = ga at hA hga ⊢
      refine next_at 7 rfl (by kernel_rfl) (by rfl) (fun K hK => ?_)
      go_simp
      refine (HG.out _ hS).mono ?_
      rintro e w7 ⟨rfl, rfl⟩
      refine hK _ _ hS ?_
      clear hK K
      refine take_at 8 (some 26) (v := ?vqb8) rfl rfl (by kernel_rfl) (by kernel_rfl) (by kernel_rfl) (by rfl) ?yqb8 hS ?tqb8
      case yqb8 =>
        intro w' hSw
        obtain - := hSw
        go_simp
        (try with_reducible rfl)
      simp only [Act.put, List.setIfInBounds_toArray, List.set_cons_zero, List.set_cons_succ]
      refine take_at 13 (some 31) (v := ?vqb13) rfl rfl (by kernel_rfl) (by kernel_rfl) (by kernel_rfl) (by rfl) ?yqb13 hS ?tqb13
      case yqb13 =>
        intro w' hSw
        obtain - := hSw
        go_simp
        (try with_reducible rfl)
      simp only [Act.put, List.setIfInBounds_toArray, List.set_cons_zero, List.set_cons_succ]
      have hcF := hA.fill [.int .u32 P.src, .int .u32 P.dst, .int .i64 P.proto, .int .i64 F, .int .i64 P.tag, .int .i64 P.ttl] rfl
      have hsF := hS.fill hga [.int .u32 P.src, .int .u32 P.dst, .int .i64 P.proto, .int .i64 F, .int .i64 P.tag, .int .i64 P.ttl] 0
      simp only [fillC, Nat.reduceAdd] at hcF hsF
      obtain ⟨⟨y0, y1, y2, y3, y4, y5⟩, u0, u1, u2, u3, u4, u5⟩ := CL.six hA
      refine next_at 15 rfl (by kernel_rfl) (by rfl) (fun K hK => ?_)
      go_simp
      refine hK _ _ hsF ?_
      clear hK K y0 y1 y2 y3 y4 y5 u0 u1 u2 u3 u4 u5
      refine wpAnyH_done (by kernel_rfl) ?_ _
      refine qz_normal ⟨rfl, ga, ?_, hcF, hsF, hga⟩
      first | with_reducible rfl | exact rfl
  case k =>
    intro ga W5 ⟨hA, hg, hga⟩
    have hne : ga ≠ g1 := by have := hR.lt; omega
    have hgw : w.heap.size ≤ ga := by have := Gr.size hG; omega
    replace hR := hR.gr hg
    replace hG := hG.step hg
    clear hg hga HC HG
    obtain ⟨⟨y0, y1, y2, y3, y4, y5⟩, u0, u1, u2, u3, u4, u5⟩ := CL.six hA
    go_wp2_with fail
    refine (HG2.out _ hG).mono ?_
    rintro e w6 ⟨rfl, rfl⟩
    go_upto_region 7 with fail
    clear y0 y1 y2 y3 y4 y5 u0 u1 u2 u3 u4 u5
    replace hA := hA.set 3 (.int .i64 P.flow) (by simp)
    replace hR := hR.other (s := ga) (o := 3) (.int .i64 P.flow) (fun h => hne h.symm)
    replace hG := hG.setCell (p := ⟨ga, 3, none⟩) hgw (.int .i64 P.flow)
    simp only [List.set_cons_succ, List.set_cons_zero] at hA
    generalize W5.setCell ⟨ga, 3, none⟩ (.int .i64 P.flow) = W6 at hA hR hG ⊢
    obtain ⟨⟨y0, y1, y2, y3, y4, y5⟩, -⟩ := CL.six hA
    go_wp2_with fail
    clear y0 y1 y2 y3 y4 y5
    refine (HB.out _).mono ?_
    rintro e w6 ⟨v6, rfl, ho, hg⟩
    replace hR := hR.gr hg
    replace hG := hG.step hg
    replace hA := hA.gr hg
    have HV := Lib.hid (HR.out.gr hG)
    have hv := ho.rb.any
    obtain ⟨a6, c6, rfl, hc6, -⟩ := hv.form
    have h6 := HL.out
    have HE := Lib.hid (weq_any w6 (hv.take (k := 28) (by omega)) HV.out)
    rw [show decide (P.pk.take 28 = P.qt) = true from decide_eq_true rfl] at HE
    generalize P.pk.length = K6 at *
    clear hg ho hv HB
    go_wp2_with fail
    refine HE.out.mono ?_
    rintro e w7 ⟨rfl, rfl⟩
    obtain ⟨⟨y0, y1, y2, y3, y4, y5⟩, -⟩ := CL.six hA
    obtain ⟨⟨r0, r1, r2, r3, r4, r5⟩, s0, s1, s2, s3, s4, s5⟩ := CL.six hR
    go_wp2_with fail
    clear r0 r1 r2 r3 r4 r5 s0 s1 s2 s3 s4 s5 y0 y1 y2 y3 y4 y5
    have hcF := hR.fill [.int .u32 P.src, .int .u32 P.dst, .int .i64 P.proto, .int .i64 P.flow, .int .i64 P.tag, .int .i64 P.ttl] rfl
    have hgF := hG.fill hgz [.int .u32 P.src, .int .u32 P.dst, .int .i64 P.proto, .int .i64 P.flow, .int .i64 P.tag, .int .i64 P.ttl] 0
    simp only [fillC, Nat.reduceAdd] at hcF hgF
    generalize (((((w6.setCell ⟨g1, 0, none⟩ (.int .u32 P.src)).setCell ⟨g1, 1, none⟩ (.int .u32 P.dst)).setCell ⟨g1, 2, none⟩ (.int .i64 P.proto)).setCell ⟨g1, 3, none⟩ (.int .i64 P.flow)).setCell ⟨g1, 4, none⟩ (.int .i64 P.tag)).setCell ⟨g1, 5, none⟩ (.int .i64 P.ttl) = wF at hcF hgF ⊢
    obtain ⟨⟨c0, c1, c2, c3, c4, c5⟩, -⟩ := CL.six hcF
    exact bodyPost_ret (v := .tuple #[.agg #[.int .u32 P.src, .int .u32 P.dst, .int .i64 P.proto, .int .i64 P.flow, .int .i64 P.tag, .int .i64 P.ttl], .bool true]) (by simp [results, Tryz.results63, go_sem, c0, c1, c2, c3, c4, c5]) rfl ⟨rfl, hgF⟩
end Go.Proofs.YtkpejaiigopmgaaGreatDoor
