/- The walk of the statement on different probes. -/
import Derived.Test.YtlkhdbgknkjioaaUw
import Derived.WalkKit
import Derived.WalkSpells
import Derived.WalkLawsBesides
import Derived.WalkSmall
import Derived.Handy
import Derived.BigQuiet
import Derived.Deep.QuietTactic
import Derived.Deep.RegionHeld3
import Derived.Deep.DeepFit
import Derived.Below
import Derived.Lib.Hide
import Derived.Lib.QuietBelow
namespace Go.Proofs.Ytlkhdbgknkjioaa
open Go Go.RowKit Go.Sort
set_option maxRecDepth 100000
set_option linter.unusedVariables false
set_option linter.unusedSimpArgs false
theorem Pr.ext' {P Q : Pr} (h1 : (P.src : Int) = Q.src) (h2 : (P.dst : Int) = Q.dst) (h3 : (P.proto : Int) = Q.proto) (h4 : (P.flow : Int) = Q.flow) (h5 : (P.tag : Int) = Q.tag) (h6 : (P.ttl : Int) = Q.ttl) : P = Q := by
  obtain ⟨a, b, c, d, e, f⟩ := P
  obtain ⟨a', b', c', d', e', f'⟩ := Q
  simp only at h1 h2 h3 h4 h5 h6
  congr <;> omega
theorem ite6 {α : Type} (P Q : Pr) (c : Bool) (hc : c = true ↔ P = Q) (f : Bool → α) :
    (if (P.src : Int) = Q.src then if (P.dst : Int) = Q.dst then if (P.proto : Int) = Q.proto then if (P.flow : Int) = Q.flow then if (P.tag : Int) = Q.tag then if (P.ttl : Int) = Q.ttl then f true else f false else f false else f false else f false else f false else f false) = f c := by
  by_cases h : P = Q
  · rw [hc.2 h]; subst h; simp
  · have : c = false := by cases c with | false => rfl | true => exact absurd (hc.1 rfl) h
    rw [this]
    repeat' split
    all_goals first | rfl | exact absurd (Pr.ext' ‹_› ‹_› ‹_› ‹_› ‹_› ‹_›) h
theorem differ_walk (sv : Value) (len : Nat) (w : World) (hl : len ≤ 9223372036854775807) (hb : BytesV w.heap.size w sv len) :
    Calls Try.prog 9 #[sv] w fun e w' => e = .returned (.bool true) ∧ Gr w w' := by
  have HB := Lib.hid hb
  clear hb
  go_enter Try.func9, Try.ntmps9
  go_wp2_with fail
  refine (pawake_any _).mono ?_
  rintro e w1 ⟨rfl, hg⟩
  go_wp2_with fail
  refine (new_any sv len 160 _ (by omega) hl (HB.out.gr hg)).mono ?_
  rintro e w2 ⟨b, rfl, hbe, hc, hg2⟩
  have hbw : w.heap.size ≤ b := by have := Gr.size hg; omega
  have hG := hg.step hg2
  clear hbe hg2 hg HB hl
  go_wp2_with fail
  refine (right_any b _ hc).mono ?_
  rintro e w3 ⟨P, rfl, hP, hc', hx⟩
  replace hG := Ex.gr hG hbw hx
  replace hc := hc'
  clear hc' hx
  unfold Pr.v prV
  go_wp2_with fail
  refine (right_any b _ hc).mono ?_
  rintro e w4 ⟨Q, rfl, hQ, hc', hx⟩
  replace hG := Ex.gr hG hbw hx
  replace hc := hc'
  clear hc' hx
  unfold Pr.v prV
  have HP := Lib.hid hP
  have HQ := Lib.hid hQ
  clear hP hQ
  have hC := (CL.new w4 P.vs 65 _ rfl).gr (Gr.alloc (Gr.refl _) (.cells Q.vs.toArray 65))
  have hQ := CL.new (w4.alloc (.cells P.vs.toArray 65)) Q.vs 65 (w4.heap.size + 1) (by simp)
  have hgn := ((Gr.refl w4).alloc (.cells P.vs.toArray 65)).alloc (.cells Q.vs.toArray 65)
  have hbl : b < w4.heap.size := hc.lt
  have hle : w.heap.size ≤ w4.heap.size := Gr.size hG
  unfold Pr.vs at hC hQ hgn
  simp only [List.toArray] at hC hQ hgn
  have hne : w4.heap.size < w4.heap.size + 1 := by omega
  go_upto_region 5 with fail
  generalize (w4.alloc (.cells #[.int .u32 P.src, .int .u32 P.dst, .int .i64 P.proto, .int .i64 P.flow, .int .i64 P.tag, .int .i64 P.ttl] 65)).alloc (.cells #[.int .u32 Q.src, .int .u32 Q.dst, .int .i64 Q.proto, .int .i64 Q.flow, .int .i64 Q.tag, .int .i64 Q.ttl] 65) = w5 at hC hQ hgn ⊢
  generalize w4.heap.size + 1 = gq at hQ hne ⊢
  generalize w4.heap.size = gp at hC hbl hle hne ⊢
  replace hG := hG.step hgn
  replace hc := hc.gr hgn
  clear hgn
  go_wp2_with fail
  refine (next_nat b 2 _ (by omega) (by omega) hc).mono ?_
  rintro e wn ⟨x, rfl, hx2, hc', he⟩
  replace hC := hC.ex he (by omega)
  replace hQ := hQ.ex he (by omega)
  replace hG := Ex.gr hG hbw he
  replace hc := hc'
  clear hc' he
  by_cases hx1 : x = 1
  · subst hx1
    obtain ⟨⟨y0, y1, y2, y3, y4, y5⟩, -⟩ := CL.six hC
    obtain ⟨⟨r0, r1, r2, r3, r4, r5⟩, s0, s1, s2, s3, s4, s5⟩ := CL.six hQ
    go_upto_region 7 with fail
    clear y0 y1 y2 y3 y4 y5 r0 r1 r2 r3 r4 r5 s0 s1 s2 s3 s4 s5
    have hQF := hQ.fill [.int .u32 P.src, .int .u32 P.dst, .int .i64 P.proto, .int .i64 P.flow, .int .i64 P.tag, .int .i64 P.ttl] rfl
    have hCF := hC.fillO (s := gq) (by omega) [.int .u32 P.src, .int .u32 P.dst, .int .i64 P.proto, .int .i64 P.flow, .int .i64 P.tag, .int .i64 P.ttl] 0
    have hGF := hG.fill (g := gq) (by omega) [.int .u32 P.src, .int .u32 P.dst, .int .i64 P.proto, .int .i64 P.flow, .int .i64 P.tag, .int .i64 P.ttl] 0
    have hcF := hc.fillN (g := gq) (by omega) [.int .u32 P.src, .int .u32 P.dst, .int .i64 P.proto, .int .i64 P.flow, .int .i64 P.tag, .int .i64 P.ttl] 0
    simp only [fillC, Nat.reduceAdd] at hQF hCF hGF hcF
    generalize (((((wn.setCell ⟨gq, 0, none⟩ (.int .u32 P.src)).setCell ⟨gq, 1, none⟩ (.int .u32 P.dst)).setCell ⟨gq, 2, none⟩ (.int .i64 P.proto)).setCell ⟨gq, 3, none⟩ (.int .i64 P.flow)).setCell ⟨gq, 4, none⟩ (.int .i64 P.tag)).setCell ⟨gq, 5, none⟩ (.int .i64 P.ttl) = wF at hQF hCF hGF hcF ⊢
    clear hQ hC hG hc HQ
    go_wp2_with fail
    refine (next_nat b 3 _ (by omega) (by omega) hcF).mono ?_
    rintro e wm ⟨t, rfl, ht3, hc', he⟩
    replace hC := hCF.ex he (by omega)
    replace hQF := hQF.ex he (by omega)
    replace hG := Ex.gr hGF hbw he
    clear hCF hGF hcF hc' he
    have HT := Lib.hid ht3
    clear ht3
    obtain ⟨⟨r0, r1, r2, r3, r4, r5⟩, s0, s1, s2, s3, s4, s5⟩ := CL.six hQF
    go_upto_region 8 with fail
    clear r0 r1 r2 r3 r4 r5 s0 s1 s2 s3 s4 s5
    have hQ := hQF.set 4 (.int .i64 t) (by simp)
    replace hC := hC.other (s := gq) (o := 4) (.int .i64 t) (by omega)
    replace hG := hG.setCell (p := ⟨gq, 4, none⟩) (by show w.heap.size ≤ gq; omega) (.int .i64 t)
    simp only [List.set_cons_succ, List.set_cons_zero] at hQ
    generalize wm.setCell ⟨gq, 4, none⟩ (.int .i64 t) = w5 at hQ hC hG ⊢
    obtain ⟨Q, hQk, hQv⟩ : ∃ Q : Pr, Q.ok ∧ Q.vs = [.int .u32 P.src, .int .u32 P.dst, .int .i64 P.proto, .int .i64 P.flow, .int .i64 t, .int .i64 P.ttl] := ⟨{ P with tag := t }, ⟨HP.out.src, HP.out.dst, HP.out.proto, HP.out.flow, by have := HT.out; show t ≤ 65534; omega, HP.out.t0, HP.out.t1⟩, rfl⟩
    rw [← hQv] at hQ
    have HQ := Lib.hid hQk
    unfold Pr.vs at hQ
    clear hQF hQv hQk hbl hbw hle hne hx2
    obtain ⟨⟨y0, y1, y2, y3, y4, y5⟩, -⟩ := CL.six hC
    have HBp := Lib.hid (fun w => pbuild_ok P HP.out w)
    have HBq := Lib.hid (fun w => pbuild_ok Q HQ.out w)
    obtain ⟨c, hcc⟩ : ∃ c : Bool, c = true ↔ P = Q := by
      by_cases h : P = Q
      · exact ⟨true, by simp [h]⟩
      · exact ⟨false, by simp [h]⟩
    have HX := Lib.hid hcc
    have HY := Lib.hid (show decide (P.pk = Q.pk) = c by
      cases c with
      | true => rw [hcc.1 rfl]; simp
      | false => rw [decide_eq_false_iff_not]; exact fun h => by have := hcc.2 (Pr.pk_inj HP.out HQ.out h); simp at this)
    clear hcc
    have HKp := Lib.hid (Pr.pk_len HP.out)
    have HKq := Lib.hid (Pr.pk_len HQ.out)
    unfold Pr.v prV at HBp HBq
    go_wp2_with fail
    refine (HBp.out _).mono ?_
    rintro e w6 ⟨v6, rfl, ho, hg⟩
    replace hC := hC.gr hg
    replace hQ := hQ.gr hg
    replace hG := hG.step hg
    have HV := Lib.hid ho.rb.any
    obtain ⟨a6, c6, rfl, -, -⟩ := ho.rb.any.form
    generalize P.pk.length = K6 at *
    clear ho hg y0 y1 y2 y3 y4 y5
    obtain ⟨⟨y0, y1, y2, y3, y4, y5⟩, -⟩ := CL.six hQ
    go_wp2_with fail
    refine (HBq.out _).mono ?_
    rintro e w7 ⟨v7, rfl, ho, hg⟩
    replace hC := hC.gr hg
    replace hQ := hQ.gr hg
    replace hG := hG.step hg
    have HW := Lib.hid ho.rb.any
    replace HV := Lib.hid (HV.out.gr hg)
    obtain ⟨a7, c7, rfl, -, -⟩ := ho.rb.any.form
    generalize Q.pk.length = K7 at *
    clear ho hg y0 y1 y2 y3 y4 y5 HBp HBq
    go_wp2_with fail
    have HPC := Lib.hid hC
    have HQC := Lib.hid hQ
    clear hC hQ
    have hS : Gr w7 w7.drew := Gr.drew (Gr.refl _)
    refine region_plain (Gr w7) (by kernel_rfl) ?_
    generalize w7.drew = w8 at hS ⊢
    refine take_at 0 (some 35) (v := ?vb0) rfl rfl (by kernel_rfl) (by kernel_rfl) (by kernel_rfl) (by rfl) ?yb0 hS ?tb0
    case yb0 =>
      intro w' hSw
      obtain - := hSw
      go_simp
      (try with_reducible rfl)
    simp only [Act.put, List.setIfInBounds_toArray, List.set_cons_zero, List.set_cons_succ]
    refine take_at 1 (some 36) (v := ?vb1) rfl rfl (by kernel_rfl) (by kernel_rfl) (by kernel_rfl) (by rfl) ?yb1 hS ?tb1
    case yb1 =>
      intro w' hSw
      obtain - := hSw
      go_simp
      (try with_reducible rfl)
    simp only [Act.put, List.setIfInBounds_toArray, List.set_cons_zero, List.set_cons_succ]
    refine take_at 2 (some 37) (v := ?vb2) rfl rfl (by kernel_rfl) (by kernel_rfl) (by kernel_rfl) (by rfl) ?yb2 hS ?tb2
    case yb2 =>
      intro w' hSw
      obtain - := hSw
      go_simp
      (try with_reducible rfl)
    simp only [Act.put, List.setIfInBounds_toArray, List.set_cons_zero, List.set_cons_succ]
    refine take_at 3 (some 38) (v := ?vb3) rfl rfl (by kernel_rfl) (by kernel_rfl) (by kernel_rfl) (by rfl) ?yb3 hS ?tb3
    case yb3 =>
      intro w' hSw
      obtain - := hSw
      go_simp
      (try with_reducible rfl)
    simp only [Act.put, List.setIfInBounds_toArray, List.set_cons_zero, List.set_cons_succ]
    refine take_at 4 (some 39) (v := ?vb4) rfl rfl (by kernel_rfl) (by kernel_rfl) (by kernel_rfl) (by rfl) ?yb4 hS ?tb4
    case yb4 =>
      intro w' hSw
      obtain - := hSw
      go_simp
      (try with_reducible rfl)
    simp only [Act.put, List.setIfInBounds_toArray, List.set_cons_zero, List.set_cons_succ]
    refine take_at 5 (some 40) (v := ?vb5) rfl rfl (by kernel_rfl) (by kernel_rfl) (by kernel_rfl) (by rfl) ?yb5 hS ?tb5
    case yb5 =>
      intro w' hSw
      obtain - := hSw
      go_simp
      (try with_reducible rfl)
    simp only [Act.put, List.setIfInBounds_toArray, List.set_cons_zero, List.set_cons_succ]
    refine take_at 6 (some 41) (v := ?vb6) rfl rfl (by kernel_rfl) (by kernel_rfl) (by kernel_rfl) (by rfl) ?yb6 hS ?tb6
    case yb6 =>
      intro w' hSw
      obtain - := hSw
      go_simp
      (try with_reducible rfl)
    simp only [Act.put, List.setIfInBounds_toArray, List.set_cons_zero, List.set_cons_succ]
    refine take_at 7 (some 42) (v := ?vb7) rfl rfl (by kernel_rfl) (by kernel_rfl) (by kernel_rfl) (by rfl) ?yb7 hS ?tb7
    case yb7 =>
      intro w' hSw
      obtain - := hSw
      go_simp
      (try with_reducible rfl)
    simp only [Act.put, List.setIfInBounds_toArray, List.set_cons_zero, List.set_cons_succ]
    refine take_at 8 (some 43) (v := ?vb8) rfl rfl (by kernel_rfl) (by kernel_rfl) (by kernel_rfl) (by rfl) ?yb8 hS ?tb8
    case yb8 =>
      intro w' hSw
      obtain - := hSw
      go_simp
      (try with_reducible rfl)
    simp only [Act.put, List.setIfInBounds_toArray, List.set_cons_zero, List.set_cons_succ]
    refine take_at 10 (some 45) (v := ?vb10) rfl rfl (by kernel_rfl) (by kernel_rfl) (by kernel_rfl) (by rfl) ?yb10 hS ?tb10
    case yb10 =>
      intro w' hSw
      obtain ⟨⟨q0, q1, q2, q3, q4, q5⟩, -⟩ := CL.six (HPC.out.gr hSw)
      go_simp
      (try with_reducible rfl)
    simp only [Act.put, List.setIfInBounds_toArray, List.set_cons_zero, List.set_cons_succ]
    refine take_at 11 (some 46) (v := ?vb11) rfl rfl (by kernel_rfl) (by kernel_rfl) (by kernel_rfl) (by rfl) ?yb11 hS ?tb11
    case yb11 =>
      intro w' hSw
      obtain ⟨⟨q0, q1, q2, q3, q4, q5⟩, -⟩ := CL.six (HQC.out.gr hSw)
      go_simp
      (try with_reducible rfl)
    simp only [Act.put, List.setIfInBounds_toArray, List.set_cons_zero, List.set_cons_succ]
    refine take_at 12 (some 47) (v := .bool c) rfl rfl (by kernel_rfl) (by kernel_rfl) (by kernel_rfl) (by rfl) ?yzb hS ?tzb
    case yzb =>
      intro w' hSw
      go_simp
      exact ite6 P Q c HX.out (fun b => Result.ok (Next.value (.bool b)) w')
    simp only [Act.put, List.setIfInBounds_toArray, List.set_cons_zero, List.set_cons_succ]
    refine next_at 9 rfl (by kernel_rfl) (by rfl) (fun K hK => ?_)
    go_simp
    refine (weq_any w8 (HV.out.gr hS) (HW.out.gr hS)).mono ?_
    rintro e w9 ⟨rfl, rfl⟩
    rw [HY.out]
    refine hK _ _ hS ?_
    clear hK K
    refine take_at 13 (some 48) (v := ?vb13) rfl rfl (by kernel_rfl) (by kernel_rfl) (by kernel_rfl) (by rfl) ?yb13 hS ?tb13
    case yb13 =>
      intro w' hSw
      obtain - := hSw
      go_simp
      (try with_reducible rfl)
    simp only [Act.put, List.setIfInBounds_toArray, List.set_cons_zero, List.set_cons_succ]
    refine take_at 14 (some 49) (v := ?vb14) rfl rfl (by kernel_rfl) (by kernel_rfl) (by kernel_rfl) (by rfl) ?yb14 hS ?tb14
    case yb14 =>
      intro w' hSw
      obtain - := hSw
      go_simp
      (try with_reducible rfl)
    simp only [Act.put, List.setIfInBounds_toArray, List.set_cons_zero, List.set_cons_succ]
    refine next_at 15 rfl (by kernel_rfl) (by rfl) (fun K hK => ?_)
    go_simp
    refine hK _ _ hS ?_
    clear hK K
    refine wpAnyH_done (by kernel_rfl) ?_ _
    refine qz_normal ?_
    have hz := hG.step hS
    go_wp2_with fail
    go_ret
    exact ⟨rfl, hz⟩
  · have d1 : ((x : Int) == 1) = false := by simpa using (by omega : ¬ (x : Int) = 1)
    clear hx1 hx2 hbl hbw hle hne hc
    obtain ⟨⟨y0, y1, y2, y3, y4, y5⟩, -⟩ := CL.six hC
    have HBp := Lib.hid (fun w => pbuild_ok P HP.out w)
    have HBq := Lib.hid (fun w => pbuild_ok Q HQ.out w)
    obtain ⟨c, hcc⟩ : ∃ c : Bool, c = true ↔ P = Q := by
      by_cases h : P = Q
      · exact ⟨true, by simp [h]⟩
      · exact ⟨false, by simp [h]⟩
    have HX := Lib.hid hcc
    have HY := Lib.hid (show decide (P.pk = Q.pk) = c by
      cases c with
      | true => rw [hcc.1 rfl]; simp
      | false => rw [decide_eq_false_iff_not]; exact fun h => by have := hcc.2 (Pr.pk_inj HP.out HQ.out h); simp at this)
    clear hcc
    have HKp := Lib.hid (Pr.pk_len HP.out)
    have HKq := Lib.hid (Pr.pk_len HQ.out)
    unfold Pr.v prV at HBp HBq
    go_wp2_with fail
    refine (HBp.out _).mono ?_
    rintro e w6 ⟨v6, rfl, ho, hg⟩
    replace hC := hC.gr hg
    replace hQ := hQ.gr hg
    replace hG := hG.step hg
    have HV := Lib.hid ho.rb.any
    obtain ⟨a6, c6, rfl, -, -⟩ := ho.rb.any.form
    generalize P.pk.length = K6 at *
    clear ho hg y0 y1 y2 y3 y4 y5
    obtain ⟨⟨y0, y1, y2, y3, y4, y5⟩, -⟩ := CL.six hQ
    go_wp2_with fail
    refine (HBq.out _).mono ?_
    rintro e w7 ⟨v7, rfl, ho, hg⟩
    replace hC := hC.gr hg
    replace hQ := hQ.gr hg
    replace hG := hG.step hg
    have HW := Lib.hid ho.rb.any
    replace HV := Lib.hid (HV.out.gr hg)
    obtain ⟨a7, c7, rfl, -, -⟩ := ho.rb.any.form
    generalize Q.pk.length = K7 at *
    clear ho hg y0 y1 y2 y3 y4 y5 HBp HBq
    go_wp2_with fail
    have HPC := Lib.hid hC
    have HQC := Lib.hid hQ
    clear hC hQ
    have hS : Gr w7 w7.drew := Gr.drew (Gr.refl _)
    refine region_plain (Gr w7) (by kernel_rfl) ?_
    generalize w7.drew = w8 at hS ⊢
    refine take_at 0 (some 35) (v := ?va0) rfl rfl (by kernel_rfl) (by kernel_rfl) (by kernel_rfl) (by rfl) ?ya0 hS ?ta0
    case ya0 =>
      intro w' hSw
      obtain - := hSw
      go_simp
      (try with_reducible rfl)
    simp only [Act.put, List.setIfInBounds_toArray, List.set_cons_zero, List.set_cons_succ]
    refine take_at 1 (some 36) (v := ?va1) rfl rfl (by kernel_rfl) (by kernel_rfl) (by kernel_rfl) (by rfl) ?ya1 hS ?ta1
    case ya1 =>
      intro w' hSw
      obtain - := hSw
      go_simp
      (try with_reducible rfl)
    simp only [Act.put, List.setIfInBounds_toArray, List.set_cons_zero, List.set_cons_succ]
    refine take_at 2 (some 37) (v := ?va2) rfl rfl (by kernel_rfl) (by kernel_rfl) (by kernel_rfl) (by rfl) ?ya2 hS ?ta2
    case ya2 =>
      intro w' hSw
      obtain - := hSw
      go_simp
      (try with_reducible rfl)
    simp only [Act.put, List.setIfInBounds_toArray, List.set_cons_zero, List.set_cons_succ]
    refine take_at 3 (some 38) (v := ?va3) rfl rfl (by kernel_rfl) (by kernel_rfl) (by kernel_rfl) (by rfl) ?ya3 hS ?ta3
    case ya3 =>
      intro w' hSw
      obtain - := hSw
      go_simp
      (try with_reducible rfl)
    simp only [Act.put, List.setIfInBounds_toArray, List.set_cons_zero, List.set_cons_succ]
    refine take_at 4 (some 39) (v := ?va4) rfl rfl (by kernel_rfl) (by kernel_rfl) (by kernel_rfl) (by rfl) ?ya4 hS ?ta4
    case ya4 =>
      intro w' hSw
      obtain - := hSw
      go_simp
      (try with_reducible rfl)
    simp only [Act.put, List.setIfInBounds_toArray, List.set_cons_zero, List.set_cons_succ]
    refine take_at 5 (some 40) (v := ?va5) rfl rfl (by kernel_rfl) (by kernel_rfl) (by kernel_rfl) (by rfl) ?ya5 hS ?ta5
    case ya5 =>
      intro w' hSw
      obtain - := hSw
      go_simp
      (try with_reducible rfl)
    simp only [Act.put, List.setIfInBounds_toArray, List.set_cons_zero, List.set_cons_succ]
    refine take_at 6 (some 41) (v := ?va6) rfl rfl (by kernel_rfl) (by kernel_rfl) (by kernel_rfl) (by rfl) ?ya6 hS ?ta6
    case ya6 =>
      intro w' hSw
      obtain - := hSw
      go_simp
      (try with_reducible rfl)
    simp only [Act.put, List.setIfInBounds_toArray, List.set_cons_zero, List.set_cons_succ]
    refine take_at 7 (some 42) (v := ?va7) rfl rfl (by kernel_rfl) (by kernel_rfl) (by kernel_rfl) (by rfl) ?ya7 hS ?ta7
    case ya7 =>
      intro w' hSw
      obtain - := hSw
      go_simp
      (try with_reducible rfl)
    simp only [Act.put, List.setIfInBounds_toArray, List.set_cons_zero, List.set_cons_succ]
    refine take_at 8 (some 43) (v := ?va8) rfl rfl (by kernel_rfl) (by kernel_rfl) (by kernel_rfl) (by rfl) ?ya8 hS ?ta8
    case ya8 =>
      intro w' hSw
      obtain - := hSw
      go_simp
      (try with_reducible rfl)
    simp only [Act.put, List.setIfInBounds_toArray, List.set_cons_zero, List.set_cons_succ]
    refine take_at 10 (some 45) (v := ?va10) rfl rfl (by kernel_rfl) (by kernel_rfl) (by kernel_rfl) (by rfl) ?ya10 hS ?ta10
    case ya10 =>
      intro w' hSw
      obtain ⟨⟨q0, q1, q2, q3, q4, q5⟩, -⟩ := CL.six (HPC.out.gr hSw)
      go_simp
      (try with_reducible rfl)
    simp only [Act.put, List.setIfInBounds_toArray, List.set_cons_zero, List.set_cons_succ]
    refine take_at 11 (some 46) (v := ?va11) rfl rfl (by kernel_rfl) (by kernel_rfl) (by kernel_rfl) (by rfl) ?ya11 hS ?ta11
    case ya11 =>
      intro w' hSw
      obtain ⟨⟨q0, q1, q2, q3, q4, q5⟩, -⟩ := CL.six (HQC.out.gr hSw)
      go_simp
      (try with_reducible rfl)
    simp only [Act.put, List.setIfInBounds_toArray, List.set_cons_zero, List.set_cons_succ]
    refine take_at 12 (some 47) (v := .bool c) rfl rfl (by kernel_rfl) (by kernel_rfl) (by kernel_rfl) (by rfl) ?yza hS ?tza
    case yza =>
      intro w' hSw
      go_simp
      exact ite6 P Q c HX.out (fun b => Result.ok (Next.value (.bool b)) w')
    simp only [Act.put, List.setIfInBounds_toArray, List.set_cons_zero, List.set_cons_succ]
    refine next_at 9 rfl (by kernel_rfl) (by rfl) (fun K hK => ?_)
    go_simp
    refine (weq_any w8 (HV.out.gr hS) (HW.out.gr hS)).mono ?_
    rintro e w9 ⟨rfl, rfl⟩
    rw [HY.out]
    refine hK _ _ hS ?_
    clear hK K
    refine take_at 13 (some 48) (v := ?va13) rfl rfl (by kernel_rfl) (by kernel_rfl) (by kernel_rfl) (by rfl) ?ya13 hS ?ta13
    case ya13 =>
      intro w' hSw
      obtain - := hSw
      go_simp
      (try with_reducible rfl)
    simp only [Act.put, List.setIfInBounds_toArray, List.set_cons_zero, List.set_cons_succ]
    refine take_at 14 (some 49) (v := ?va14) rfl rfl (by kernel_rfl) (by kernel_rfl) (by kernel_rfl) (by rfl) ?ya14 hS ?ta14
    case ya14 =>
      intro w' hSw
      obtain - := hSw
      go_simp
      (try with_reducible rfl)
    simp only [Act.put, List.setIfInBounds_toArray, List.set_cons_zero, List.set_cons_succ]
    refine next_at 15 rfl (by kernel_rfl) (by rfl) (fun K hK => ?_)
    go_simp
    refine hK _ _ hS ?_
    clear hK K
    refine wpAnyH_done (by kernel_rfl) ?_ _
    refine qz_normal ?_
    have hz := hG.step hS
    go_wp2_with fail
    go_ret
    exact ⟨rfl, hz⟩
end Go.Proofs.Ytlkhdbgknkjioaa
