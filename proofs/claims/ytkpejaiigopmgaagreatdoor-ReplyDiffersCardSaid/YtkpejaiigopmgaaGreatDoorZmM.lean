/- The walk of the statement on answers to different probes. -/
import Derived.Test.YtkpejaiigopmgaaGreatDoorGZ
import Derived.WalkKit
import Derived.WalkSpells
import Derived.WalkLawsBesides
import Derived.WalkSmall
import Derived.Handy
import Derived.BigQuiet
import Derived.Deep.QuietTactic
import Derived.Deep.RegionHeld3
import Derived.Deep.DeepFit
import Derived.Below
import Derived.Lib.Hide
import Derived.Lib.QuietBelow
namespace Go.Proofs.YtkpejaiigopmgaaGreatDoor
open Go Go.RowKit Go.Sort
set_option maxRecDepth 100000
set_option linter.unusedVariables false
set_option linter.unusedSimpArgs false
theorem Pr.same {P Q : Pr} (h1 : (P.src : Int) = Q.src) (h2 : (P.dst : Int) = Q.dst) (h3 : (P.proto : Int) = Q.proto) (h4 : (P.flow : Int) = Q.flow) (h5 : (P.tag : Int) = Q.tag) (h6 : P.ttl = Q.ttl) : P = Q := by
  obtain ⟨a, b, c, d, e, f⟩ := P
  obtain ⟨a', b', c', d', e', f'⟩ := Q
  simp only at h1 h2 h3 h4 h5 h6
  congr <;> omega
theorem ite5 {α : Type} (P Q : Pr) (ht : P.ttl = Q.ttl) (c : Bool) (hc : c = true ↔ P = Q) (f : Bool → α) :
    (if (P.src : Int) = Q.src then if (P.dst : Int) = Q.dst then if (P.proto : Int) = Q.proto then if (P.flow : Int) = Q.flow then if (P.tag : Int) = Q.tag then f true else f false else f false else f false else f false else f false) = f c := by
  by_cases h : P = Q
  · rw [hc.2 h]; subst h; simp
  · have : c = false := by cases c with | false => rfl | true => exact absurd (hc.1 rfl) h
    rw [this]
    repeat' split
    all_goals first | rfl | exact absurd (Pr.same ‹_› ‹_› ‹_› ‹_› ‹_› ht) h
theorem ite6t {α : Type} (P Q : Pr) (ht : P.ttl = Q.ttl) (c : Bool) (hc : c = true ↔ P = Q) (f : Bool → α) :
    (if (P.src : Int) = Q.src then if (P.dst : Int) = Q.dst then if (P.proto : Int) = Q.proto then if (P.flow : Int) = Q.flow then if (P.tag : Int) = Q.tag then if (P.ttl : Int) = Q.ttl then f true else f false else f false else f false else f false else f false else f false) = f c := by
  rw [← ite5 P Q ht c hc f]
  simp [ht]
/-- what an answer is read as -/
def RdAs (P : Pr) (l : List Nat) (s d pr fl tg fr kd cd lf ii qd E : Int) : Prop :=
  (∀ (w : World) (v : Value), Rb (fun _ => True) w v l → Calls Tryz.prog 12 #[v] w fun e w' => e = .returned (.tuple #[.agg #[.int .u32 s, .int .u32 d, .int .i64 pr, .int .i64 fl, .int .i64 tg, .int .i64 0], .agg #[.int .u32 fr, .int .i64 kd, .int .i64 cd, .int .i64 lf, .int .i64 ii, .int .i64 qd], .int .i64 E]) ∧ Gr w w') ∧
    ((¬ usb P.src ∧ E = 17) ∨ (usb P.src ∧ E = 0 ∧ 0 < kd ∧ s = P.src ∧ d = P.dst ∧ pr = P.proto ∧ fl = P.flow ∧ tg = P.tag))
theorem ans_read {P : Pr} {l : List Nat} (k : P.ok) (h : (¬ usb P.src ∧ l = []) ∨ (usb P.src ∧ IsAns P l)) : ∃ s d pr fl tg fr kd cd lf ii qd E : Int, RdAs P l s d pr fl tg fr kd cd lf ii qd E := by
  rcases h with ⟨hu, h⟩ | ⟨hu, h⟩
  · exact ⟨0, 0, 0, 0, 0, 0, 0, 0, 0, 0, 0, 17, fun w v hr => read_err w hr (by rw [h]; simp) (by rw [h]; exact dcE_nil), .inl ⟨hu, rfl⟩⟩
  · obtain ⟨fr, kd, cd, lf, ii, qd, h0, hh⟩ := h.read k
    exact ⟨_, _, _, _, _, fr, kd, cd, lf, ii, qd, 0, hh, .inr ⟨hu, rfl, h0, rfl, rfl, rfl, rfl, rfl⟩⟩
set_option maxHeartbeats 4000000 in
theorem differs_walk (sv : Value) (len : Nat) (w : World) (hl : len ≤ 9223372036854775807) (hb : BytesV w.heap.size w sv len) (ht : SpTab w) :
    Calls Tryz.prog 4 #[sv] w fun e w' => e = .returned (.bool true) ∧ Gr w w' := by
  have HB := Lib.hid hb
  clear hb
  go_enter Tryz.func4, Tryz.ntmps4
  go_wp2_with fail
  refine (awake_any _ ht).mono ?_
  rintro e w1 ⟨rfl, hg⟩
  go_wp2_with fail
  refine (new_any sv len 200 _ (by omega) hl (HB.out.gr hg)).mono ?_
  rintro e w2 ⟨b, rfl, hbe, hc, hg2⟩
  have hbw : w.heap.size ≤ b := by have := Gr.size hg; omega
  have hG := hg.step hg2
  clear hbe hg2 hg HB hl
  clear ht
  go_wp2_with fail
  refine (right_any b _ hc).mono ?_
  rintro e w3 ⟨P, rfl, hP, hc', hx⟩
  replace hG := Ex.gr hG hbw hx
  replace hc := hc'
  clear hc' hx
  unfold Pr.v prV
  go_wp2_with fail
  refine (right_any b _ hc).mono ?_
  rintro e w4 ⟨Q0, rfl, hQ, hc', hx⟩
  replace hG := Ex.gr hG hbw hx
  replace hc := hc'
  clear hc' hx
  unfold Pr.v prV
  have HP := Lib.hid hP
  have HQ0 := Lib.hid hQ
  clear hP hQ
  have hC := (CL.new w4 P.vs 29 _ rfl).gr (Gr.alloc (Gr.refl _) (.cells Q0.vs.toArray 29))
  have hQ := CL.new (w4.alloc (.cells P.vs.toArray 29)) Q0.vs 29 (w4.heap.size + 1) (by simp)
  have hgn := ((Gr.refl w4).alloc (.cells P.vs.toArray 29)).alloc (.cells Q0.vs.toArray 29)
  have hbl : b < w4.heap.size := hc.lt
  have hle : w.heap.size ≤ w4.heap.size := Gr.size hG
  unfold Pr.vs at hC hQ hgn
  simp only [List.toArray] at hC hQ hgn
  have hne : w4.heap.size < w4.heap.size + 1 := by omega
  go_upto_region 5 with fail
  generalize (w4.alloc (.cells #[.int .u32 P.src, .int .u32 P.dst, .int .i64 P.proto, .int .i64 P.flow, .int .i64 P.tag, .int .i64 P.ttl] 29)).alloc (.cells #[.int .u32 Q0.src, .int .u32 Q0.dst, .int .i64 Q0.proto, .int .i64 Q0.flow, .int .i64 Q0.tag, .int .i64 Q0.ttl] 29) = w5 at hC hQ hgn ⊢
  generalize w4.heap.size + 1 = gq at hQ hne ⊢
  generalize w4.heap.size = gp at hC hbl hle hne ⊢
  replace hG := hG.step hgn
  replace hc := hc.gr hgn
  clear hgn
  go_wp2_with fail
  refine (next_nat b 2 _ (by omega) (by omega) hc).mono ?_
  rintro e wn ⟨x, rfl, hx2, hc', he⟩
  replace hC := hC.ex he (by omega)
  replace hQ := hQ.ex he (by omega)
  replace hG := Ex.gr hG hbw he
  replace hc := hc'
  clear hc' he
  by_cases hx1 : x = 1
  · subst hx1
    obtain ⟨⟨y0, y1, y2, y3, y4, y5⟩, -⟩ := CL.six hC
    obtain ⟨⟨r0, r1, r2, r3, r4, r5⟩, s0, s1, s2, s3, s4, s5⟩ := CL.six hQ
    go_upto_region 7 with fail
    clear y0 y1 y2 y3 y4 y5 r0 r1 r2 r3 r4 r5 s0 s1 s2 s3 s4 s5
    have hQF := hQ.fill [.int .u32 P.src, .int .u32 P.dst, .int .i64 P.proto, .int .i64 P.flow, .int .i64 P.tag, .int .i64 P.ttl] rfl
    have hCF := hC.fillO (s := gq) (by omega) [.int .u32 P.src, .int .u32 P.dst, .int .i64 P.proto, .int .i64 P.flow, .int .i64 P.tag, .int .i64 P.ttl] 0
    have hGF := hG.fill (g := gq) (by omega) [.int .u32 P.src, .int .u32 P.dst, .int .i64 P.proto, .int .i64 P.flow, .int .i64 P.tag, .int .i64 P.ttl] 0
    have hcF := hc.fillN (g := gq) (by omega) [.int .u32 P.src, .int .u32 P.dst, .int .i64 P.proto, .int .i64 P.flow, .int .i64 P.tag, .int .i64 P.ttl] 0
    simp only [fillC, Nat.reduceAdd] at hQF hCF hGF hcF
    generalize (((((wn.setCell ⟨gq, 0, none⟩ (.int .u32 P.src)).setCell ⟨gq, 1, none⟩ (.int .u32 P.dst)).setCell ⟨gq, 2, none⟩ (.int .i64 P.proto)).setCell ⟨gq, 3, none⟩ (.int .i64 P.flow)).setCell ⟨gq, 4, none⟩ (.int .i64 P.tag)).setCell ⟨gq, 5, none⟩ (.int .i64 P.ttl) = wF at hQF hCF hGF hcF ⊢
    clear hQ hC hG hc HQ0
    go_wp2_with fail
    refine (next_nat b 3 _ (by omega) (by omega) hcF).mono ?_
    rintro e wm ⟨t, rfl, ht3, hc', he⟩
    replace hC := hCF.ex he (by omega)
    replace hQF := hQF.ex he (by omega)
    replace hG := Ex.gr hGF hbw he
    clear hCF hGF hcF he
    go_wp2_with fail
    refine (next_nat b 3 _ (by omega) (by omega) hc').mono ?_
    rintro e wo ⟨f, rfl, hf3, hc, he⟩
    replace hC := hC.ex he (by omega)
    replace hQF := hQF.ex he (by omega)
    replace hG := Ex.gr hG hbw he
    clear hc' he
    have HT := Lib.hid ht3
    have HF := Lib.hid hf3
    clear ht3 hf3
    obtain ⟨⟨r0, r1, r2, r3, r4, r5⟩, s0, s1, s2, s3, s4, s5⟩ := CL.six hQF
    go_upto_region 8 with fail
    clear r0 r1 r2 r3 r4 r5 s0 s1 s2 s3 s4 s5
    have hQ := (hQF.set 4 (.int .i64 t) (by simp)).set 3 (.int .i64 f) (by simp)
    replace hC := (hC.other (s := gq) (o := 4) (.int .i64 t) (by omega)).other (s := gq) (o := 3) (.int .i64 f) (by omega)
    replace hG := (hG.setCell (p := ⟨gq, 4, none⟩) (by show w.heap.size ≤ gq; omega) (.int .i64 t)).setCell (p := ⟨gq, 3, none⟩) (by show w.heap.size ≤ gq; omega) (.int .i64 f)
    replace hc := (hc.set gq 4 (by omega) (by omega) (.int .i64 t)).set gq 3 (by omega) (by omega) (.int .i64 f)
    simp only [List.set_cons_succ, List.set_cons_zero] at hQ
    generalize (wo.setCell ⟨gq, 4, none⟩ (.int .i64 t)).setCell ⟨gq, 3, none⟩ (.int .i64 f) = w8 at hQ hC hG hc ⊢
    obtain ⟨Q0, hQk, hQv⟩ : ∃ Q : Pr, Q.ok ∧ Q.vs = [.int .u32 P.src, .int .u32 P.dst, .int .i64 P.proto, .int .i64 f, .int .i64 t, .int .i64 P.ttl] := ⟨{ P with tag := t, flow := f }, ⟨HP.out.src, HP.out.dst, HP.out.proto, by have := HF.out; show f ≤ 1023; omega, by have := HT.out; show t ≤ 65534; omega, HP.out.t0, HP.out.t1⟩, rfl⟩
    rw [← hQv] at hQ
    have HQ0 := Lib.hid hQk
    unfold Pr.vs at hQ
    clear hQF hQv hQk hx2
    obtain ⟨⟨y0, y1, y2, y3, y4, y5⟩, -⟩ := CL.six hC
    obtain ⟨⟨x0, x1, x2, x3, x4, x5⟩, u0, u1, u2, u3, u4, u5⟩ := CL.six hQ
    go_upto_region 9 with fail
    clear y0 y1 y2 y3 y4 y5 x0 x1 x2 x3 x4 x5 u0 u1 u2 u3 u4 u5
    replace hQ := hQ.set 5 (.int .i64 P.ttl) (by simp)
    replace hC := hC.other (s := gq) (o := 5) (.int .i64 P.ttl) (by omega)
    replace hG := hG.setCell (p := ⟨gq, 5, none⟩) (by show w.heap.size ≤ gq; omega) (.int .i64 P.ttl)
    replace hc := hc.set gq 5 (by omega) (by omega) (.int .i64 P.ttl)
    simp only [List.set_cons_succ, List.set_cons_zero] at hQ
    generalize w8.setCell ⟨gq, 5, none⟩ (.int .i64 P.ttl) = w9 at hQ hC hG hc ⊢
    obtain ⟨Q, hQk, hQt, hQv⟩ : ∃ Q : Pr, Q.ok ∧ P.ttl = Q.ttl ∧ Q.vs = [.int .u32 Q0.src, .int .u32 Q0.dst, .int .i64 Q0.proto, .int .i64 Q0.flow, .int .i64 Q0.tag, .int .i64 P.ttl] := ⟨{ Q0 with ttl := P.ttl }, ⟨HQ0.out.src, HQ0.out.dst, HQ0.out.proto, HQ0.out.flow, HQ0.out.tag, HP.out.t0, HP.out.t1⟩, rfl, rfl⟩
    rw [← hQv] at hQ
    have HQ := Lib.hid hQk
    have HQT := Lib.hid hQt
    unfold Pr.vs at hQ
    clear hQk hQt hQv HQ0
    have HAp := Lib.hid (fun (w' : World) (h : Cod w.heap.size w' b) => answer_any b P w' h HP.out)
    have HAq := Lib.hid (fun (w' : World) (h : Cod w.heap.size w' b) => answer_any b Q w' h HQ.out)
    unfold Pr.v prV at HAp HAq
    obtain ⟨⟨y0, y1, y2, y3, y4, y5⟩, -⟩ := CL.six hC
    go_wp2_with fail
    refine (HAp.out _ hc).mono ?_
    rintro e wa1 ⟨v1, l1, rfl, hr, hca, hx, hcase⟩
    replace hC := hC.ex hx (by omega)
    replace hQ := hQ.ex hx (by omega)
    replace hG := Ex.gr hG hbw hx
    replace hc := hca
    obtain ⟨s1, d1, p1, f1, t1, r1, k1, o1, u1, j1, q1, E1, hrd⟩ := ans_read HP.out hcase
    have HR1 := Lib.hid hrd.2
    have HF1 := Lib.hid (hrd.1 wa1 v1 hr.any)
    obtain ⟨a1, c1, rfl, -, -⟩ := hr.form
    generalize l1.length = N1 at *
    clear y0 y1 y2 y3 y4 y5
    clear hrd hcase hr hca hx
    go_wp2_with fail
    refine HF1.out.mono ?_
    rintro e wb1 ⟨rfl, hg⟩
    replace hC := hC.gr hg
    replace hQ := hQ.gr hg
    replace hG := hG.step hg
    replace hc := hc.gr hg
    have hst1 := hg
    clear hg HF1
    have hA1 := (CL.new wb1 [.int .u32 s1, .int .u32 d1, .int .i64 p1, .int .i64 f1, .int .i64 t1, .int .i64 0] 29 _ rfl).gr (Gr.alloc (Gr.refl _) (.cells #[.int .u32 r1, .int .i64 k1, .int .i64 o1, .int .i64 u1, .int .i64 j1, .int .i64 q1] 39))
    have hB1 := CL.new (wb1.alloc (.cells #[.int .u32 s1, .int .u32 d1, .int .i64 p1, .int .i64 f1, .int .i64 t1, .int .i64 0] 29)) [.int .u32 r1, .int .i64 k1, .int .i64 o1, .int .i64 u1, .int .i64 j1, .int .i64 q1] 39 (wb1.heap.size + 1) (by simp)
    have hgn := ((Gr.refl wb1).alloc (.cells #[.int .u32 s1, .int .u32 d1, .int .i64 p1, .int .i64 f1, .int .i64 t1, .int .i64 0] 29)).alloc (.cells #[.int .u32 r1, .int .i64 k1, .int .i64 o1, .int .i64 u1, .int .i64 j1, .int .i64 q1] 39)
    simp only [List.toArray] at hA1 hB1
    have hlg1 := hC.lt
    go_upto_region 10 with fail
    generalize (wb1.alloc (.cells #[.int .u32 s1, .int .u32 d1, .int .i64 p1, .int .i64 f1, .int .i64 t1, .int .i64 0] 29)).alloc (.cells #[.int .u32 r1, .int .i64 k1, .int .i64 o1, .int .i64 u1, .int .i64 j1, .int .i64 q1] 39) = wc1 at hA1 hB1 hgn ⊢
    generalize hgb1 : wb1.heap.size + 1 = gb1 at hB1 ⊢
    generalize wb1.heap.size = ga1 at hA1 hgb1 hlg1 ⊢
    replace hC := hC.gr hgn
    replace hQ := hQ.gr hgn
    replace hG := hG.step hgn
    replace hc := hc.gr hgn
    replace hst1 := hst1.step hgn
    clear hgn HAp
    obtain ⟨⟨y0, y1, y2, y3, y4, y5⟩, -⟩ := CL.six hQ
    go_wp2_with fail
    refine (HAq.out _ hc).mono ?_
    rintro e wa2 ⟨v2, l2, rfl, hr, hca, hx, hcase⟩
    replace hC := hC.ex hx (by omega)
    replace hQ := hQ.ex hx (by omega)
    replace hG := Ex.gr hG hbw hx
    replace hc := hca
    obtain ⟨s2, d2, p2, f2, t2, r2, k2, o2, u2, j2, q2, E2, hrd⟩ := ans_read HQ.out hcase
    have HR2 := Lib.hid hrd.2
    have HF2 := Lib.hid (hrd.1 wa2 v2 hr.any)
    obtain ⟨a2, c2, rfl, -, -⟩ := hr.form
    generalize l2.length = N2 at *
    clear y0 y1 y2 y3 y4 y5
    replace hA1 := hA1.ex hx (by omega)
    replace hB1 := hB1.ex hx (by omega)
    clear hrd hcase hr hca hx
    go_wp2_with fail
    refine HF2.out.mono ?_
    rintro e wb2 ⟨rfl, hg⟩
    replace hC := hC.gr hg
    replace hQ := hQ.gr hg
    replace hG := hG.step hg
    replace hc := hc.gr hg
    have hst2 := hg
    clear hg HF2
    have hA2 := (CL.new wb2 [.int .u32 s2, .int .u32 d2, .int .i64 p2, .int .i64 f2, .int .i64 t2, .int .i64 0] 29 _ rfl).gr (Gr.alloc (Gr.refl _) (.cells #[.int .u32 r2, .int .i64 k2, .int .i64 o2, .int .i64 u2, .int .i64 j2, .int .i64 q2] 39))
    have hB2 := CL.new (wb2.alloc (.cells #[.int .u32 s2, .int .u32 d2, .int .i64 p2, .int .i64 f2, .int .i64 t2, .int .i64 0] 29)) [.int .u32 r2, .int .i64 k2, .int .i64 o2, .int .i64 u2, .int .i64 j2, .int .i64 q2] 39 (wb2.heap.size + 1) (by simp)
    have hgn := ((Gr.refl wb2).alloc (.cells #[.int .u32 s2, .int .u32 d2, .int .i64 p2, .int .i64 f2, .int .i64 t2, .int .i64 0] 29)).alloc (.cells #[.int .u32 r2, .int .i64 k2, .int .i64 o2, .int .i64 u2, .int .i64 j2, .int .i64 q2] 39)
    simp only [List.toArray] at hA2 hB2
    have hlg2 := hC.lt
    go_upto_region 11 with fail
    generalize (wb2.alloc (.cells #[.int .u32 s2, .int .u32 d2, .int .i64 p2, .int .i64 f2, .int .i64 t2, .int .i64 0] 29)).alloc (.cells #[.int .u32 r2, .int .i64 k2, .int .i64 o2, .int .i64 u2, .int .i64 j2, .int .i64 q2] 39) = wc2 at hA2 hB2 hgn ⊢
    generalize hgb2 : wb2.heap.size + 1 = gb2 at hB2 ⊢
    generalize wb2.heap.size = ga2 at hA2 hgb2 hlg2 ⊢
    replace hC := hC.gr hgn
    replace hQ := hQ.gr hgn
    replace hG := hG.step hgn
    replace hc := hc.gr hgn
    replace hst2 := hst2.step hgn
    replace hA1 := hA1.gr hst2
    replace hB1 := hB1.gr hst2
    clear hgn hst1 hst2 HAq
    rcases HR1.out with ⟨hu1, hE1⟩ | ⟨hu1, hE1, hk1, rfl, rfl, rfl, rfl, rfl⟩
    · have HU := Lib.hid (fun w => usable_any P.src w HP.out.src false ⟨fun h => Bool.noConfusion h, fun h => absurd h hu1⟩)
      subst hE1
      clear HR1 HR2 hu1 hA1 hA2 hB1 hB2
      obtain ⟨⟨y0, y1, y2, y3, y4, y5⟩, -⟩ := CL.six hC
      go_wp2_with fail
      refine (HU.out _).mono ?_
      rintro e wz ⟨rfl, hg⟩
      go_wp2_with fail
      go_ret
      exact ⟨rfl, hG.step hg⟩
    · have HU := Lib.hid (fun w => usable_any P.src w HP.out.src true ⟨fun _ => hu1, fun _ => rfl⟩)
      subst hE1
      rcases HR2.out with ⟨hu2, hE2⟩ | ⟨hu2, hE2, hk2, rfl, rfl, rfl, rfl, rfl⟩
      · have HV := Lib.hid (fun w => usable_any Q.src w HQ.out.src false ⟨fun h => Bool.noConfusion h, fun h => absurd h hu2⟩)
        subst hE2
        clear HR1 HR2 hu1 hu2 hA1 hA2 hB1 hB2
        obtain ⟨⟨y0, y1, y2, y3, y4, y5⟩, -⟩ := CL.six hC
        go_wp2_with fail
        refine (HU.out _).mono ?_
        rintro e wz ⟨rfl, hg⟩
        clear y0 y1 y2 y3 y4 y5
        replace hQ := hQ.gr hg
        obtain ⟨⟨y0, y1, y2, y3, y4, y5⟩, -⟩ := CL.six hQ
        go_wp2_with fail
        refine (HV.out _).mono ?_
        rintro e wy ⟨rfl, hg2⟩
        go_wp2_with fail
        go_ret
        exact ⟨rfl, (hG.step hg).step hg2⟩
      · subst hE2
        have dk1 : decide (0 < k1) = true := by simpa using hk1
        have dk2 : decide (0 < k2) = true := by simpa using hk2
        obtain ⟨c, hcc⟩ : ∃ c : Bool, c = true ↔ P = Q := by
          by_cases h : P = Q
          · exact ⟨true, by simp [h]⟩
          · exact ⟨false, by simp [h]⟩
        have HX := Lib.hid hcc
        clear HR1 HR2 hu1 hu2 hk1 hk2 HU hcc hc
        go_upto_region 13 with fail
        have HC := Lib.hid (hC.gr (Gr.drew (Gr.refl _)))
        have HQC := Lib.hid (hQ.gr (Gr.drew (Gr.refl _)))
        have HA1 := Lib.hid (hA1.gr (Gr.drew (Gr.refl _)))
        have HA2 := Lib.hid (hA2.gr (Gr.drew (Gr.refl _)))
        have HB1 := Lib.hid (hB1.gr (Gr.drew (Gr.refl _)))
        have HB2 := Lib.hid (hB2.gr (Gr.drew (Gr.refl _)))
        replace hG := hG.step (Gr.drew (Gr.refl _))
        clear hC hQ hA1 hA2 hB1 hB2
        refine region_plain (Gr wc2.drew) (by kernel_rfl) ?_
        generalize wc2.drew = wx at HC HQC HA1 HA2 HB1 HB2 hG ⊢
        have hS : Gr wx wx := Gr.refl _
        refine take_at 0 (some 65) (v := ?vm0) rfl rfl (by kernel_rfl) (by kernel_rfl) (by kernel_rfl) (by rfl) ?ym0 hS ?tm0
        case ym0 =>
          intro w' hSw
          obtain ⟨⟨q0, q1, q2, q3, q4, q5⟩, -⟩ := CL.six (HA1.out.gr hSw)
          go_simp
          (try with_reducible rfl)
        simp only [Act.put, List.setIfInBounds_toArray, List.set_cons_zero, List.set_cons_succ]
        refine take_at 1 (some 66) (v := ?vm1) rfl rfl (by kernel_rfl) (by kernel_rfl) (by kernel_rfl) (by rfl) ?ym1 hS ?tm1
        case ym1 =>
          intro w' hSw
          obtain ⟨⟨q0, q1, q2, q3, q4, q5⟩, -⟩ := CL.six (HA2.out.gr hSw)
          go_simp
          (try with_reducible rfl)
        simp only [Act.put, List.setIfInBounds_toArray, List.set_cons_zero, List.set_cons_succ]
        refine take_at 2 (some 67) (v := .bool c) rfl rfl (by kernel_rfl) (by kernel_rfl) (by kernel_rfl) (by rfl) ?yzm hS ?tzm
        case yzm =>
          intro w' hSw
          go_simp
          exact ite5 P Q HQT.out c HX.out (fun b => Result.ok (Next.value (.bool b)) w')
        simp only [Act.put, List.setIfInBounds_toArray, List.set_cons_zero, List.set_cons_succ]
        refine take_at 3 (some 68) (v := ?vm3) rfl rfl (by kernel_rfl) (by kernel_rfl) (by kernel_rfl) (by rfl) ?ym3 hS ?tm3
        case ym3 =>
          intro w' hSw
          obtain ⟨⟨q0, q1, q2, q3, q4, q5⟩, -⟩ := CL.six (HC.out.gr hSw)
          go_simp
          (try with_reducible rfl)
        simp only [Act.put, List.setIfInBounds_toArray, List.set_cons_zero, List.set_cons_succ]
        refine take_at 4 (some 69) (v := ?vm4) rfl rfl (by kernel_rfl) (by kernel_rfl) (by kernel_rfl) (by rfl) ?ym4 hS ?tm4
        case ym4 =>
          intro w' hSw
          obtain ⟨⟨q0, q1, q2, q3, q4, q5⟩, -⟩ := CL.six (HQC.out.gr hSw)
          go_simp
          (try with_reducible rfl)
        simp only [Act.put, List.setIfInBounds_toArray, List.set_cons_zero, List.set_cons_succ]
        refine take_at 5 (some 70) (v := .bool c) rfl rfl (by kernel_rfl) (by kernel_rfl) (by kernel_rfl) (by rfl) ?yym hS ?tym
        case yym =>
          intro w' hSw
          go_simp
          exact ite6t P Q HQT.out c HX.out (fun b => Result.ok (Next.value (.bool b)) w')
        simp only [Act.put, List.setIfInBounds_toArray, List.set_cons_zero, List.set_cons_succ]
        refine take_at 6 (some 71) (v := .bool true) rfl rfl (by kernel_rfl) (by kernel_rfl) (by kernel_rfl) (by rfl) ?yxm hS ?txm
        case yxm =>
          intro w' hSw
          clear HX
          cases c <;> first | (go_simp; done) | (go_simp; rfl)
        simp only [Act.put, List.setIfInBounds_toArray, List.set_cons_zero, List.set_cons_succ]
        refine take_at 7 (some 72) (v := ?vm7) rfl rfl (by kernel_rfl) (by kernel_rfl) (by kernel_rfl) (by rfl) ?ym7 hS ?tm7
        case ym7 =>
          intro w' hSw
          obtain - := hSw
          go_simp
          (try with_reducible rfl)
        simp only [Act.put, List.setIfInBounds_toArray, List.set_cons_zero, List.set_cons_succ]
        refine take_at 8 (some 73) (v := ?vm8) rfl rfl (by kernel_rfl) (by kernel_rfl) (by kernel_rfl) (by rfl) ?ym8 hS ?tm8
        case ym8 =>
          intro w' hSw
          obtain - := hSw
          go_simp
          (try with_reducible rfl)
        simp only [Act.put, List.setIfInBounds_toArray, List.set_cons_zero, List.set_cons_succ]
        refine take_at 9 (some 74) (v := ?vm9) rfl rfl (by kernel_rfl) (by kernel_rfl) (by kernel_rfl) (by rfl) ?ym9 hS ?tm9
        case ym9 =>
          intro w' hSw
          obtain ⟨⟨q0, q1, q2, q3, q4, q5⟩, -⟩ := CL.six (HB1.out.gr hSw)
          go_simp
          (try with_reducible rfl)
        simp only [Act.put, List.setIfInBounds_toArray, List.set_cons_zero, List.set_cons_succ]
        refine take_at 10 (some 75) (v := ?vm10) rfl rfl (by kernel_rfl) (by kernel_rfl) (by kernel_rfl) (by rfl) ?ym10 hS ?tm10
        case ym10 =>
          intro w' hSw
          obtain - := hSw
          go_simp
          (try with_reducible rfl)
        simp only [Act.put, List.setIfInBounds_toArray, List.set_cons_zero, List.set_cons_succ]
        refine take_at 11 (some 76) (v := ?vm11) rfl rfl (by kernel_rfl) (by kernel_rfl) (by kernel_rfl) (by rfl) ?ym11 hS ?tm11
        case ym11 =>
          intro w' hSw
          obtain - := hSw
          go_simp
          (try with_reducible rfl)
        simp only [Act.put, List.setIfInBounds_toArray, List.set_cons_zero, List.set_cons_succ]
        refine take_at 12 (some 77) (v := ?vm12) rfl rfl (by kernel_rfl) (by kernel_rfl) (by kernel_rfl) (by rfl) ?ym12 hS ?tm12
        case ym12 =>
          intro w' hSw
          obtain - := hSw
          go_simp
          (try with_reducible rfl)
        simp only [Act.put, List.setIfInBounds_toArray, List.set_cons_zero, List.set_cons_succ]
        refine take_at 13 (some 78) (v := ?vm13) rfl rfl (by kernel_rfl) (by kernel_rfl) (by kernel_rfl) (by rfl) ?ym13 hS ?tm13
        case ym13 =>
          intro w' hSw
          obtain - := hSw
          go_simp
          (try with_reducible rfl)
        simp only [Act.put, List.setIfInBounds_toArray, List.set_cons_zero, List.set_cons_succ]
        refine take_at 14 (some 79) (v := ?vm14) rfl rfl (by kernel_rfl) (by kernel_rfl) (by kernel_rfl) (by rfl) ?ym14 hS ?tm14
        case ym14 =>
          intro w' hSw
          obtain ⟨⟨q0, q1, q2, q3, q4, q5⟩, -⟩ := CL.six (HB2.out.gr hSw)
          go_simp
          (try with_reducible rfl)
        simp only [Act.put, List.setIfInBounds_toArray, List.set_cons_zero, List.set_cons_succ]
        refine take_at 15 (some 80) (v := ?vm15) rfl rfl (by kernel_rfl) (by kernel_rfl) (by kernel_rfl) (by rfl) ?ym15 hS ?tm15
        case ym15 =>
          intro w' hSw
          obtain - := hSw
          go_simp
          (try with_reducible rfl)
        simp only [Act.put, List.setIfInBounds_toArray, List.set_cons_zero, List.set_cons_succ]
        refine take_at 16 (some 81) (v := ?vm16) rfl rfl (by kernel_rfl) (by kernel_rfl) (by kernel_rfl) (by rfl) ?ym16 hS ?tm16
        case ym16 =>
          intro w' hSw
          obtain - := hSw
          go_simp
          (try with_reducible rfl)
        simp only [Act.put, List.setIfInBounds_toArray, List.set_cons_zero, List.set_cons_succ]
        refine take_at 17 (some 2) (v := ?vm17) rfl rfl (by kernel_rfl) (by kernel_rfl) (by kernel_rfl) (by rfl) ?ym17 hS ?tm17
        case ym17 =>
          intro w' hSw
          obtain - := hSw
          go_simp
          (try with_reducible rfl)
        simp only [Act.put, List.setIfInBounds_toArray, List.set_cons_zero, List.set_cons_succ]
        refine wpAnyH_done (by kernel_rfl) ?_ _
        refine qz_normal ?_
        go_wp2_with fail
        go_ret
        exact ⟨rfl, hG⟩
  · have d1 : ((x : Int) == 1) = false := by simpa using (by omega : ¬ (x : Int) = 1)
    clear hx1 hx2
    go_upto_region 8 with fail
    obtain ⟨⟨y0, y1, y2, y3, y4, y5⟩, -⟩ := CL.six hC
    obtain ⟨⟨x0, x1, x2, x3, x4, x5⟩, u0, u1, u2, u3, u4, u5⟩ := CL.six hQ
    go_upto_region 9 with fail
    clear y0 y1 y2 y3 y4 y5 x0 x1 x2 x3 x4 x5 u0 u1 u2 u3 u4 u5
    replace hQ := hQ.set 5 (.int .i64 P.ttl) (by simp)
    replace hC := hC.other (s := gq) (o := 5) (.int .i64 P.ttl) (by omega)
    replace hG := hG.setCell (p := ⟨gq, 5, none⟩) (by show w.heap.size ≤ gq; omega) (.int .i64 P.ttl)
    replace hc := hc.set gq 5 (by omega) (by omega) (.int .i64 P.ttl)
    simp only [List.set_cons_succ, List.set_cons_zero] at hQ
    generalize wn.setCell ⟨gq, 5, none⟩ (.int .i64 P.ttl) = w9 at hQ hC hG hc ⊢
    obtain ⟨Q, hQk, hQt, hQv⟩ : ∃ Q : Pr, Q.ok ∧ P.ttl = Q.ttl ∧ Q.vs = [.int .u32 Q0.src, .int .u32 Q0.dst, .int .i64 Q0.proto, .int .i64 Q0.flow, .int .i64 Q0.tag, .int .i64 P.ttl] := ⟨{ Q0 with ttl := P.ttl }, ⟨HQ0.out.src, HQ0.out.dst, HQ0.out.proto, HQ0.out.flow, HQ0.out.tag, HP.out.t0, HP.out.t1⟩, rfl, rfl⟩
    rw [← hQv] at hQ
    have HQ := Lib.hid hQk
    have HQT := Lib.hid hQt
    unfold Pr.vs at hQ
    clear hQk hQt hQv HQ0
    have HAp := Lib.hid (fun (w' : World) (h : Cod w.heap.size w' b) => answer_any b P w' h HP.out)
    have HAq := Lib.hid (fun (w' : World) (h : Cod w.heap.size w' b) => answer_any b Q w' h HQ.out)
    unfold Pr.v prV at HAp HAq
    obtain ⟨⟨y0, y1, y2, y3, y4, y5⟩, -⟩ := CL.six hC
    go_wp2_with fail
    refine (HAp.out _ hc).mono ?_
    rintro e wa1 ⟨v1, l1, rfl, hr, hca, hx, hcase⟩
    replace hC := hC.ex hx (by omega)
    replace hQ := hQ.ex hx (by omega)
    replace hG := Ex.gr hG hbw hx
    replace hc := hca
    obtain ⟨s1, d1, p1, f1, t1, r1, k1, o1, u1, j1, q1, E1, hrd⟩ := ans_read HP.out hcase
    have HR1 := Lib.hid hrd.2
    have HF1 := Lib.hid (hrd.1 wa1 v1 hr.any)
    obtain ⟨a1, c1, rfl, -, -⟩ := hr.form
    generalize l1.length = N1 at *
    clear y0 y1 y2 y3 y4 y5
    clear hrd hcase hr hca hx
    go_wp2_with fail
    refine HF1.out.mono ?_
    rintro e wb1 ⟨rfl, hg⟩
    replace hC := hC.gr hg
    replace hQ := hQ.gr hg
    replace hG := hG.step hg
    replace hc := hc.gr hg
    have hst1 := hg
    clear hg HF1
    have hA1 := (CL.new wb1 [.int .u32 s1, .int .u32 d1, .int .i64 p1, .int .i64 f1, .int .i64 t1, .int .i64 0] 29 _ rfl).gr (Gr.alloc (Gr.refl _) (.cells #[.int .u32 r1, .int .i64 k1, .int .i64 o1, .int .i64 u1, .int .i64 j1, .int .i64 q1] 39))
    have hB1 := CL.new (wb1.alloc (.cells #[.int .u32 s1, .int .u32 d1, .int .i64 p1, .int .i64 f1, .int .i64 t1, .int .i64 0] 29)) [.int .u32 r1, .int .i64 k1, .int .i64 o1, .int .i64 u1, .int .i64 j1, .int .i64 q1] 39 (wb1.heap.size + 1) (by simp)
    have hgn := ((Gr.refl wb1).alloc (.cells #[.int .u32 s1, .int .u32 d1, .int .i64 p1, .int .i64 f1, .int .i64 t1, .int .i64 0] 29)).alloc (.cells #[.int .u32 r1, .int .i64 k1, .int .i64 o1, .int .i64 u1, .int .i64 j1, .int .i64 q1] 39)
    simp only [List.toArray] at hA1 hB1
    have hlg1 := hC.lt
    go_upto_region 10 with fail
    generalize (wb1.alloc (.cells #[.int .u32 s1, .int .u32 d1, .int .i64 p1, .int .i64 f1, .int .i64 t1, .int .i64 0] 29)).alloc (.cells #[.int .u32 r1, .int .i64 k1, .int .i64 o1, .int .i64 u1, .int .i64 j1, .int .i64 q1] 39) = wc1 at hA1 hB1 hgn ⊢
    generalize hgb1 : wb1.heap.size + 1 = gb1 at hB1 ⊢
    generalize wb1.heap.size = ga1 at hA1 hgb1 hlg1 ⊢
    replace hC := hC.gr hgn
    replace hQ := hQ.gr hgn
    replace hG := hG.step hgn
    replace hc := hc.gr hgn
    replace hst1 := hst1.step hgn
    clear hgn HAp
    obtain ⟨⟨y0, y1, y2, y3, y4, y5⟩, -⟩ := CL.six hQ
    go_wp2_with fail
    refine (HAq.out _ hc).mono ?_
    rintro e wa2 ⟨v2, l2, rfl, hr, hca, hx, hcase⟩
    replace hC := hC.ex hx (by omega)
    replace hQ := hQ.ex hx (by omega)
    replace hG := Ex.gr hG hbw hx
    replace hc := hca
    obtain ⟨s2, d2, p2, f2, t2, r2, k2, o2, u2, j2, q2, E2, hrd⟩ := ans_read HQ.out hcase
    have HR2 := Lib.hid hrd.2
    have HF2 := Lib.hid (hrd.1 wa2 v2 hr.any)
    obtain ⟨a2, c2, rfl, -, -⟩ := hr.form
    generalize l2.length = N2 at *
    clear y0 y1 y2 y3 y4 y5
    replace hA1 := hA1.ex hx (by omega)
    replace hB1 := hB1.ex hx (by omega)
    clear hrd hcase hr hca hx
    go_wp2_with fail
    refine HF2.out.mono ?_
    rintro e wb2 ⟨rfl, hg⟩
    replace hC := hC.gr hg
    replace hQ := hQ.gr hg
    replace hG := hG.step hg
    replace hc := hc.gr hg
    have hst2 := hg
    clear hg HF2
    have hA2 := (CL.new wb2 [.int .u32 s2, .int .u32 d2, .int .i64 p2, .int .i64 f2, .int .i64 t2, .int .i64 0] 29 _ rfl).gr (Gr.alloc (Gr.refl _) (.cells #[.int .u32 r2, .int .i64 k2, .int .i64 o2, .int .i64 u2, .int .i64 j2, .int .i64 q2] 39))
    have hB2 := CL.new (wb2.alloc (.cells #[.int .u32 s2, .int .u32 d2, .int .i64 p2, .int .i64 f2, .int .i64 t2, .int .i64 0] 29)) [.int .u32 r2, .int .i64 k2, .int .i64 o2, .int .i64 u2, .int .i64 j2, .int .i64 q2] 39 (wb2.heap.size + 1) (by simp)
    have hgn := ((Gr.refl wb2).alloc (.cells #[.int .u32 s2, .int .u32 d2, .int .i64 p2, .int .i64 f2, .int .i64 t2, .int .i64 0] 29)).alloc (.cells #[.int .u32 r2, .int .i64 k2, .int .i64 o2, .int .i64 u2, .int .i64 j2, .int .i64 q2] 39)
    simp only [List.toArray] at hA2 hB2
    have hlg2 := hC.lt
    go_upto_region 11 with fail
    generalize (wb2.alloc (.cells #[.int .u32 s2, .int .u32 d2, .int .i64 p2, .int .i64 f2, .int .i64 t2, .int .i64 0] 29)).alloc (.cells #[.int .u32 r2, .int .i64 k2, .int .i64 o2, .int .i64 u2, .int .i64 j2, .int .i64 q2] 39) = wc2 at hA2 hB2 hgn ⊢
    generalize hgb2 : wb2.heap.size + 1 = gb2 at hB2 ⊢
    generalize wb2.heap.size = ga2 at hA2 hgb2 hlg2 ⊢
    replace hC := hC.gr hgn
    replace hQ := hQ.gr hgn
    replace hG := hG.step hgn
    replace hc := hc.gr hgn
    replace hst2 := hst2.step hgn
    replace hA1 := hA1.gr hst2
    replace hB1 := hB1.gr hst2
    clear hgn hst1 hst2 HAq
    rcases HR1.out with ⟨hu1, hE1⟩ | ⟨hu1, hE1, hk1, rfl, rfl, rfl, rfl, rfl⟩
    · have HU := Lib.hid (fun w => usable_any P.src w HP.out.src false ⟨fun h => Bool.noConfusion h, fun h => absurd h hu1⟩)
      subst hE1
      clear HR1 HR2 hu1 hA1 hA2 hB1 hB2
      obtain ⟨⟨y0, y1, y2, y3, y4, y5⟩, -⟩ := CL.six hC
      go_wp2_with fail
      refine (HU.out _).mono ?_
      rintro e wz ⟨rfl, hg⟩
      go_wp2_with fail
      go_ret
      exact ⟨rfl, hG.step hg⟩
    · have HU := Lib.hid (fun w => usable_any P.src w HP.out.src true ⟨fun _ => hu1, fun _ => rfl⟩)
      subst hE1
      rcases HR2.out with ⟨hu2, hE2⟩ | ⟨hu2, hE2, hk2, rfl, rfl, rfl, rfl, rfl⟩
      · have HV := Lib.hid (fun w => usable_any Q.src w HQ.out.src false ⟨fun h => Bool.noConfusion h, fun h => absurd h hu2⟩)
        subst hE2
        clear HR1 HR2 hu1 hu2 hA1 hA2 hB1 hB2
        obtain ⟨⟨y0, y1, y2, y3, y4, y5⟩, -⟩ := CL.six hC
        go_wp2_with fail
        refine (HU.out _).mono ?_
        rintro e wz ⟨rfl, hg⟩
        clear y0 y1 y2 y3 y4 y5
        replace hQ := hQ.gr hg
        obtain ⟨⟨y0, y1, y2, y3, y4, y5⟩, -⟩ := CL.six hQ
        go_wp2_with fail
        refine (HV.out _).mono ?_
        rintro e wy ⟨rfl, hg2⟩
        go_wp2_with fail
        go_ret
        exact ⟨rfl, (hG.step hg).step hg2⟩
      · subst hE2
        have dk1 : decide (0 < k1) = true := by simpa using hk1
        have dk2 : decide (0 < k2) = true := by simpa using hk2
        obtain ⟨c, hcc⟩ : ∃ c : Bool, c = true ↔ P = Q := by
          by_cases h : P = Q
          · exact ⟨true, by simp [h]⟩
          · exact ⟨false, by simp [h]⟩
        have HX := Lib.hid hcc
        clear HR1 HR2 hu1 hu2 hk1 hk2 HU hcc hc
        go_upto_region 13 with fail
        have HC := Lib.hid (hC.gr (Gr.drew (Gr.refl _)))
        have HQC := Lib.hid (hQ.gr (Gr.drew (Gr.refl _)))
        have HA1 := Lib.hid (hA1.gr (Gr.drew (Gr.refl _)))
        have HA2 := Lib.hid (hA2.gr (Gr.drew (Gr.refl _)))
        have HB1 := Lib.hid (hB1.gr (Gr.drew (Gr.refl _)))
        have HB2 := Lib.hid (hB2.gr (Gr.drew (Gr.refl _)))
        replace hG := hG.step (Gr.drew (Gr.refl _))
        clear hC hQ hA1 hA2 hB1 hB2
        refine region_plain (Gr wc2.drew) (by kernel_rfl) ?_
        generalize wc2.drew = wx at HC HQC HA1 HA2 HB1 HB2 hG ⊢
        have hS : Gr wx wx := Gr.refl _
        refine take_at 0 (some 65) (v := ?vn0) rfl rfl (by kernel_rfl) (by kernel_rfl) (by kernel_rfl) (by rfl) ?yn0 hS ?tn0
        case yn0 =>
          intro w' hSw
          obtain ⟨⟨q0, q1, q2, q3, q4, q5⟩, -⟩ := CL.six (HA1.out.gr hSw)
          go_simp
          (try with_reducible rfl)
        simp only [Act.put, List.setIfInBounds_toArray, List.set_cons_zero, List.set_cons_succ]
        refine take_at 1 (some 66) (v := ?vn1) rfl rfl (by kernel_rfl) (by kernel_rfl) (by kernel_rfl) (by rfl) ?yn1 hS ?tn1
        case yn1 =>
          intro w' hSw
          obtain ⟨⟨q0, q1, q2, q3, q4, q5⟩, -⟩ := CL.six (HA2.out.gr hSw)
          go_simp
          (try with_reducible rfl)
        simp only [Act.put, List.setIfInBounds_toArray, List.set_cons_zero, List.set_cons_succ]
        refine take_at 2 (some 67) (v := .bool c) rfl rfl (by kernel_rfl) (by kernel_rfl) (by kernel_rfl) (by rfl) ?yzn hS ?tzn
        case yzn =>
          intro w' hSw
          go_simp
          exact ite5 P Q HQT.out c HX.out (fun b => Result.ok (Next.value (.bool b)) w')
        simp only [Act.put, List.setIfInBounds_toArray, List.set_cons_zero, List.set_cons_succ]
        refine take_at 3 (some 68) (v := ?vn3) rfl rfl (by kernel_rfl) (by kernel_rfl) (by kernel_rfl) (by rfl) ?yn3 hS ?tn3
        case yn3 =>
          intro w' hSw
          obtain ⟨⟨q0, q1, q2, q3, q4, q5⟩, -⟩ := CL.six (HC.out.gr hSw)
          go_simp
          (try with_reducible rfl)
        simp only [Act.put, List.setIfInBounds_toArray, List.set_cons_zero, List.set_cons_succ]
        refine take_at 4 (some 69) (v := ?vn4) rfl rfl (by kernel_rfl) (by kernel_rfl) (by kernel_rfl) (by rfl) ?yn4 hS ?tn4
        case yn4 =>
          intro w' hSw
          obtain ⟨⟨q0, q1, q2, q3, q4, q5⟩, -⟩ := CL.six (HQC.out.gr hSw)
          go_simp
          (try with_reducible rfl)
        simp only [Act.put, List.setIfInBounds_toArray, List.set_cons_zero, List.set_cons_succ]
        refine take_at 5 (some 70) (v := .bool c) rfl rfl (by kernel_rfl) (by kernel_rfl) (by kernel_rfl) (by rfl) ?yyn hS ?tyn
        case yyn =>
          intro w' hSw
          go_simp
          exact ite6t P Q HQT.out c HX.out (fun b => Result.ok (Next.value (.bool b)) w')
        simp only [Act.put, List.setIfInBounds_toArray, List.set_cons_zero, List.set_cons_succ]
        refine take_at 6 (some 71) (v := .bool true) rfl rfl (by kernel_rfl) (by kernel_rfl) (by kernel_rfl) (by rfl) ?yxn hS ?txn
        case yxn =>
          intro w' hSw
          clear HX
          cases c <;> first | (go_simp; done) | (go_simp; rfl)
        simp only [Act.put, List.setIfInBounds_toArray, List.set_cons_zero, List.set_cons_succ]
        refine take_at 7 (some 72) (v := ?vn7) rfl rfl (by kernel_rfl) (by kernel_rfl) (by kernel_rfl) (by rfl) ?yn7 hS ?tn7
        case yn7 =>
          intro w' hSw
          obtain - := hSw
          go_simp
          (try with_reducible rfl)
        simp only [Act.put, List.setIfInBounds_toArray, List.set_cons_zero, List.set_cons_succ]
        refine take_at 8 (some 73) (v := ?vn8) rfl rfl (by kernel_rfl) (by kernel_rfl) (by kernel_rfl) (by rfl) ?yn8 hS ?tn8
        case yn8 =>
          intro w' hSw
          obtain - := hSw
          go_simp
          (try with_reducible rfl)
        simp only [Act.put, List.setIfInBounds_toArray, List.set_cons_zero, List.set_cons_succ]
        refine take_at 9 (some 74) (v := ?vn9) rfl rfl (by kernel_rfl) (by kernel_rfl) (by kernel_rfl) (by rfl) ?yn9 hS ?tn9
        case yn9 =>
          intro w' hSw
          obtain ⟨⟨q0, q1, q2, q3, q4, q5⟩, -⟩ := CL.six (HB1.out.gr hSw)
          go_simp
          (try with_reducible rfl)
        simp only [Act.put, List.setIfInBounds_toArray, List.set_cons_zero, List.set_cons_succ]
        refine take_at 10 (some 75) (v := ?vn10) rfl rfl (by kernel_rfl) (by kernel_rfl) (by kernel_rfl) (by rfl) ?yn10 hS ?tn10
        case yn10 =>
          intro w' hSw
          obtain - := hSw
          go_simp
          (try with_reducible rfl)
        simp only [Act.put, List.setIfInBounds_toArray, List.set_cons_zero, List.set_cons_succ]
        refine take_at 11 (some 76) (v := ?vn11) rfl rfl (by kernel_rfl) (by kernel_rfl) (by kernel_rfl) (by rfl) ?yn11 hS ?tn11
        case yn11 =>
          intro w' hSw
          obtain - := hSw
          go_simp
          (try with_reducible rfl)
        simp only [Act.put, List.setIfInBounds_toArray, List.set_cons_zero, List.set_cons_succ]
        refine take_at 12 (some 77) (v := ?vn12) rfl rfl (by kernel_rfl) (by kernel_rfl) (by kernel_rfl) (by rfl) ?yn12 hS ?tn12
        case yn12 =>
          intro w' hSw
          obtain - := hSw
          go_simp
          (try with_reducible rfl)
        simp only [Act.put, List.setIfInBounds_toArray, List.set_cons_zero, List.set_cons_succ]
        refine take_at 13 (some 78) (v := ?vn13) rfl rfl (by kernel_rfl) (by kernel_rfl) (by kernel_rfl) (by rfl) ?yn13 hS ?tn13
        case yn13 =>
          intro w' hSw
          obtain - := hSw
          go_simp
          (try with_reducible rfl)
        simp only [Act.put, List.setIfInBounds_toArray, List.set_cons_zero, List.set_cons_succ]
        refine take_at 14 (some 79) (v := ?vn14) rfl rfl (by kernel_rfl) (by kernel_rfl) (by kernel_rfl) (by rfl) ?yn14 hS ?tn14
        case yn14 =>
          intro w' hSw
          obtain ⟨⟨q0, q1, q2, q3, q4, q5⟩, -⟩ := CL.six (HB2.out.gr hSw)
          go_simp
          (try with_reducible rfl)
        simp only [Act.put, List.setIfInBounds_toArray, List.set_cons_zero, List.set_cons_succ]
        refine take_at 15 (some 80) (v := ?vn15) rfl rfl (by kernel_rfl) (by kernel_rfl) (by kernel_rfl) (by rfl) ?yn15 hS ?tn15
        case yn15 =>
          intro w' hSw
          obtain - := hSw
          go_simp
          (try with_reducible rfl)
        simp only [Act.put, List.setIfInBounds_toArray, List.set_cons_zero, List.set_cons_succ]
        refine take_at 16 (some 81) (v := ?vn16) rfl rfl (by kernel_rfl) (by kernel_rfl) (by kernel_rfl) (by rfl) ?yn16 hS ?tn16
        case yn16 =>
          intro w' hSw
          obtain - := hSw
          go_simp
          (try with_reducible rfl)
        simp only [Act.put, List.setIfInBounds_toArray, List.set_cons_zero, List.set_cons_succ]
        refine take_at 17 (some 2) (v := ?vn17) rfl rfl (by kernel_rfl) (by kernel_rfl) (by kernel_rfl) (by rfl) ?yn17 hS ?tn17
        case yn17 =>
          intro w' hSw
          obtain - := hSw
          go_simp
          (try with_reducible rfl)
        simp only [Act.put, List.setIfInBounds_toArray, List.set_cons_zero, List.set_cons_succ]
        refine wpAnyH_done (by kernel_rfl) ?_ _
        refine qz_normal ?_
        go_wp2_with fail
        go_ret
        exact ⟨rfl, hG⟩
end Go.Proofs.YtkpejaiigopmgaaGreatDoor
