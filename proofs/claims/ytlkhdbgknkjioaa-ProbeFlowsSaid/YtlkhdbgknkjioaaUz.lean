/- The walk of the statement on flows. -/
import Derived.Test.YtlkhdbgknkjioaaUw
import Derived.WalkKit
import Derived.WalkSpells
import Derived.WalkLawsBesides
import Derived.WalkSmall
import Derived.Handy
import Derived.BigQuiet
import Derived.Deep.QuietTactic
import Derived.Deep.RegionHeld3
import Derived.Deep.DeepFit
import Derived.Below
import Derived.Lib.Hide
import Derived.Lib.QuietBelow
namespace Go.Proofs.Ytlkhdbgknkjioaa
open Go Go.RowKit Go.Sort
set_option maxRecDepth 100000
set_option linter.unusedVariables false
set_option linter.unusedSimpArgs false
set_option linter.unusedVariables false
theorem flow_keys (P : Pr) (f : Nat) (c : Bool) (hc : ((f : Int) == (P.flow : Int)) = c) : c = true ↔ (({ P with flow := f } : Pr).a : Int) = P.a ∧ (({ P with flow := f } : Pr).b : Int) = P.b := by
  rw [← hc, beq_iff_eq]
  unfold Pr.a Pr.b
  simp only
  by_cases h1 : P.proto = 1
  · rw [if_pos h1, if_pos h1, if_pos h1, if_pos h1]; omega
  · rw [if_neg h1, if_neg h1, if_neg h1, if_neg h1]; omega
theorem ite2 {α : Type} (a b a' b' : Int) (c : Bool) (hc : c = true ↔ a = a' ∧ b = b') (f : Bool → α) : (if a = a' then if b = b' then f true else f false else f false) = f c := by
  cases c with
  | true => obtain ⟨h1, h2⟩ := hc.1 rfl; rw [if_pos h1, if_pos h2]
  | false =>
    have : ¬ (a = a' ∧ b = b') := fun h => by have := hc.2 h; simp at this
    split
    · split
      · exact absurd ⟨‹_›, ‹_›⟩ this
      · rfl
    · rfl
set_option maxHeartbeats 4000000 in
theorem flows_walk (sv : Value) (len tg tt fw : Nat) (w : World) (hl : len ≤ 9223372036854775807) (hb : BytesV w.heap.size w sv len) (htg : tg < 65536) (htt : tt < 256) (hfw : fw < 65536) :
    Calls Try.prog 7 #[sv, .int .u16 tg, .int .u8 tt, .int .u16 fw] w fun e w' => e = .returned (.bool true) ∧ Gr w w' := by
  obtain ⟨T, hT⟩ : ∃ T, T = tg % 65535 := ⟨_, rfl⟩
  obtain ⟨L0, hL0⟩ : ∃ L0, L0 = tt % 255 := ⟨_, rfl⟩
  obtain ⟨L, hL⟩ : ∃ L, L = 1 + L0 := ⟨_, rfl⟩
  obtain ⟨F, hF⟩ : ∃ F, F = fw % 1024 := ⟨_, rfl⟩
  have eT : (tg : Int) % 65535 = (T : Int) := by omega
  have eL0 : (tt : Int) % 255 = (L0 : Int) := by omega
  have eL : (1 : Int) + (L0 : Int) = (L : Int) := by omega
  have eF : (fw : Int) % 1024 = (F : Int) := by omega
  have wT : IntKind.i64.wrap (T : Int) = (T : Int) := by rw [IntWalk.i64_in _ (by omega)]
  have wL0 : IntKind.i64.wrap (L0 : Int) = (L0 : Int) := by rw [IntWalk.i64_in _ (by omega)]
  have wL : IntKind.i64.wrap (L : Int) = (L : Int) := by rw [IntWalk.i64_in _ (by omega)]
  have wF : IntKind.i64.wrap (F : Int) = (F : Int) := by rw [IntWalk.i64_in _ (by omega)]
  have w1' : IntKind.i64.wrap (tg : Int) = (tg : Int) := by rw [IntWalk.i64_in _ (by omega)]
  have w2' : IntKind.i64.wrap (tt : Int) = (tt : Int) := by rw [IntWalk.i64_in _ (by omega)]
  have w3' : IntKind.i64.wrap (fw : Int) = (fw : Int) := by rw [IntWalk.i64_in _ (by omega)]
  have HT := Lib.hid (show T ≤ 65534 ∧ 1 ≤ L ∧ L ≤ 255 ∧ F ≤ 1023 by omega)
  clear hT hL0 hL hF htg htt hfw
  have HB := Lib.hid hb
  clear hb
  go_enter Try.func7, Try.ntmps7
  go_wp2_with fail
  refine (pawake_any _).mono ?_
  rintro e w1 ⟨rfl, hg⟩
  go_wp2_with fail
  refine (new_any sv len 80 _ (by omega) hl (HB.out.gr hg)).mono ?_
  rintro e w2 ⟨b, rfl, hbe, hc, hg2⟩
  have hbw : w.heap.size ≤ b := by have := Gr.size hg; omega
  have hG := hg.step hg2
  clear hbe hg2 hg HB hl
  go_wp2_with fail
  refine (right_any b _ hc).mono ?_
  rintro e w3 ⟨P, rfl, hP, hc', hx⟩
  replace hG := Ex.gr hG hbw hx
  replace hc := hc'
  clear hc' hx
  unfold Pr.v prV
  clear hc hbw
  have HP := Lib.hid hP
  have hQk : Pr.ok { P with tag := T, ttl := L } := ⟨hP.src, hP.dst, hP.proto, hP.flow, HT.out.1, HT.out.2.1, HT.out.2.2.1⟩
  have hRk : Pr.ok { P with tag := T, ttl := L, flow := F } := ⟨hP.src, hP.dst, hP.proto, HT.out.2.2.2, HT.out.1, HT.out.2.1, HT.out.2.2.1⟩
  have KP := Lib.hid (fun w => pKeyOf_ok P hP w)
  have KQ := Lib.hid (fun w => pKeyOf_ok _ hQk w)
  have KR := Lib.hid (fun w => pKeyOf_ok _ hRk w)
  have BQ := Lib.hid (fun w => pbuild_ok _ hQk w)
  have KY := Lib.hid (fun (v : Value) (w : World) (hv : Rb (fun _ => True) w v (Pr.pk { P with tag := T, ttl := L })) => pKey_ok w hv (by have := (Pr.pk_len hQk).2; omega) (Pr.pk_dc hQk).1)
  rw [(Pr.pk_dc hQk).2.1, (Pr.pk_dc hQk).2.2] at KY
  rw [show kA (Pr.hd { P with tag := T, ttl := L }).proto (Pr.data { P with tag := T, ttl := L }) = P.a from (Pr.key_at hQk).1, show kB (Pr.hd { P with tag := T, ttl := L }).proto (Pr.data { P with tag := T, ttl := L }) = P.b from (Pr.key_at hQk).2] at KY
  rw [show Pr.a { P with tag := T, ttl := L } = P.a from rfl, show Pr.b { P with tag := T, ttl := L } = P.b from rfl] at KQ
  rw [show Pr.a { P with tag := T, ttl := L, flow := F } = Pr.a { P with flow := F } from rfl, show Pr.b { P with tag := T, ttl := L, flow := F } = Pr.b { P with flow := F } from rfl] at KR
  unfold Pr.v prV kyV at KP KQ KR
  unfold Pr.v prV at BQ
  unfold kyV Pr.hd at KY
  simp only at KQ KR BQ KY
  obtain ⟨c, hcc⟩ : ∃ c : Bool, ((F : Int) == (P.flow : Int)) = c := ⟨_, rfl⟩
  have HX := Lib.hid (flow_keys P F c hcc)
  have HFF := Lib.hid hcc
  generalize Pr.a { P with flow := F } = A2 at *
  generalize Pr.b { P with flow := F } = B2 at *
  generalize P.a = A at *
  generalize P.b = B at *
  have HL := Lib.hid (Pr.pk_len hQk)
  generalize Pr.pk { P with tag := T, ttl := L } = LQ at *
  clear hP hQk hRk hcc
  have hC := CL.new w3 [.int .u32 P.src, .int .u32 P.dst, .int .i64 P.proto, .int .i64 P.flow, .int .i64 P.tag, .int .i64 P.ttl] 65 _ rfl
  have hgn := Gr.alloc (Gr.refl w3) (.cells #[.int .u32 P.src, .int .u32 P.dst, .int .i64 P.proto, .int .i64 P.flow, .int .i64 P.tag, .int .i64 P.ttl] 65)
  have lgp : w.heap.size ≤ w3.heap.size := Gr.size hG
  simp only [List.toArray] at hC
  go_upto_region 4 with fail
  generalize w3.alloc (.cells #[.int .u32 P.src, .int .u32 P.dst, .int .i64 P.proto, .int .i64 P.flow, .int .i64 P.tag, .int .i64 P.ttl] 65) = w4 at hC hgn ⊢
  generalize w3.heap.size = gp at hC lgp  ⊢
  replace hG := hG.step hgn
  clear hgn
  obtain ⟨⟨y0, y1, y2, y3, y4, y5⟩, -⟩ := CL.six hC
  have hQ := CL.new w4 [.int .u32 P.src, .int .u32 P.dst, .int .i64 P.proto, .int .i64 P.flow, .int .i64 P.tag, .int .i64 P.ttl] 65 _ rfl
  have hgn := Gr.alloc (Gr.refl w4) (.cells #[.int .u32 P.src, .int .u32 P.dst, .int .i64 P.proto, .int .i64 P.flow, .int .i64 P.tag, .int .i64 P.ttl] 65)
  have lgq : w.heap.size ≤ w4.heap.size := Gr.size hG
  have ngqgp : gp < w4.heap.size := hC.lt
  simp only [List.toArray] at hQ
  go_upto_region 5 with fail
  generalize w4.alloc (.cells #[.int .u32 P.src, .int .u32 P.dst, .int .i64 P.proto, .int .i64 P.flow, .int .i64 P.tag, .int .i64 P.ttl] 65) = w5 at hQ hgn ⊢
  generalize w4.heap.size = gq at hQ lgq ngqgp ⊢
  replace hC := hC.gr hgn
  replace hG := hG.step hgn
  clear hgn
  clear y0 y1 y2 y3 y4 y5
  obtain ⟨⟨y0, y1, y2, y3, y4, y5⟩, u0, u1, u2, u3, u4, u5⟩ := CL.six hQ
  go_upto_region 6 with fail
  clear y0 y1 y2 y3 y4 y5 u0 u1 u2 u3 u4 u5
  replace hC := hC.other (s := gq) (o := 4) (.int .i64 T) (by omega)
  replace hQ := hQ.set 4 (.int .i64 T) (by simp)
  replace hG := hG.setCell (p := ⟨gq, 4, none⟩) (by show w.heap.size ≤ gq; omega) (.int .i64 T)
  replace hC := hC.other (s := gq) (o := 5) (.int .i64 L) (by omega)
  replace hQ := hQ.set 5 (.int .i64 L) (by simp)
  replace hG := hG.setCell (p := ⟨gq, 5, none⟩) (by show w.heap.size ≤ gq; omega) (.int .i64 L)
  simp only [List.set_cons_succ, List.set_cons_zero] at hQ
  generalize (w5.setCell ⟨gq, 4, none⟩ (.int .i64 T)).setCell ⟨gq, 5, none⟩ (.int .i64 L) = w6 at hC hQ hG ⊢
  obtain ⟨⟨y0, y1, y2, y3, y4, y5⟩, -⟩ := CL.six hQ
  have hR := CL.new w6 [.int .u32 P.src, .int .u32 P.dst, .int .i64 P.proto, .int .i64 P.flow, .int .i64 T, .int .i64 L] 65 _ rfl
  have hgn := Gr.alloc (Gr.refl w6) (.cells #[.int .u32 P.src, .int .u32 P.dst, .int .i64 P.proto, .int .i64 P.flow, .int .i64 T, .int .i64 L] 65)
  have lgr : w.heap.size ≤ w6.heap.size := Gr.size hG
  have ngrgp : gp < w6.heap.size := hC.lt
  have ngrgq : gq < w6.heap.size := hQ.lt
  simp only [List.toArray] at hR
  go_upto_region 7 with fail
  generalize w6.alloc (.cells #[.int .u32 P.src, .int .u32 P.dst, .int .i64 P.proto, .int .i64 P.flow, .int .i64 T, .int .i64 L] 65) = w7 at hR hgn ⊢
  generalize w6.heap.size = gr at hR lgr ngrgp ngrgq ⊢
  replace hC := hC.gr hgn
  replace hQ := hQ.gr hgn
  replace hG := hG.step hgn
  clear hgn
  clear y0 y1 y2 y3 y4 y5
  obtain ⟨⟨y0, y1, y2, y3, y4, y5⟩, u0, u1, u2, u3, u4, u5⟩ := CL.six hR
  go_upto_region 8 with fail
  clear y0 y1 y2 y3 y4 y5 u0 u1 u2 u3 u4 u5
  replace hC := hC.other (s := gr) (o := 3) (.int .i64 F) (by omega)
  replace hQ := hQ.other (s := gr) (o := 3) (.int .i64 F) (by omega)
  replace hR := hR.set 3 (.int .i64 F) (by simp)
  replace hG := hG.setCell (p := ⟨gr, 3, none⟩) (by show w.heap.size ≤ gr; omega) (.int .i64 F)
  simp only [List.set_cons_succ, List.set_cons_zero] at hR
  generalize w7.setCell ⟨gr, 3, none⟩ (.int .i64 F) = w8 at hC hQ hR hG ⊢
  clear eT eL0 eL eF wT wL0 wL wF w1' w2' w3'
  obtain ⟨⟨y0, y1, y2, y3, y4, y5⟩, -⟩ := CL.six hC
  go_wp2_with fail
  refine (KP.out _).mono ?_
  rintro e wa ⟨rfl, hg⟩
  clear y0 y1 y2 y3 y4 y5
  replace hC := hC.gr hg
  replace hQ := hQ.gr hg
  replace hR := hR.gr hg
  replace hG := hG.step hg
  clear hg
  have hA := CL.new wa [.int .u32 P.src, .int .u32 P.dst, .int .i64 P.proto, .int .i64 A, .int .i64 B] 70 _ rfl
  have hgn := Gr.alloc (Gr.refl wa) (.cells #[.int .u32 P.src, .int .u32 P.dst, .int .i64 P.proto, .int .i64 A, .int .i64 B] 70)
  have lga : w.heap.size ≤ wa.heap.size := Gr.size hG
  have ngagp : gp < wa.heap.size := hC.lt
  have ngagq : gq < wa.heap.size := hQ.lt
  have ngagr : gr < wa.heap.size := hR.lt
  simp only [List.toArray] at hA
  go_upto_region 9 with fail
  generalize wa.alloc (.cells #[.int .u32 P.src, .int .u32 P.dst, .int .i64 P.proto, .int .i64 A, .int .i64 B] 70) = wb at hA hgn ⊢
  generalize wa.heap.size = ga at hA lga ngagp ngagq ngagr ⊢
  replace hC := hC.gr hgn
  replace hQ := hQ.gr hgn
  replace hR := hR.gr hgn
  replace hG := hG.step hgn
  clear hgn
  obtain ⟨⟨y0, y1, y2, y3, y4, y5⟩, -⟩ := CL.six hQ
  go_wp2_with fail
  refine (KQ.out _).mono ?_
  rintro e wc ⟨rfl, hg⟩
  clear y0 y1 y2 y3 y4 y5
  replace hC := hC.gr hg
  replace hQ := hQ.gr hg
  replace hR := hR.gr hg
  replace hA := hA.gr hg
  replace hG := hG.step hg
  clear hg
  have hB := CL.new wc [.int .u32 P.src, .int .u32 P.dst, .int .i64 P.proto, .int .i64 A, .int .i64 B] 70 _ rfl
  have hgn := Gr.alloc (Gr.refl wc) (.cells #[.int .u32 P.src, .int .u32 P.dst, .int .i64 P.proto, .int .i64 A, .int .i64 B] 70)
  have lgb : w.heap.size ≤ wc.heap.size := Gr.size hG
  have ngbgp : gp < wc.heap.size := hC.lt
  have ngbgq : gq < wc.heap.size := hQ.lt
  have ngbgr : gr < wc.heap.size := hR.lt
  have ngbga : ga < wc.heap.size := hA.lt
  simp only [List.toArray] at hB
  go_upto_region 10 with fail
  generalize wc.alloc (.cells #[.int .u32 P.src, .int .u32 P.dst, .int .i64 P.proto, .int .i64 A, .int .i64 B] 70) = wd at hB hgn ⊢
  generalize wc.heap.size = gb at hB lgb ngbgp ngbgq ngbgr ngbga ⊢
  replace hC := hC.gr hgn
  replace hQ := hQ.gr hgn
  replace hR := hR.gr hgn
  replace hA := hA.gr hgn
  replace hG := hG.step hgn
  clear hgn
  obtain ⟨⟨y0, y1, y2, y3, y4, y5⟩, -⟩ := CL.six hQ
  go_wp2_with fail
  refine (BQ.out _).mono ?_
  rintro e we ⟨v5, rfl, ho, hg⟩
  clear y0 y1 y2 y3 y4 y5
  replace hC := hC.gr hg
  replace hQ := hQ.gr hg
  replace hR := hR.gr hg
  replace hA := hA.gr hg
  replace hB := hB.gr hg
  replace hG := hG.step hg
  clear hg
  have HV := Lib.hid (KY.out _ _ ho.rb.any)
  obtain ⟨a5, c5, rfl, -, -⟩ := ho.rb.any.form
  generalize LQ.length = K5 at *
  clear ho KY BQ
  go_wp2_with fail
  refine HV.out.mono ?_
  rintro e wf ⟨rfl, hg⟩
  replace hC := hC.gr hg
  replace hQ := hQ.gr hg
  replace hR := hR.gr hg
  replace hA := hA.gr hg
  replace hB := hB.gr hg
  replace hG := hG.step hg
  clear hg
  have hY := CL.new wf [.int .u32 P.src, .int .u32 P.dst, .int .i64 P.proto, .int .i64 A, .int .i64 B] 70 _ rfl
  have hgn := Gr.alloc (Gr.refl wf) (.cells #[.int .u32 P.src, .int .u32 P.dst, .int .i64 P.proto, .int .i64 A, .int .i64 B] 70)
  have lgy : w.heap.size ≤ wf.heap.size := Gr.size hG
  have ngygp : gp < wf.heap.size := hC.lt
  have ngygq : gq < wf.heap.size := hQ.lt
  have ngygr : gr < wf.heap.size := hR.lt
  have ngyga : ga < wf.heap.size := hA.lt
  have ngygb : gb < wf.heap.size := hB.lt
  simp only [List.toArray] at hY
  go_upto_region 12 with fail
  generalize wf.alloc (.cells #[.int .u32 P.src, .int .u32 P.dst, .int .i64 P.proto, .int .i64 A, .int .i64 B] 70) = wg at hY hgn ⊢
  generalize wf.heap.size = gy at hY lgy ngygp ngygq ngygr ngyga ngygb ⊢
  replace hC := hC.gr hgn
  replace hQ := hQ.gr hgn
  replace hR := hR.gr hgn
  replace hA := hA.gr hgn
  replace hB := hB.gr hgn
  replace hG := hG.step hgn
  clear hgn
  obtain ⟨⟨y0, y1, y2, y3, y4, y5⟩, -⟩ := CL.six hR
  go_wp2_with fail
  refine (KR.out _).mono ?_
  rintro e wh ⟨rfl, hg⟩
  clear y0 y1 y2 y3 y4 y5
  replace hC := hC.gr hg
  replace hQ := hQ.gr hg
  replace hR := hR.gr hg
  replace hA := hA.gr hg
  replace hB := hB.gr hg
  replace hY := hY.gr hg
  replace hG := hG.step hg
  clear hg
  have hD := CL.new wh [.int .u32 P.src, .int .u32 P.dst, .int .i64 P.proto, .int .i64 A2, .int .i64 B2] 70 _ rfl
  have hgn := Gr.alloc (Gr.refl wh) (.cells #[.int .u32 P.src, .int .u32 P.dst, .int .i64 P.proto, .int .i64 A2, .int .i64 B2] 70)
  have lgd : w.heap.size ≤ wh.heap.size := Gr.size hG
  have ngdgp : gp < wh.heap.size := hC.lt
  have ngdgq : gq < wh.heap.size := hQ.lt
  have ngdgr : gr < wh.heap.size := hR.lt
  have ngdga : ga < wh.heap.size := hA.lt
  have ngdgb : gb < wh.heap.size := hB.lt
  have ngdgy : gy < wh.heap.size := hY.lt
  simp only [List.toArray] at hD
  go_upto_region 13 with fail
  generalize wh.alloc (.cells #[.int .u32 P.src, .int .u32 P.dst, .int .i64 P.proto, .int .i64 A2, .int .i64 B2] 70) = wi at hD hgn ⊢
  generalize wh.heap.size = gd at hD lgd ngdgp ngdgq ngdgr ngdga ngdgb ngdgy ⊢
  replace hC := hC.gr hgn
  replace hQ := hQ.gr hgn
  replace hR := hR.gr hgn
  replace hA := hA.gr hgn
  replace hB := hB.gr hgn
  replace hY := hY.gr hgn
  replace hG := hG.step hgn
  clear hgn
  have HCC := Lib.hid hC
  have HQC := Lib.hid hQ
  have HRC := Lib.hid hR
  have HAC := Lib.hid hA
  have HBC := Lib.hid hB
  have HYC := Lib.hid hY
  have HDC := Lib.hid hD
  clear hC hQ hR hA hB hY hD 
  have hS : Gr wi wi.drew := Gr.drew (Gr.refl _)
  refine region_plain (Gr wi) (by kernel_rfl) ?_
  generalize wi.drew = wj at hS ⊢
  refine take_at 0 (some 67) (v := ?vf0) rfl rfl (by kernel_rfl) (by kernel_rfl) (by kernel_rfl) (by rfl) ?yf0 hS ?tf0
  case yf0 =>
    intro w' hSw
    obtain - := hSw
    go_simp
    (try with_reducible rfl)
  simp only [Act.put, List.setIfInBounds_toArray, List.set_cons_zero, List.set_cons_succ]
  refine take_at 1 (some 68) (v := ?vf1) rfl rfl (by kernel_rfl) (by kernel_rfl) (by kernel_rfl) (by rfl) ?yf1 hS ?tf1
  case yf1 =>
    intro w' hSw
    obtain - := hSw
    go_simp
    (try with_reducible rfl)
  simp only [Act.put, List.setIfInBounds_toArray, List.set_cons_zero, List.set_cons_succ]
  refine take_at 2 (some 69) (v := ?vf2) rfl rfl (by kernel_rfl) (by kernel_rfl) (by kernel_rfl) (by rfl) ?yf2 hS ?tf2
  case yf2 =>
    intro w' hSw
    obtain - := hSw
    go_simp
    (try with_reducible rfl)
  simp only [Act.put, List.setIfInBounds_toArray, List.set_cons_zero, List.set_cons_succ]
  refine take_at 3 (some 70) (v := ?vf3) rfl rfl (by kernel_rfl) (by kernel_rfl) (by kernel_rfl) (by rfl) ?yf3 hS ?tf3
  case yf3 =>
    intro w' hSw
    obtain - := hSw
    go_simp
    (try with_reducible rfl)
  simp only [Act.put, List.setIfInBounds_toArray, List.set_cons_zero, List.set_cons_succ]
  refine take_at 4 (some 71) (v := ?vf4) rfl rfl (by kernel_rfl) (by kernel_rfl) (by kernel_rfl) (by rfl) ?yf4 hS ?tf4
  case yf4 =>
    intro w' hSw
    obtain - := hSw
    go_simp
    (try with_reducible rfl)
  simp only [Act.put, List.setIfInBounds_toArray, List.set_cons_zero, List.set_cons_succ]
  refine take_at 5 (some 72) (v := ?vf5) rfl rfl (by kernel_rfl) (by kernel_rfl) (by kernel_rfl) (by rfl) ?yf5 hS ?tf5
  case yf5 =>
    intro w' hSw
    obtain - := hSw
    go_simp
    (try with_reducible rfl)
  simp only [Act.put, List.setIfInBounds_toArray, List.set_cons_zero, List.set_cons_succ]
  refine take_at 6 (some 73) (v := ?vf6) rfl rfl (by kernel_rfl) (by kernel_rfl) (by kernel_rfl) (by rfl) ?yf6 hS ?tf6
  case yf6 =>
    intro w' hSw
    obtain - := hSw
    go_simp
    (try with_reducible rfl)
  simp only [Act.put, List.setIfInBounds_toArray, List.set_cons_zero, List.set_cons_succ]
  refine take_at 7 (some 74) (v := ?vf7) rfl rfl (by kernel_rfl) (by kernel_rfl) (by kernel_rfl) (by rfl) ?yf7 hS ?tf7
  case yf7 =>
    intro w' hSw
    obtain - := hSw
    go_simp
    (try with_reducible rfl)
  simp only [Act.put, List.setIfInBounds_toArray, List.set_cons_zero, List.set_cons_succ]
  refine take_at 8 (some 75) (v := ?vf8) rfl rfl (by kernel_rfl) (by kernel_rfl) (by kernel_rfl) (by rfl) ?yf8 hS ?tf8
  case yf8 =>
    intro w' hSw
    obtain - := hSw
    go_simp
    (try with_reducible rfl)
  simp only [Act.put, List.setIfInBounds_toArray, List.set_cons_zero, List.set_cons_succ]
  refine take_at 9 (some 76) (v := ?vf9) rfl rfl (by kernel_rfl) (by kernel_rfl) (by kernel_rfl) (by rfl) ?yf9 hS ?tf9
  case yf9 =>
    intro w' hSw
    obtain - := hSw
    go_simp
    (try with_reducible rfl)
  simp only [Act.put, List.setIfInBounds_toArray, List.set_cons_zero, List.set_cons_succ]
  refine take_at 10 (some 77) (v := ?vf10) rfl rfl (by kernel_rfl) (by kernel_rfl) (by kernel_rfl) (by rfl) ?yf10 hS ?tf10
  case yf10 =>
    intro w' hSw
    obtain - := hSw
    go_simp
    (try with_reducible rfl)
  simp only [Act.put, List.setIfInBounds_toArray, List.set_cons_zero, List.set_cons_succ]
  refine take_at 11 (some 78) (v := ?vf11) rfl rfl (by kernel_rfl) (by kernel_rfl) (by kernel_rfl) (by rfl) ?yf11 hS ?tf11
  case yf11 =>
    intro w' hSw
    obtain - := hSw
    go_simp
    (try with_reducible rfl)
  simp only [Act.put, List.setIfInBounds_toArray, List.set_cons_zero, List.set_cons_succ]
  refine take_at 12 (some 79) (v := ?vf12) rfl rfl (by kernel_rfl) (by kernel_rfl) (by kernel_rfl) (by rfl) ?yf12 hS ?tf12
  case yf12 =>
    intro w' hSw
    obtain - := hSw
    go_simp
    (try with_reducible rfl)
  simp only [Act.put, List.setIfInBounds_toArray, List.set_cons_zero, List.set_cons_succ]
  refine take_at 13 (some 80) (v := ?vf13) rfl rfl (by kernel_rfl) (by kernel_rfl) (by kernel_rfl) (by rfl) ?yf13 hS ?tf13
  case yf13 =>
    intro w' hSw
    obtain - := hSw
    go_simp
    (try with_reducible rfl)
  simp only [Act.put, List.setIfInBounds_toArray, List.set_cons_zero, List.set_cons_succ]
  refine take_at 14 (some 81) (v := ?vf14) rfl rfl (by kernel_rfl) (by kernel_rfl) (by kernel_rfl) (by rfl) ?yf14 hS ?tf14
  case yf14 =>
    intro w' hSw
    obtain - := hSw
    go_simp
    (try with_reducible rfl)
  simp only [Act.put, List.setIfInBounds_toArray, List.set_cons_zero, List.set_cons_succ]
  refine take_at 15 (some 82) (v := ?vf15) rfl rfl (by kernel_rfl) (by kernel_rfl) (by kernel_rfl) (by rfl) ?yf15 hS ?tf15
  case yf15 =>
    intro w' hSw
    obtain ⟨⟨q0, q1, q2, q3, q4⟩, -⟩ := CL.five (HAC.out.gr hSw)
    go_simp
    (try with_reducible rfl)
  simp only [Act.put, List.setIfInBounds_toArray, List.set_cons_zero, List.set_cons_succ]
  refine take_at 16 (some 83) (v := ?vf16) rfl rfl (by kernel_rfl) (by kernel_rfl) (by kernel_rfl) (by rfl) ?yf16 hS ?tf16
  case yf16 =>
    intro w' hSw
    obtain ⟨⟨q0, q1, q2, q3, q4⟩, -⟩ := CL.five (HBC.out.gr hSw)
    go_simp
    (try with_reducible rfl)
  simp only [Act.put, List.setIfInBounds_toArray, List.set_cons_zero, List.set_cons_succ]
  refine take_at 17 (some 84) (v := ?vf17) rfl rfl (by kernel_rfl) (by kernel_rfl) (by kernel_rfl) (by rfl) ?yf17 hS ?tf17
  case yf17 =>
    intro w' hSw
    obtain - := hSw
    go_simp
    (try with_reducible rfl)
  simp only [Act.put, List.setIfInBounds_toArray, List.set_cons_zero, List.set_cons_succ]
  refine take_at 18 (some 85) (v := ?vf18) rfl rfl (by kernel_rfl) (by kernel_rfl) (by kernel_rfl) (by rfl) ?yf18 hS ?tf18
  case yf18 =>
    intro w' hSw
    obtain - := hSw
    go_simp
    (try with_reducible rfl)
  simp only [Act.put, List.setIfInBounds_toArray, List.set_cons_zero, List.set_cons_succ]
  refine take_at 19 (some 86) (v := ?vf19) rfl rfl (by kernel_rfl) (by kernel_rfl) (by kernel_rfl) (by rfl) ?yf19 hS ?tf19
  case yf19 =>
    intro w' hSw
    obtain - := hSw
    go_simp
    (try with_reducible rfl)
  simp only [Act.put, List.setIfInBounds_toArray, List.set_cons_zero, List.set_cons_succ]
  refine take_at 20 (some 87) (v := ?vf20) rfl rfl (by kernel_rfl) (by kernel_rfl) (by kernel_rfl) (by rfl) ?yf20 hS ?tf20
  case yf20 =>
    intro w' hSw
    obtain ⟨⟨q0, q1, q2, q3, q4⟩, -⟩ := CL.five (HBC.out.gr hSw)
    go_simp
    (try with_reducible rfl)
  simp only [Act.put, List.setIfInBounds_toArray, List.set_cons_zero, List.set_cons_succ]
  refine take_at 21 (some 88) (v := ?vf21) rfl rfl (by kernel_rfl) (by kernel_rfl) (by kernel_rfl) (by rfl) ?yf21 hS ?tf21
  case yf21 =>
    intro w' hSw
    obtain ⟨⟨q0, q1, q2, q3, q4⟩, -⟩ := CL.five (HYC.out.gr hSw)
    go_simp
    (try with_reducible rfl)
  simp only [Act.put, List.setIfInBounds_toArray, List.set_cons_zero, List.set_cons_succ]
  refine take_at 22 (some 89) (v := ?vf22) rfl rfl (by kernel_rfl) (by kernel_rfl) (by kernel_rfl) (by rfl) ?yf22 hS ?tf22
  case yf22 =>
    intro w' hSw
    obtain - := hSw
    go_simp
    (try with_reducible rfl)
  simp only [Act.put, List.setIfInBounds_toArray, List.set_cons_zero, List.set_cons_succ]
  refine take_at 23 (some 90) (v := ?vf23) rfl rfl (by kernel_rfl) (by kernel_rfl) (by kernel_rfl) (by rfl) ?yf23 hS ?tf23
  case yf23 =>
    intro w' hSw
    obtain - := hSw
    go_simp
    (try with_reducible rfl)
  simp only [Act.put, List.setIfInBounds_toArray, List.set_cons_zero, List.set_cons_succ]
  refine take_at 24 (some 91) (v := ?vf24) rfl rfl (by kernel_rfl) (by kernel_rfl) (by kernel_rfl) (by rfl) ?yf24 hS ?tf24
  case yf24 =>
    intro w' hSw
    obtain - := hSw
    go_simp
    (try with_reducible rfl)
  simp only [Act.put, List.setIfInBounds_toArray, List.set_cons_zero, List.set_cons_succ]
  refine take_at 25 (some 92) (v := ?vf25) rfl rfl (by kernel_rfl) (by kernel_rfl) (by kernel_rfl) (by rfl) ?yf25 hS ?tf25
  case yf25 =>
    intro w' hSw
    obtain ⟨⟨q0, q1, q2, q3, q4⟩, -⟩ := CL.five (HDC.out.gr hSw)
    go_simp
    (try with_reducible rfl)
  simp only [Act.put, List.setIfInBounds_toArray, List.set_cons_zero, List.set_cons_succ]
  refine take_at 26 (some 93) (v := ?vf26) rfl rfl (by kernel_rfl) (by kernel_rfl) (by kernel_rfl) (by rfl) ?yf26 hS ?tf26
  case yf26 =>
    intro w' hSw
    obtain ⟨⟨q0, q1, q2, q3, q4⟩, -⟩ := CL.five (HBC.out.gr hSw)
    go_simp
    (try with_reducible rfl)
  simp only [Act.put, List.setIfInBounds_toArray, List.set_cons_zero, List.set_cons_succ]
  refine take_at 27 (some 94) (v := .bool c) rfl rfl (by kernel_rfl) (by kernel_rfl) (by kernel_rfl) (by rfl) ?y27 hS ?t27
  case y27 =>
    intro w' hSw
    go_simp
    exact ite2 _ _ _ _ c HX.out (fun b => Result.ok (Next.value (.bool b)) w')
  simp only [Act.put, List.setIfInBounds_toArray, List.set_cons_zero, List.set_cons_succ]
  refine take_at 28 (some 95) (v := ?vf28) rfl rfl (by kernel_rfl) (by kernel_rfl) (by kernel_rfl) (by rfl) ?yf28 hS ?tf28
  case yf28 =>
    intro w' hSw
    obtain - := hSw
    go_simp
    (try with_reducible rfl)
  simp only [Act.put, List.setIfInBounds_toArray, List.set_cons_zero, List.set_cons_succ]
  refine take_at 29 (some 96) (v := ?vf29) rfl rfl (by kernel_rfl) (by kernel_rfl) (by kernel_rfl) (by rfl) ?yf29 hS ?tf29
  case yf29 =>
    intro w' hSw
    obtain ⟨⟨q0, q1, q2, q3, q4, q5⟩, -⟩ := CL.six (HRC.out.gr hSw)
    go_simp
    (try with_reducible rfl)
  simp only [Act.put, List.setIfInBounds_toArray, List.set_cons_zero, List.set_cons_succ]
  refine take_at 30 (some 97) (v := ?vf30) rfl rfl (by kernel_rfl) (by kernel_rfl) (by kernel_rfl) (by rfl) ?yf30 hS ?tf30
  case yf30 =>
    intro w' hSw
    obtain - := hSw
    go_simp
    (try with_reducible rfl)
  simp only [Act.put, List.setIfInBounds_toArray, List.set_cons_zero, List.set_cons_succ]
  refine take_at 31 (some 98) (v := ?vf31) rfl rfl (by kernel_rfl) (by kernel_rfl) (by kernel_rfl) (by rfl) ?yf31 hS ?tf31
  case yf31 =>
    intro w' hSw
    obtain ⟨⟨q0, q1, q2, q3, q4, q5⟩, -⟩ := CL.six (HQC.out.gr hSw)
    go_simp
    (try with_reducible rfl)
  simp only [Act.put, List.setIfInBounds_toArray, List.set_cons_zero, List.set_cons_succ]
  refine take_at 32 (some 99) (v := .bool c) rfl rfl (by kernel_rfl) (by kernel_rfl) (by kernel_rfl) (by rfl) ?y32 hS ?t32
  case y32 =>
    intro w' hSw
    go_simp
    (try rw [HFF.out])
  simp only [Act.put, List.setIfInBounds_toArray, List.set_cons_zero, List.set_cons_succ]
  refine take_at 33 (some 100) (v := ?vf33) rfl rfl (by kernel_rfl) (by kernel_rfl) (by kernel_rfl) (by rfl) ?yf33 hS ?tf33
  case yf33 =>
    intro w' hSw
    obtain - := hSw
    go_simp
    (try with_reducible rfl)
  simp only [Act.put, List.setIfInBounds_toArray, List.set_cons_zero, List.set_cons_succ]
  refine take_at 34 (some 101) (v := ?vf34) rfl rfl (by kernel_rfl) (by kernel_rfl) (by kernel_rfl) (by rfl) ?yf34 hS ?tf34
  case yf34 =>
    intro w' hSw
    obtain - := hSw
    go_simp
    (try with_reducible rfl)
  simp only [Act.put, List.setIfInBounds_toArray, List.set_cons_zero, List.set_cons_succ]
  refine take_at 35 (some 102) (v := ?vf35) rfl rfl (by kernel_rfl) (by kernel_rfl) (by kernel_rfl) (by rfl) ?yf35 hS ?tf35
  case yf35 =>
    intro w' hSw
    obtain - := hSw
    go_simp
    (try with_reducible rfl)
  simp only [Act.put, List.setIfInBounds_toArray, List.set_cons_zero, List.set_cons_succ]
  refine take_at 36 (some 103) (v := ?vf36) rfl rfl (by kernel_rfl) (by kernel_rfl) (by kernel_rfl) (by rfl) ?yf36 hS ?tf36
  case yf36 =>
    intro w' hSw
    obtain - := hSw
    go_simp
    (try with_reducible rfl)
  simp only [Act.put, List.setIfInBounds_toArray, List.set_cons_zero, List.set_cons_succ]
  refine take_at 37 (some 104) (v := ?vf37) rfl rfl (by kernel_rfl) (by kernel_rfl) (by kernel_rfl) (by rfl) ?yf37 hS ?tf37
  case yf37 =>
    intro w' hSw
    obtain ⟨⟨q0, q1, q2, q3, q4⟩, -⟩ := CL.five (HAC.out.gr hSw)
    go_simp
    (try with_reducible rfl)
  simp only [Act.put, List.setIfInBounds_toArray, List.set_cons_zero, List.set_cons_succ]
  refine take_at 38 (some 105) (v := ?vf38) rfl rfl (by kernel_rfl) (by kernel_rfl) (by kernel_rfl) (by rfl) ?yf38 hS ?tf38
  case yf38 =>
    intro w' hSw
    obtain - := hSw
    go_simp
    (try with_reducible rfl)
  simp only [Act.put, List.setIfInBounds_toArray, List.set_cons_zero, List.set_cons_succ]
  refine take_at 39 (some 106) (v := ?vf39) rfl rfl (by kernel_rfl) (by kernel_rfl) (by kernel_rfl) (by rfl) ?yf39 hS ?tf39
  case yf39 =>
    intro w' hSw
    obtain ⟨⟨q0, q1, q2, q3, q4, q5⟩, -⟩ := CL.six (HCC.out.gr hSw)
    go_simp
    (try with_reducible rfl)
  simp only [Act.put, List.setIfInBounds_toArray, List.set_cons_zero, List.set_cons_succ]
  refine take_at 40 (some 107) (v := ?vf40) rfl rfl (by kernel_rfl) (by kernel_rfl) (by kernel_rfl) (by rfl) ?yf40 hS ?tf40
  case yf40 =>
    intro w' hSw
    obtain - := hSw
    go_simp
    (try with_reducible rfl)
  simp only [Act.put, List.setIfInBounds_toArray, List.set_cons_zero, List.set_cons_succ]
  refine take_at 41 (some 108) (v := ?vf41) rfl rfl (by kernel_rfl) (by kernel_rfl) (by kernel_rfl) (by rfl) ?yf41 hS ?tf41
  case yf41 =>
    intro w' hSw
    obtain - := hSw
    go_simp
    (try with_reducible rfl)
  simp only [Act.put, List.setIfInBounds_toArray, List.set_cons_zero, List.set_cons_succ]
  refine take_at 42 (some 109) (v := ?vf42) rfl rfl (by kernel_rfl) (by kernel_rfl) (by kernel_rfl) (by rfl) ?yf42 hS ?tf42
  case yf42 =>
    intro w' hSw
    obtain - := hSw
    go_simp
    (try with_reducible rfl)
  simp only [Act.put, List.setIfInBounds_toArray, List.set_cons_zero, List.set_cons_succ]
  refine take_at 43 (some 110) (v := ?vf43) rfl rfl (by kernel_rfl) (by kernel_rfl) (by kernel_rfl) (by rfl) ?yf43 hS ?tf43
  case yf43 =>
    intro w' hSw
    obtain - := hSw
    go_simp
    (try with_reducible rfl)
  simp only [Act.put, List.setIfInBounds_toArray, List.set_cons_zero, List.set_cons_succ]
  refine take_at 44 (some 111) (v := ?vf44) rfl rfl (by kernel_rfl) (by kernel_rfl) (by kernel_rfl) (by rfl) ?yf44 hS ?tf44
  case yf44 =>
    intro w' hSw
    obtain ⟨⟨q0, q1, q2, q3, q4⟩, -⟩ := CL.five (HAC.out.gr hSw)
    go_simp
    (try with_reducible rfl)
  simp only [Act.put, List.setIfInBounds_toArray, List.set_cons_zero, List.set_cons_succ]
  refine take_at 45 (some 112) (v := ?vf45) rfl rfl (by kernel_rfl) (by kernel_rfl) (by kernel_rfl) (by rfl) ?yf45 hS ?tf45
  case yf45 =>
    intro w' hSw
    obtain - := hSw
    go_simp
    (try with_reducible rfl)
  simp only [Act.put, List.setIfInBounds_toArray, List.set_cons_zero, List.set_cons_succ]
  refine take_at 46 (some 113) (v := ?vf46) rfl rfl (by kernel_rfl) (by kernel_rfl) (by kernel_rfl) (by rfl) ?yf46 hS ?tf46
  case yf46 =>
    intro w' hSw
    obtain ⟨⟨q0, q1, q2, q3, q4, q5⟩, -⟩ := CL.six (HCC.out.gr hSw)
    go_simp
    (try with_reducible rfl)
  simp only [Act.put, List.setIfInBounds_toArray, List.set_cons_zero, List.set_cons_succ]
  refine take_at 47 (some 114) (v := ?vf47) rfl rfl (by kernel_rfl) (by kernel_rfl) (by kernel_rfl) (by rfl) ?yf47 hS ?tf47
  case yf47 =>
    intro w' hSw
    obtain - := hSw
    go_simp
    (try with_reducible rfl)
  simp only [Act.put, List.setIfInBounds_toArray, List.set_cons_zero, List.set_cons_succ]
  refine take_at 48 (some 115) (v := ?vf48) rfl rfl (by kernel_rfl) (by kernel_rfl) (by kernel_rfl) (by rfl) ?yf48 hS ?tf48
  case yf48 =>
    intro w' hSw
    obtain - := hSw
    go_simp
    (try with_reducible rfl)
  simp only [Act.put, List.setIfInBounds_toArray, List.set_cons_zero, List.set_cons_succ]
  refine take_at 49 (some 116) (v := ?vf49) rfl rfl (by kernel_rfl) (by kernel_rfl) (by kernel_rfl) (by rfl) ?yf49 hS ?tf49
  case yf49 =>
    intro w' hSw
    obtain - := hSw
    go_simp
    (try with_reducible rfl)
  simp only [Act.put, List.setIfInBounds_toArray, List.set_cons_zero, List.set_cons_succ]
  refine take_at 50 (some 117) (v := ?vf50) rfl rfl (by kernel_rfl) (by kernel_rfl) (by kernel_rfl) (by rfl) ?yf50 hS ?tf50
  case yf50 =>
    intro w' hSw
    obtain - := hSw
    go_simp
    (try with_reducible rfl)
  simp only [Act.put, List.setIfInBounds_toArray, List.set_cons_zero, List.set_cons_succ]
  refine take_at 51 (some 118) (v := ?vf51) rfl rfl (by kernel_rfl) (by kernel_rfl) (by kernel_rfl) (by rfl) ?yf51 hS ?tf51
  case yf51 =>
    intro w' hSw
    obtain ⟨⟨q0, q1, q2, q3, q4⟩, -⟩ := CL.five (HAC.out.gr hSw)
    go_simp
    (try with_reducible rfl)
  simp only [Act.put, List.setIfInBounds_toArray, List.set_cons_zero, List.set_cons_succ]
  refine take_at 52 (some 119) (v := ?vf52) rfl rfl (by kernel_rfl) (by kernel_rfl) (by kernel_rfl) (by rfl) ?yf52 hS ?tf52
  case yf52 =>
    intro w' hSw
    obtain - := hSw
    go_simp
    (try with_reducible rfl)
  simp only [Act.put, List.setIfInBounds_toArray, List.set_cons_zero, List.set_cons_succ]
  refine take_at 53 (some 120) (v := ?vf53) rfl rfl (by kernel_rfl) (by kernel_rfl) (by kernel_rfl) (by rfl) ?yf53 hS ?tf53
  case yf53 =>
    intro w' hSw
    obtain ⟨⟨q0, q1, q2, q3, q4, q5⟩, -⟩ := CL.six (HCC.out.gr hSw)
    go_simp
    (try with_reducible rfl)
  simp only [Act.put, List.setIfInBounds_toArray, List.set_cons_zero, List.set_cons_succ]
  refine take_at 54 (some 121) (v := ?vf54) rfl rfl (by kernel_rfl) (by kernel_rfl) (by kernel_rfl) (by rfl) ?yf54 hS ?tf54
  case yf54 =>
    intro w' hSw
    obtain - := hSw
    go_simp
    (try with_reducible rfl)
  simp only [Act.put, List.setIfInBounds_toArray, List.set_cons_zero, List.set_cons_succ]
  refine take_at 55 (some 122) (v := ?vf55) rfl rfl (by kernel_rfl) (by kernel_rfl) (by kernel_rfl) (by rfl) ?yf55 hS ?tf55
  case yf55 =>
    intro w' hSw
    obtain - := hSw
    go_simp
    (try with_reducible rfl)
  simp only [Act.put, List.setIfInBounds_toArray, List.set_cons_zero, List.set_cons_succ]
  refine next_at 56 rfl (by kernel_rfl) (by rfl) (fun K hK => ?_)
  go_simp
  refine hK _ _ hS ?_
  clear hK K
  refine wpAnyH_done (by kernel_rfl) ?_ _
  refine qz_normal ?_
  have hz := hG.step hS
  go_wp2_with fail
  go_ret
  exact ⟨rfl, hz⟩
end Go.Proofs.Ytlkhdbgknkjioaa
