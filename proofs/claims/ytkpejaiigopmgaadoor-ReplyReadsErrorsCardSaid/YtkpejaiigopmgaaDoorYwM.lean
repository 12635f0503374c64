/- The walk of the statement on errors that are read back. -/
import Derived.Test.YtkpejaiigopmgaaDoorYvM
import Derived.WalkKit
import Derived.WalkSpells
import Derived.WalkLawsBesides
import Derived.WalkSmall
import Derived.Handy
import Derived.BigQuiet
import Derived.Deep.QuietTactic
import Derived.Deep.RegionHeld3
import Derived.Deep.DeepFit
import Derived.Below
import Derived.Lib.Hide
import Derived.Lib.QuietBelow
namespace Go.Proofs.YtkpejaiigopmgaaDoor
open Go Go.RowKit Go.Sort
set_option maxRecDepth 100000
set_option linter.unusedVariables false
set_option linter.unusedSimpArgs false
set_option maxHeartbeats 4000000 in
theorem errors_walk (sv : Value) (len frm id left c : Nat) (w : World) (hl : len ≤ 9223372036854775807) (hb : BytesV w.heap.size w sv len) (ht : SpTab w) (hf : frm < 4294967296) (hi : id < 65536) (hle' : left < 256) (hcc : c < 256) :
    Calls Tryd.prog 3 #[sv, .int .u32 frm, .int .u16 id, .int .u8 left, .int .u8 c] w fun e w' => e = .returned (.bool true) ∧ Gr w w' := by
  have HT := Lib.hid ht
  have ec : IntKind.i64.wrap (c : Int) = (c : Int) := by rw [IntWalk.i64_in _ (by omega)]
  have el : IntKind.i64.wrap (left : Int) = (left : Int) := by rw [IntWalk.i64_in _ (by omega)]
  have ei : IntKind.i64.wrap (id : Int) = (id : Int) := by rw [IntWalk.i64_in _ (by omega)]
  have HI := Lib.hid hi
  have HL := Lib.hid hle'
  have HCC := Lib.hid hcc
  have HF := Lib.hid hf
  clear hi hle' hcc hf
  have HB := Lib.hid hb
  clear hb
  go_enter Tryd.func3, Tryd.ntmps3
  go_wp2_with fail
  refine (awake_any _ ht).mono ?_
  rintro e w1 ⟨rfl, hg⟩
  go_wp2_with fail
  refine (new_any sv len 80 _ (by omega) hl (HB.out.gr hg)).mono ?_
  rintro e w2 ⟨b, rfl, hbe, hc, hg2⟩
  have hbw : w.heap.size ≤ b := by have := Gr.size hg; omega
  have hG := hg.step hg2
  clear hbe hg2 hg HB hl
  go_wp2_with fail
  refine (right_any b _ hc).mono ?_
  rintro e w3 ⟨P, rfl, hP, hc', hx⟩
  replace hG := Ex.gr hG hbw hx
  replace hc := hc'
  clear hc' hx
  unfold Pr.v prV
  clear ht
  have hC := CL.new w3 P.vs 30 _ rfl
  have hgn := Gr.alloc (Gr.refl w3) (.cells P.vs.toArray 30)
  unfold Pr.vs at hC hgn
  simp only [List.toArray] at hC hgn
  have HBd := Lib.hid (fun w => pbuild_ok P hP w)
  unfold Pr.v prV at HBd
  have HP := Lib.hid hP
  clear hP
  go_upto_region 5 with fail
  have hle : w.heap.size ≤ w3.heap.size := Gr.size hG
  have hbl := hc.lt
  generalize w3.alloc (.cells #[.int .u32 P.src, .int .u32 P.dst, .int .i64 P.proto, .int .i64 P.flow, .int .i64 P.tag, .int .i64 P.ttl] 30) = w4 at hC hgn ⊢
  generalize w3.heap.size = gp at hC hle hbl ⊢
  replace hG := hG.step hgn
  replace hc := hc.gr hgn
  clear hgn
  obtain ⟨⟨y0, y1, y2, y3, y4, y5⟩, -⟩ := CL.six hC
  go_wp2_with fail
  refine (HBd.out _).mono ?_
  rintro e w5 ⟨v5, rfl, ho, hg⟩
  have hl4 := hC.lt
  clear y0 y1 y2 y3 y4 y5
  replace hC := hC.gr hg
  replace hc := hc.gr hg
  replace hG := hG.step hg
  have hgb : b < gp := by omega
  have hv := ho.rb.imp (q := fun k => k ≠ b) (fun k _ hk => by omega)
  obtain ⟨a5, c5, rfl, -, -⟩ := ho.rb.any.form
  obtain ⟨N5, hN5⟩ : ∃ N, N = P.pk.length := ⟨_, rfl⟩
  rw [← hN5]
  have hv : Rb (fun k => k ≠ b) w5 (.slice a5 N5 c5) P.pk := by rw [hN5]; exact hv
  have hN := CL.new w5 [.int .i64 11, .int .i64 3] 3 _ rfl
  have hgn := Gr.alloc (Gr.refl w5) (.cells #[.int .i64 11, .int .i64 3] 3)
  simp only [List.toArray] at hN hgn
  have hnb : w5.heap.size ≠ b := by have := hC.lt; omega
  replace hv := hv.gr hgn
  replace hC := hC.gr hgn
  replace hc := hc.gr hgn
  replace hG := hG.step hgn
  clear ho hg hN5 hgn
  go_wp2_with fail
  generalize w5.alloc (.cells #[.int .i64 11, .int .i64 3] 3) = w6 at hN hv hC hc hG ⊢
  generalize w5.heap.size = gs at hN hnb ⊢
  refine (next_nat b 2 _ (by omega) (by omega) hc).mono ?_
  rintro e w7 ⟨y, rfl, hy, -, hx⟩
  replace hv := (hv.ex hx (fun k hk => hk)).any
  replace hN := hN.ex hx hnb
  replace hC := hC.ex hx (by omega)
  replace hG := Ex.gr hG hbw hx
  clear hx hc hnb hgb
  have HA := Lib.hid (show (ans 1 id left frm P.src).ok from ans_ok (by decide) (by have := HI.out; omega) (by have := HL.out; omega) HF.out HP.out.src)
  have hN0 := (hN.at' 0 _ rfl).1
  have hN1 := (hN.at' 1 _ rfl).1
  have hy' : y = 0 ∨ y = 1 := by omega
  clear hN hy HBd
  by_cases hu : usb P.src
  · rcases hy' with rfl | rfl
    · skip
      have HEr := Lib.hid (show Calls Tryd.prog 10 #[.slice a5 N5 c5, .int .u32 frm, .int .i64 11, .int .i64 c, .int .i64 id, .int .i64 left] w7 fun e w'' => ∃ v', e = .returned (.tuple #[v', .int .i64 0]) ∧ OwB w7.heap.size w'' v' (errL P frm 11 c id left) ∧ Gr w7 w'' from
        rerr_ok (h := P.hd) (d := P.data) frm 11 c id left w7 (Pr.hd_ok HP.out) hv (by have := (Pr.data_at HP.out).2.1; omega) (by have := (Pr.data_at HP.out).1; omega) (HT.out.gr hG) hu (Pr.answ HP.out) HA.out (.inr rfl) HCC.out)
      have HU := Lib.hid (fun w => usable_any P.src w HP.out.src true ⟨fun _ => hu, fun _ => rfl⟩)
      clear hu hv
      go_wp2_with fail
      refine HEr.out.mono ?_
      rintro e w8 ⟨v8, rfl, ho, hg⟩
      replace hC := hC.gr hg
      replace hG := hG.step hg
      clear hg HEr
      have HRd := Lib.hid (fun (w' : World) (g : Gr w8 w') => (show Calls Tryd.prog 12 #[v8] w' fun e w'' => e = .returned (.tuple #[.agg #[.int .u32 P.src, .int .u32 P.dst, .int .i64 P.proto, .int .i64 P.flow, .int .i64 P.tag, .int .i64 0], .agg #[.int .u32 frm, .int .i64 1, .int .i64 c, .int .i64 left, .int .i64 id, .int .i64 P.ttl], .int .i64 0]) ∧ Gr w' w'' from
        read_note (ans 1 id left frm P.src) P 11 c w' HA.out HP.out rfl rfl (ho.rb.any.gr g) (.inr rfl) HCC.out 1 rfl))
      obtain ⟨a8, c8, rfl, -, -⟩ := ho.rb.form
      generalize (errL P frm 11 c id left).length = N8 at *
      clear ho
      obtain ⟨⟨y0, y1, y2, y3, y4, y5⟩, -⟩ := CL.six hC
      go_wp2_with fail
      refine (HU.out _).mono ?_
      rintro e w9 ⟨rfl, hgU⟩
      clear y0 y1 y2 y3 y4 y5
      replace hC := hC.gr hgU
      replace hG := hG.step hgU
      go_wp2_with fail
      refine (HRd.out _ hgU).mono ?_
      rintro e w7 ⟨rfl, hg⟩
      replace hC := hC.gr hg
      replace hG := hG.step hg
      clear hg
      have hlp := hC.lt
      obtain ⟨⟨y0, y1, y2, y3, y4, y5⟩, u0, u1, u2, u3, u4, u5⟩ := CL.six hC
      have hA1 := CL.new w7 [.int .u32 P.src, .int .u32 P.dst, .int .i64 P.proto, .int .i64 P.flow, .int .i64 P.tag, .int .i64 0] 30 _ rfl
      have hg1 := Gr.alloc (Gr.refl w7) (.cells #[.int .u32 P.src, .int .u32 P.dst, .int .i64 P.proto, .int .i64 P.flow, .int .i64 P.tag, .int .i64 0] 30)
      have hA2 := CL.new (w7.alloc (.cells #[.int .u32 P.src, .int .u32 P.dst, .int .i64 P.proto, .int .i64 P.flow, .int .i64 P.tag, .int .i64 0] 30)) [.int .u32 frm, .int .i64 1, .int .i64 c, .int .i64 left, .int .i64 id, .int .i64 P.ttl] 40 (w7.heap.size + 1) (by simp)
      have hg2 := Gr.alloc (Gr.refl (w7.alloc (.cells #[.int .u32 P.src, .int .u32 P.dst, .int .i64 P.proto, .int .i64 P.flow, .int .i64 P.tag, .int .i64 0] 30))) (.cells #[.int .u32 frm, .int .i64 1, .int .i64 c, .int .i64 left, .int .i64 id, .int .i64 P.ttl] 40)
      simp only [List.toArray] at hA1 hA2
      replace hA1 := hA1.gr hg2
      replace hC := (hC.gr hg1).gr hg2
      replace hG := (hG.step hg1).step hg2
      go_upto_region 11 with fail
      clear y0 y1 y2 y3 y4 y5 u0 u1 u2 u3 u4 u5
      generalize (w7.alloc (.cells #[.int .u32 P.src, .int .u32 P.dst, .int .i64 P.proto, .int .i64 P.flow, .int .i64 P.tag, .int .i64 0] 30)).alloc (.cells #[.int .u32 frm, .int .i64 1, .int .i64 c, .int .i64 left, .int .i64 id, .int .i64 P.ttl] 40) = w8 at hA1 hA2 hC hG ⊢
      generalize w7.heap.size = gq at hA1 hA2 hlp ⊢
      generalize hga : gq + 1 = ga at hA2 ⊢
      obtain ⟨⟨y0, y1, y2, y3, y4, y5⟩, u0, u1, u2, u3, u4, u5⟩ := CL.six hC
      go_upto_region 13 with fail
      clear y0 y1 y2 y3 y4 y5 u0 u1 u2 u3 u4 u5 hg1 hg2
      replace hC := hC.set 5 (.int .i64 0) (by simp)
      replace hA1 := hA1.other (s := gp) (o := 5) (.int .i64 0) (by omega)
      replace hA2 := hA2.other (s := gp) (o := 5) (.int .i64 0) (by omega)
      replace hG := hG.setCell (p := ⟨gp, 5, none⟩) hle (.int .i64 0)
      simp only [List.set_cons_succ, List.set_cons_zero] at hC
      generalize w8.setCell ⟨gp, 5, none⟩ (.int .i64 0) = w9 at hA1 hA2 hC hG ⊢
      obtain ⟨⟨y0, y1, y2, y3, y4, y5⟩, -⟩ := CL.six hC
      obtain ⟨⟨x0, x1, x2, x3, x4, x5⟩, -⟩ := CL.six hA1
      obtain ⟨⟨z0, z1, z2, z3, z4, z5⟩, -⟩ := CL.six hA2
      go_wp2_with fail
      go_ret
      exact ⟨rfl, hG⟩
    · by_cases h3 : c = 3
      · have d3 : ((c : Int) == 3) = true := by rw [h3]; rfl
        have HK3 := Lib.hid h3
        clear h3
        have HEr := Lib.hid (show Calls Tryd.prog 10 #[.slice a5 N5 c5, .int .u32 frm, .int .i64 3, .int .i64 c, .int .i64 id, .int .i64 left] w7 fun e w'' => ∃ v', e = .returned (.tuple #[v', .int .i64 0]) ∧ OwB w7.heap.size w'' v' (errL P frm 3 c id left) ∧ Gr w7 w'' from
          rerr_ok (h := P.hd) (d := P.data) frm 3 c id left w7 (Pr.hd_ok HP.out) hv (by have := (Pr.data_at HP.out).2.1; omega) (by have := (Pr.data_at HP.out).1; omega) (HT.out.gr hG) hu (Pr.answ HP.out) HA.out (.inl rfl) HCC.out)
        have HU := Lib.hid (fun w => usable_any P.src w HP.out.src true ⟨fun _ => hu, fun _ => rfl⟩)
        clear hu hv
        go_wp2_with fail
        refine HEr.out.mono ?_
        rintro e w8 ⟨v8, rfl, ho, hg⟩
        replace hC := hC.gr hg
        replace hG := hG.step hg
        clear hg HEr
        have HRd := Lib.hid (fun (w' : World) (g : Gr w8 w') => (show Calls Tryd.prog 12 #[v8] w' fun e w'' => e = .returned (.tuple #[.agg #[.int .u32 P.src, .int .u32 P.dst, .int .i64 P.proto, .int .i64 P.flow, .int .i64 P.tag, .int .i64 0], .agg #[.int .u32 frm, .int .i64 3, .int .i64 c, .int .i64 left, .int .i64 id, .int .i64 P.ttl], .int .i64 0]) ∧ Gr w' w'' from
          read_note (ans 1 id left frm P.src) P 3 c w' HA.out HP.out rfl rfl (ho.rb.any.gr g) (.inl rfl) HCC.out 3 (by rw [if_neg (by decide), if_pos HK3.out])))
        obtain ⟨a8, c8, rfl, -, -⟩ := ho.rb.form
        generalize (errL P frm 3 c id left).length = N8 at *
        clear ho
        obtain ⟨⟨y0, y1, y2, y3, y4, y5⟩, -⟩ := CL.six hC
        go_wp2_with fail
        refine (HU.out _).mono ?_
        rintro e w9 ⟨rfl, hgU⟩
        clear y0 y1 y2 y3 y4 y5
        replace hC := hC.gr hgU
        replace hG := hG.step hgU
        go_wp2_with fail
        refine (HRd.out _ hgU).mono ?_
        rintro e w7 ⟨rfl, hg⟩
        replace hC := hC.gr hg
        replace hG := hG.step hg
        clear hg
        have hlp := hC.lt
        obtain ⟨⟨y0, y1, y2, y3, y4, y5⟩, u0, u1, u2, u3, u4, u5⟩ := CL.six hC
        have hA1 := CL.new w7 [.int .u32 P.src, .int .u32 P.dst, .int .i64 P.proto, .int .i64 P.flow, .int .i64 P.tag, .int .i64 0] 30 _ rfl
        have hg1 := Gr.alloc (Gr.refl w7) (.cells #[.int .u32 P.src, .int .u32 P.dst, .int .i64 P.proto, .int .i64 P.flow, .int .i64 P.tag, .int .i64 0] 30)
        have hA2 := CL.new (w7.alloc (.cells #[.int .u32 P.src, .int .u32 P.dst, .int .i64 P.proto, .int .i64 P.flow, .int .i64 P.tag, .int .i64 0] 30)) [.int .u32 frm, .int .i64 3, .int .i64 c, .int .i64 left, .int .i64 id, .int .i64 P.ttl] 40 (w7.heap.size + 1) (by simp)
        have hg2 := Gr.alloc (Gr.refl (w7.alloc (.cells #[.int .u32 P.src, .int .u32 P.dst, .int .i64 P.proto, .int .i64 P.flow, .int .i64 P.tag, .int .i64 0] 30))) (.cells #[.int .u32 frm, .int .i64 3, .int .i64 c, .int .i64 left, .int .i64 id, .int .i64 P.ttl] 40)
        simp only [List.toArray] at hA1 hA2
        replace hA1 := hA1.gr hg2
        replace hC := (hC.gr hg1).gr hg2
        replace hG := (hG.step hg1).step hg2
        go_upto_region 11 with fail
        clear y0 y1 y2 y3 y4 y5 u0 u1 u2 u3 u4 u5
        generalize (w7.alloc (.cells #[.int .u32 P.src, .int .u32 P.dst, .int .i64 P.proto, .int .i64 P.flow, .int .i64 P.tag, .int .i64 0] 30)).alloc (.cells #[.int .u32 frm, .int .i64 3, .int .i64 c, .int .i64 left, .int .i64 id, .int .i64 P.ttl] 40) = w8 at hA1 hA2 hC hG ⊢
        generalize w7.heap.size = gq at hA1 hA2 hlp ⊢
        generalize hga : gq + 1 = ga at hA2 ⊢
        obtain ⟨⟨y0, y1, y2, y3, y4, y5⟩, u0, u1, u2, u3, u4, u5⟩ := CL.six hC
        go_upto_region 13 with fail
        clear y0 y1 y2 y3 y4 y5 u0 u1 u2 u3 u4 u5 hg1 hg2
        replace hC := hC.set 5 (.int .i64 0) (by simp)
        replace hA1 := hA1.other (s := gp) (o := 5) (.int .i64 0) (by omega)
        replace hA2 := hA2.other (s := gp) (o := 5) (.int .i64 0) (by omega)
        replace hG := hG.setCell (p := ⟨gp, 5, none⟩) hle (.int .i64 0)
        simp only [List.set_cons_succ, List.set_cons_zero] at hC
        generalize w8.setCell ⟨gp, 5, none⟩ (.int .i64 0) = w9 at hA1 hA2 hC hG ⊢
        obtain ⟨⟨y0, y1, y2, y3, y4, y5⟩, -⟩ := CL.six hC
        obtain ⟨⟨x0, x1, x2, x3, x4, x5⟩, -⟩ := CL.six hA1
        obtain ⟨⟨z0, z1, z2, z3, z4, z5⟩, -⟩ := CL.six hA2
        go_wp2_with fail
        go_ret
        exact ⟨rfl, hG⟩
      · have d3 : ((c : Int) == 3) = false := by rw [beq_eq_false_iff_ne]; omega
        have HK3 := Lib.hid h3
        clear h3
        have HEr := Lib.hid (show Calls Tryd.prog 10 #[.slice a5 N5 c5, .int .u32 frm, .int .i64 3, .int .i64 c, .int .i64 id, .int .i64 left] w7 fun e w'' => ∃ v', e = .returned (.tuple #[v', .int .i64 0]) ∧ OwB w7.heap.size w'' v' (errL P frm 3 c id left) ∧ Gr w7 w'' from
          rerr_ok (h := P.hd) (d := P.data) frm 3 c id left w7 (Pr.hd_ok HP.out) hv (by have := (Pr.data_at HP.out).2.1; omega) (by have := (Pr.data_at HP.out).1; omega) (HT.out.gr hG) hu (Pr.answ HP.out) HA.out (.inl rfl) HCC.out)
        have HU := Lib.hid (fun w => usable_any P.src w HP.out.src true ⟨fun _ => hu, fun _ => rfl⟩)
        clear hu hv
        go_wp2_with fail
        refine HEr.out.mono ?_
        rintro e w8 ⟨v8, rfl, ho, hg⟩
        replace hC := hC.gr hg
        replace hG := hG.step hg
        clear hg HEr
        have HRd := Lib.hid (fun (w' : World) (g : Gr w8 w') => (show Calls Tryd.prog 12 #[v8] w' fun e w'' => e = .returned (.tuple #[.agg #[.int .u32 P.src, .int .u32 P.dst, .int .i64 P.proto, .int .i64 P.flow, .int .i64 P.tag, .int .i64 0], .agg #[.int .u32 frm, .int .i64 5, .int .i64 c, .int .i64 left, .int .i64 id, .int .i64 P.ttl], .int .i64 0]) ∧ Gr w' w'' from
          read_note (ans 1 id left frm P.src) P 3 c w' HA.out HP.out rfl rfl (ho.rb.any.gr g) (.inl rfl) HCC.out 5 (by rw [if_neg (by decide), if_neg HK3.out])))
        obtain ⟨a8, c8, rfl, -, -⟩ := ho.rb.form
        generalize (errL P frm 3 c id left).length = N8 at *
        clear ho
        obtain ⟨⟨y0, y1, y2, y3, y4, y5⟩, -⟩ := CL.six hC
        go_wp2_with fail
        refine (HU.out _).mono ?_
        rintro e w9 ⟨rfl, hgU⟩
        clear y0 y1 y2 y3 y4 y5
        replace hC := hC.gr hgU
        replace hG := hG.step hgU
        go_wp2_with fail
        refine (HRd.out _ hgU).mono ?_
        rintro e w7 ⟨rfl, hg⟩
        replace hC := hC.gr hg
        replace hG := hG.step hg
        clear hg
        have hlp := hC.lt
        obtain ⟨⟨y0, y1, y2, y3, y4, y5⟩, u0, u1, u2, u3, u4, u5⟩ := CL.six hC
        have hA1 := CL.new w7 [.int .u32 P.src, .int .u32 P.dst, .int .i64 P.proto, .int .i64 P.flow, .int .i64 P.tag, .int .i64 0] 30 _ rfl
        have hg1 := Gr.alloc (Gr.refl w7) (.cells #[.int .u32 P.src, .int .u32 P.dst, .int .i64 P.proto, .int .i64 P.flow, .int .i64 P.tag, .int .i64 0] 30)
        have hA2 := CL.new (w7.alloc (.cells #[.int .u32 P.src, .int .u32 P.dst, .int .i64 P.proto, .int .i64 P.flow, .int .i64 P.tag, .int .i64 0] 30)) [.int .u32 frm, .int .i64 5, .int .i64 c, .int .i64 left, .int .i64 id, .int .i64 P.ttl] 40 (w7.heap.size + 1) (by simp)
        have hg2 := Gr.alloc (Gr.refl (w7.alloc (.cells #[.int .u32 P.src, .int .u32 P.dst, .int .i64 P.proto, .int .i64 P.flow, .int .i64 P.tag, .int .i64 0] 30))) (.cells #[.int .u32 frm, .int .i64 5, .int .i64 c, .int .i64 left, .int .i64 id, .int .i64 P.ttl] 40)
        simp only [List.toArray] at hA1 hA2
        replace hA1 := hA1.gr hg2
        replace hC := (hC.gr hg1).gr hg2
        replace hG := (hG.step hg1).step hg2
        go_upto_region 11 with fail
        clear y0 y1 y2 y3 y4 y5 u0 u1 u2 u3 u4 u5
        generalize (w7.alloc (.cells #[.int .u32 P.src, .int .u32 P.dst, .int .i64 P.proto, .int .i64 P.flow, .int .i64 P.tag, .int .i64 0] 30)).alloc (.cells #[.int .u32 frm, .int .i64 5, .int .i64 c, .int .i64 left, .int .i64 id, .int .i64 P.ttl] 40) = w8 at hA1 hA2 hC hG ⊢
        generalize w7.heap.size = gq at hA1 hA2 hlp ⊢
        generalize hga : gq + 1 = ga at hA2 ⊢
        obtain ⟨⟨y0, y1, y2, y3, y4, y5⟩, u0, u1, u2, u3, u4, u5⟩ := CL.six hC
        go_upto_region 13 with fail
        clear y0 y1 y2 y3 y4 y5 u0 u1 u2 u3 u4 u5 hg1 hg2
        replace hC := hC.set 5 (.int .i64 0) (by simp)
        replace hA1 := hA1.other (s := gp) (o := 5) (.int .i64 0) (by omega)
        replace hA2 := hA2.other (s := gp) (o := 5) (.int .i64 0) (by omega)
        replace hG := hG.setCell (p := ⟨gp, 5, none⟩) hle (.int .i64 0)
        simp only [List.set_cons_succ, List.set_cons_zero] at hC
        generalize w8.setCell ⟨gp, 5, none⟩ (.int .i64 0) = w9 at hA1 hA2 hC hG ⊢
        obtain ⟨⟨y0, y1, y2, y3, y4, y5⟩, -⟩ := CL.six hC
        obtain ⟨⟨x0, x1, x2, x3, x4, x5⟩, -⟩ := CL.six hA1
        obtain ⟨⟨z0, z1, z2, z3, z4, z5⟩, -⟩ := CL.six hA2
        go_wp2_with fail
        go_ret
        exact ⟨rfl, hG⟩
  · rcases hy' with rfl | rfl
    · skip
      have HNo := Lib.hid (show Calls Tryd.prog 10 #[.slice a5 N5 c5, .int .u32 frm, .int .i64 11, .int .i64 c, .int .i64 id, .int .i64 left] w7 fun e w'' => e = .returned (.tuple #[.slice none 0 0, .int .i64 17]) ∧ Gr w7 w'' from
        rerr_no frm 11 c id left 0 w7 hv (fun w' g => answ_no w' (Pr.hd_ok HP.out) (hv.gr g) (by have := (Pr.data_at HP.out).2.1; omega) (by have := (Pr.data_at HP.out).1; omega) ((HT.out.gr hG).gr g) (.inl hu)) (ans_ok (by decide) (by have := HI.out; omega) (by have := HL.out; omega) HF.out (by decide)) (.inr rfl) HCC.out)
      have HU := Lib.hid (fun w => usable_any P.src w HP.out.src false ⟨fun h => Bool.noConfusion h, fun h => absurd h hu⟩)
      clear hu hv
      go_wp2_with fail
      refine HNo.out.mono ?_
      rintro e w8 ⟨rfl, hg⟩
      replace hC := hC.gr hg
      replace hG := hG.step hg
      clear hg HNo
      obtain ⟨⟨y0, y1, y2, y3, y4, y5⟩, -⟩ := CL.six hC
      go_wp2_with fail
      refine (HU.out _).mono ?_
      rintro e w9 ⟨rfl, hg⟩
      go_wp2_with fail
      go_ret
      exact ⟨rfl, hG.step hg⟩
    · skip
      have HNo := Lib.hid (show Calls Tryd.prog 10 #[.slice a5 N5 c5, .int .u32 frm, .int .i64 3, .int .i64 c, .int .i64 id, .int .i64 left] w7 fun e w'' => e = .returned (.tuple #[.slice none 0 0, .int .i64 17]) ∧ Gr w7 w'' from
        rerr_no frm 3 c id left 0 w7 hv (fun w' g => answ_no w' (Pr.hd_ok HP.out) (hv.gr g) (by have := (Pr.data_at HP.out).2.1; omega) (by have := (Pr.data_at HP.out).1; omega) ((HT.out.gr hG).gr g) (.inl hu)) (ans_ok (by decide) (by have := HI.out; omega) (by have := HL.out; omega) HF.out (by decide)) (.inl rfl) HCC.out)
      have HU := Lib.hid (fun w => usable_any P.src w HP.out.src false ⟨fun h => Bool.noConfusion h, fun h => absurd h hu⟩)
      clear hu hv
      go_wp2_with fail
      refine HNo.out.mono ?_
      rintro e w8 ⟨rfl, hg⟩
      replace hC := hC.gr hg
      replace hG := hG.step hg
      clear hg HNo
      obtain ⟨⟨y0, y1, y2, y3, y4, y5⟩, -⟩ := CL.six hC
      go_wp2_with fail
      refine (HU.out _).mono ?_
      rintro e w9 ⟨rfl, hg⟩
      go_wp2_with fail
      go_ret
      exact ⟨rfl, hG.step hg⟩
end Go.Proofs.YtkpejaiigopmgaaDoor
