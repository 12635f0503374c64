/- Probes: Read. -/
import Derived.Test.YtlkhdbgknkjioaaUt
import Derived.WalkKit
import Derived.WalkSpells
import Derived.WalkLawsBesides
import Derived.WalkSmall
import Derived.Handy
import Derived.BigQuiet
import Derived.Deep.QuietTactic
import Derived.Deep.RegionHeld3
import Derived.Deep.DeepFit
import Derived.Below
import Derived.Lib.Hide
import Derived.Lib.QuietBelow
namespace Go.Proofs.Ytlkhdbgknkjioaa
open Go Go.RowKit Go.Sort
set_option maxRecDepth 100000
set_option linter.unusedVariables false
set_option linter.unusedSimpArgs false
def prZ : Value := prV 0 0 0 0 0 0
theorem pRead_err {p : Nat → Prop} {v : Value} {l : List Nat} (w : World) (hr : Rb p w v l) (hl : l.length ≤ 90000) (hn : dcE l ≠ 0) :
    Calls Try.prog 38 #[v] w fun e w' => e = .returned (.tuple #[prZ, .int .i64 17]) ∧ Gr w w' := by
  have HD := Lib.hid (fun w' (g : Gr w w') => decode_err w' (hr.gr g) hl hn)
  generalize dcE l = E at *
  have d1 : ((E : Int) != 0) = true := by rw [bne_iff_ne]; omega
  obtain ⟨av, cv, rfl, -, -⟩ := hr.form
  generalize l.length = N at *
  clear hr hl hn
  unfold prZ prV
  go_enter Try.func38, Try.ntmps38
  go_upto_region 1 with fail
  have hR := CL.new w [.int .u32 0, .int .u32 0, .int .i64 0, .int .i64 0, .int .i64 0, .int .i64 0] 65 _ rfl
  have hG := (Gr.refl w).alloc (.cells #[.int .u32 0, .int .u32 0, .int .i64 0, .int .i64 0, .int .i64 0, .int .i64 0] 65)
  have hgz := Nat.le_refl w.heap.size
  simp only [List.toArray] at hR
  generalize w.alloc (.cells #[.int .u32 0, .int .u32 0, .int .i64 0, .int .i64 0, .int .i64 0, .int .i64 0] 65) = w1 at hR hG ⊢
  generalize hge : w.heap.size = g1 at hR ⊢
  rw [hge] at hgz
  replace hgz : w.heap.size ≤ g1 := by omega
  clear hge
  go_wp2_with fail
  refine (HD.out _ hG).mono ?_
  rintro e w2 ⟨rfl, hg⟩
  unfold pkV
  replace hR := hR.gr hg
  replace hG := hG.step hg
  clear hg
  have hg3 := Gr.alloc (Gr.refl w2) (.cells #[.int .i64 0, .int .i64 0, .int .i64 0, .int .i64 0, .bool false, .int .u32 0, .int .u32 0, .slice none 0 0] 85)
  replace hR := hR.gr hg3
  replace hG := hG.step hg3
  clear hg3
  obtain ⟨⟨r0, r1, r2, r3, r4, r5⟩, s0, s1, s2, s3, s4, s5⟩ := CL.six hR
  go_wp2_with fail
  clear r0 r1 r2 r3 r4 r5 s0 s1 s2 s3 s4 s5
  generalize w2.alloc (.cells #[.int .i64 0, .int .i64 0, .int .i64 0, .int .i64 0, .bool false, .int .u32 0, .int .u32 0, .slice none 0 0] 85) = w3 at hR hG ⊢
  have hcF := hR.fill [.int .u32 0, .int .u32 0, .int .i64 0, .int .i64 0, .int .i64 0, .int .i64 0] rfl
  have hgF := hG.fill hgz [.int .u32 0, .int .u32 0, .int .i64 0, .int .i64 0, .int .i64 0, .int .i64 0] 0
  simp only [fillC, Nat.reduceAdd] at hcF hgF
  generalize (((((w3.setCell ⟨g1, 0, none⟩ (.int .u32 0)).setCell ⟨g1, 1, none⟩ (.int .u32 0)).setCell ⟨g1, 2, none⟩ (.int .i64 0)).setCell ⟨g1, 3, none⟩ (.int .i64 0)).setCell ⟨g1, 4, none⟩ (.int .i64 0)).setCell ⟨g1, 5, none⟩ (.int .i64 0) = wF at hcF hgF ⊢
  obtain ⟨⟨c0, c1, c2, c3, c4, c5⟩, -⟩ := CL.six hcF
  exact bodyPost_ret (v := .tuple #[.agg #[.int .u32 0, .int .u32 0, .int .i64 0, .int .i64 0, .int .i64 0, .int .i64 0], .int .i64 17]) (by simp [results, Try.results38, go_sem, c0, c1, c2, c3, c4, c5]) rfl ⟨rfl, hgF⟩
set_option maxHeartbeats 2000000 in
theorem pRead_no {p : Nat → Prop} {v : Value} {l : List Nat} (w : World) (hr : Rb p w v l) (hl : l.length ≤ 90000) (hn : dcE l = 0) (hb : prbE (hdAt l).proto (flI (hdAt l).proto (kA (hdAt l).proto (l.drop 20)) (kB (hdAt l).proto (l.drop 20))) (hdAt l).id (hdAt l).ttl ≠ 0) :
    Calls Try.prog 38 #[v] w fun e w' => e = .returned (.tuple #[prZ, .int .i64 17]) ∧ Gr w w' := by
  have HD := Lib.hid (fun w' (g : Gr w w') => decode_ok w' (hr.gr g) hl hn)
  have hkA : kA (hdAt l).proto (l.drop 20) < 65536 := by unfold kA; split; exact gN_lt (fun x hx => hr.bytes x (List.mem_of_mem_drop hx)) 0 2; omega
  have hkB : kB (hdAt l).proto (l.drop 20) < 65536 := by unfold kB; split; exact gN_lt (fun x hx => hr.bytes x (List.mem_of_mem_drop hx)) 2 2; omega
  obtain ⟨F, hF⟩ : ∃ F, F = flI (hdAt l).proto (kA (hdAt l).proto (l.drop 20)) (kB (hdAt l).proto (l.drop 20)) := ⟨_, rfl⟩
  have HFL := Lib.hid (fun W => pflow_any (hdAt l).src (hdAt l).dst (hdAt l).proto (kA (hdAt l).proto (l.drop 20)) (kB (hdAt l).proto (l.drop 20)) W hkA hkB)
  rw [show (if ((hdAt l).proto : Int) = 1 then (kB (hdAt l).proto (l.drop 20) : Int) - 16384 else (kA (hdAt l).proto (l.drop 20) : Int) - 20000) = F by rw [hF]; unfold flI; split <;> split <;> first | rfl | omega] at HFL
  rw [← hF] at hb
  clear hkA hkB hF
  have HB := Lib.hid (fun W => pbuild_bad (hdAt l).src (hdAt l).dst (hdAt l).proto F (hdAt l).id (hdAt l).ttl W hb)
  generalize prbE (hdAt l).proto F (hdAt l).id (hdAt l).ttl = E at *
  have d1 : ((E : Int) != 0) = true := by rw [bne_iff_ne]; omega
  clear hb hl hn
  generalize hdAt l = h at *
  generalize l.drop 20 = d at *
  unfold prZ
  obtain ⟨av, cv, rfl, -, -⟩ := hr.form
  have HR := Lib.hid hr
  generalize l.length = N at *
  unfold Hd.p pkV at HD
  have HKA := Lib.hid (fun (v : Value) (w : World) (hv : Rb (fun _ => True) w v d) => pkey_any h w hv)
  unfold Hd.p pkV at HKA
  generalize kA h.proto d = A at *
  generalize kB h.proto d = B at *
  unfold kyV prV at *
  clear hr
  go_enter Try.func38, Try.ntmps38
  go_upto_region 1 with fail
  have hR := CL.new w [.int .u32 0, .int .u32 0, .int .i64 0, .int .i64 0, .int .i64 0, .int .i64 0] 65 _ rfl
  have hG := (Gr.refl w).alloc (.cells #[.int .u32 0, .int .u32 0, .int .i64 0, .int .i64 0, .int .i64 0, .int .i64 0] 65)
  have hgz := Nat.le_refl w.heap.size
  simp only [List.toArray] at hR
  generalize w.alloc (.cells #[.int .u32 0, .int .u32 0, .int .i64 0, .int .i64 0, .int .i64 0, .int .i64 0] 65) = w1 at hR hG ⊢
  generalize hge : w.heap.size = g1 at hR ⊢
  rw [hge] at hgz
  replace hgz : w.heap.size ≤ g1 := by omega
  clear hge
  go_wp2_with fail
  refine (HD.out _ hG).mono ?_
  rintro e w2 ⟨v2, rfl, ho, hg⟩
  have hv := ho.rb.any
  obtain ⟨a2, c2, rfl, -, -⟩ := hv.form
  generalize d.length = M at *
  replace hR := hR.gr hg
  replace hG := hG.step hg
  clear hg ho
  have hP := CL.new w2 [.int .i64 h.tos, .int .i64 h.id, .int .i64 h.ttl, .int .i64 h.proto, .bool h.keep, .int .u32 h.src, .int .u32 h.dst, .slice a2 M c2] 85 _ rfl
  have hg3 := Gr.alloc (Gr.refl w2) (.cells #[.int .i64 h.tos, .int .i64 h.id, .int .i64 h.ttl, .int .i64 h.proto, .bool h.keep, .int .u32 h.src, .int .u32 h.dst, .slice a2 M c2] 85)
  simp only [List.toArray] at hP
  go_upto_region 2 with fail
  generalize w2.alloc (.cells #[.int .i64 h.tos, .int .i64 h.id, .int .i64 h.ttl, .int .i64 h.proto, .bool h.keep, .int .u32 h.src, .int .u32 h.dst, .slice a2 M c2] 85) = w3 at hP hg3 ⊢
  generalize w2.heap.size = gp at hP ⊢
  replace hR := hR.gr hg3
  replace hG := hG.step hg3
  replace hv := hv.gr hg3
  clear hg3
  obtain ⟨⟨q0, q1, q2, q3, q4, q5, q6, q7⟩, -⟩ := hP.eight
  go_upto_region 5 with fail
  clear q0 q1 q2 q3 q4 q5 q6 q7
  have hH := CL.new w3 [.int .i64 h.tos, .int .i64 h.id, .int .i64 h.ttl, .int .i64 h.proto, .bool h.keep, .int .u32 h.src, .int .u32 h.dst] 83 _ rfl
  have hg3 := Gr.alloc (Gr.refl w3) (.cells #[.int .i64 h.tos, .int .i64 h.id, .int .i64 h.ttl, .int .i64 h.proto, .bool h.keep, .int .u32 h.src, .int .u32 h.dst] 83)
  simp only [List.toArray] at hH
  generalize w3.alloc (.cells #[.int .i64 h.tos, .int .i64 h.id, .int .i64 h.ttl, .int .i64 h.proto, .bool h.keep, .int .u32 h.src, .int .u32 h.dst] 83) = w4 at hH hg3 ⊢
  generalize w3.heap.size = gh at hH ⊢
  replace hR := hR.gr hg3
  replace hG := hG.step hg3
  have HV := Lib.hid (hv.gr hg3)
  have HP := Lib.hid (hP.gr hg3)
  have HH := Lib.hid hH
  clear hg3 hv hP hH
  have HK := Lib.hid (fun W (g : Gr w4 W) => HKA.out _ W (HV.out.gr g))
  refine region_cut1 ?aF (fun g W => CL W g [.int .u32 h.src, .int .u32 h.dst, .int .i64 h.proto, .int .i64 F, .int .i64 h.id, .int .i64 h.ttl] ∧ Gr w4 W ∧ w4.heap.size ≤ g) ?h ?k
  case h =>
    have hS : Gr w4 w4.drew := Gr.drew (Gr.refl _)
    refine region_plain (Gr w4) (by kernel_rfl) ?_
    generalize w4.drew = w5 at hS ⊢
    refine take_at 0 (some 20) (v := ?vn0) rfl rfl (by kernel_rfl) (by kernel_rfl) (by kernel_rfl) (by rfl) ?yn0 hS ?tn0
    case yn0 =>
      intro w' hSw
      obtain - := hSw
      go_simp
      (try with_reducible rfl)
    simp only [Act.put, List.setIfInBounds_toArray, List.set_cons_zero, List.set_cons_succ]
    refine take_at 1 (some 21) (v := ?vn1) rfl rfl (by kernel_rfl) (by kernel_rfl) (by kernel_rfl) (by rfl) ?yn1 hS ?tn1
    case yn1 =>
      intro w' hSw
      obtain ⟨⟨q0, q1, q2, q3, q4, q5, q6⟩, -⟩ := (HH.out.gr hSw).seven
      go_simp
      (try with_reducible rfl)
    simp only [Act.put, List.setIfInBounds_toArray, List.set_cons_zero, List.set_cons_succ]
    refine take_at 2 (some 22) (v := ?vn2) rfl rfl (by kernel_rfl) (by kernel_rfl) (by kernel_rfl) (by rfl) ?yn2 hS ?tn2
    case yn2 =>
      intro w' hSw
      obtain - := hSw
      go_simp
      (try with_reducible rfl)
    simp only [Act.put, List.setIfInBounds_toArray, List.set_cons_zero, List.set_cons_succ]
    refine take_at 3 (some 23) (v := ?vn3) rfl rfl (by kernel_rfl) (by kernel_rfl) (by kernel_rfl) (by rfl) ?yn3 hS ?tn3
    case yn3 =>
      intro w' hSw
      obtain ⟨⟨q0, q1, q2, q3, q4, q5, q6⟩, -⟩ := (HH.out.gr hSw).seven
      go_simp
      (try with_reducible rfl)
    simp only [Act.put, List.setIfInBounds_toArray, List.set_cons_zero, List.set_cons_succ]
    refine take_at 4 (some 24) (v := ?vn4) rfl rfl (by kernel_rfl) (by kernel_rfl) (by kernel_rfl) (by rfl) ?yn4 hS ?tn4
    case yn4 =>
      intro w' hSw
      obtain - := hSw
      go_simp
      (try with_reducible rfl)
    simp only [Act.put, List.setIfInBounds_toArray, List.set_cons_zero, List.set_cons_succ]
    refine take_at 5 (some 25) (v := ?vn5) rfl rfl (by kernel_rfl) (by kernel_rfl) (by kernel_rfl) (by rfl) ?yn5 hS ?tn5
    case yn5 =>
      intro w' hSw
      obtain ⟨⟨q0, q1, q2, q3, q4, q5, q6⟩, -⟩ := (HH.out.gr hSw).seven
      go_simp
      (try with_reducible rfl)
    simp only [Act.put, List.setIfInBounds_toArray, List.set_cons_zero, List.set_cons_succ]
    refine take_at 6 (some 26) (v := ?vn6) rfl rfl (by kernel_rfl) (by kernel_rfl) (by kernel_rfl) (by rfl) ?yn6 hS ?tn6
    case yn6 =>
      intro w' hSw
      obtain ⟨⟨q0, q1, q2, q3, q4, q5, q6, q7⟩, -⟩ := (HP.out.gr hSw).eight
      go_simp
      (try with_reducible rfl)
    simp only [Act.put, List.setIfInBounds_toArray, List.set_cons_zero, List.set_cons_succ]
    refine take_at 9 (some 29) (v := ?vn9) rfl rfl (by kernel_rfl) (by kernel_rfl) (by kernel_rfl) (by rfl) ?yn9 hS ?tn9
    case yn9 =>
      intro w' hSw
      obtain - := hSw
      go_simp
      (try with_reducible rfl)
    simp only [Act.put, List.setIfInBounds_toArray, List.set_cons_zero, List.set_cons_succ]
    refine take_at 10 (some 30) (v := ?vn10) rfl rfl (by kernel_rfl) (by kernel_rfl) (by kernel_rfl) (by rfl) ?yn10 hS ?tn10
    case yn10 =>
      intro w' hSw
      obtain ⟨⟨q0, q1, q2, q3, q4, q5, q6⟩, -⟩ := (HH.out.gr hSw).seven
      go_simp
      (try with_reducible rfl)
    simp only [Act.put, List.setIfInBounds_toArray, List.set_cons_zero, List.set_cons_succ]
    refine take_at 11 (some 31) (v := ?vn11) rfl rfl (by kernel_rfl) (by kernel_rfl) (by kernel_rfl) (by rfl) ?yn11 hS ?tn11
    case yn11 =>
      intro w' hSw
      obtain - := hSw
      go_simp
      (try with_reducible rfl)
    simp only [Act.put, List.setIfInBounds_toArray, List.set_cons_zero, List.set_cons_succ]
    refine take_at 12 (some 32) (v := ?vn12) rfl rfl (by kernel_rfl) (by kernel_rfl) (by kernel_rfl) (by rfl) ?yn12 hS ?tn12
    case yn12 =>
      intro w' hSw
      obtain ⟨⟨q0, q1, q2, q3, q4, q5, q6⟩, -⟩ := (HH.out.gr hSw).seven
      go_simp
      (try with_reducible rfl)
    simp only [Act.put, List.setIfInBounds_toArray, List.set_cons_zero, List.set_cons_succ]
    refine next_two 7 14 rfl rfl (by kernel_rfl) (by rfl) (by rfl) (fun K hK => ?_) (fun K hK => ?_)
    · skip
      go_simp
      refine (HK.out _ hS).mono ?_
      rintro e w6 ⟨rfl, hg⟩
      replace hS := hS.step hg
      refine hK _ _ hS ?_
      clear hK K hg
      refine next_two 8 14 rfl rfl (by kernel_rfl) (by rfl) (by rfl) (fun K hK => ?_) (fun K hK => ?_)
      · skip
        go_simp
        refine (HFL.out _).mono ?_
        rintro e w7 ⟨rfl, hg⟩
        replace hS := hS.step hg
        refine hK _ _ hS ?_
        clear hK K hg
        refine take_at 13 (some 33) (v := ?vna13) rfl rfl (by kernel_rfl) (by kernel_rfl) (by kernel_rfl) (by rfl) ?yna13 hS ?tna13
        case yna13 =>
          intro w' hSw
          obtain - := hSw
          go_simp
          (try with_reducible rfl)
        simp only [Act.put, List.setIfInBounds_toArray, List.set_cons_zero, List.set_cons_succ]
        refine next_at 14 rfl (by kernel_rfl) (by rfl) (fun K hK => ?_)
        go_simp
        have hSn := hS.alloc (.cells #[.int .u32 0, .int .u32 0, .int .i64 0, .int .i64 0, .int .i64 0, .int .i64 0] 65)
        have hA := CL.new w7 [.int .u32 0, .int .u32 0, .int .i64 0, .int .i64 0, .int .i64 0, .int .i64 0] 65 _ rfl
        have hga := Gr.size hS
        simp only [List.toArray] at hA
        refine hK _ _ hSn ?_
        clear hK K hS
        have hS := hSn
        clear hSn
        generalize w7.alloc (.cells #[.int .u32 0, .int .u32 0, .int .i64 0, .int .i64 0, .int .i64 0, .int .i64 0] 65) = w8 at hS hA ⊢
        generalize w7.heap.size = ga at hA hga ⊢
        have hcF := hA.fill [.int .u32 h.src, .int .u32 h.dst, .int .i64 h.proto, .int .i64 F, .int .i64 h.id, .int .i64 h.ttl] rfl
        have hsF := hS.fill hga [.int .u32 h.src, .int .u32 h.dst, .int .i64 h.proto, .int .i64 F, .int .i64 h.id, .int .i64 h.ttl] 0
        simp only [fillC, Nat.reduceAdd] at hcF hsF
        obtain ⟨⟨y0, y1, y2, y3, y4, y5⟩, u0, u1, u2, u3, u4, u5⟩ := CL.six hA
        refine next_at 15 rfl (by kernel_rfl) (by rfl) (fun K hK => ?_)
        go_simp
        refine hK _ _ hsF ?_
        clear hK K y0 y1 y2 y3 y4 y5 u0 u1 u2 u3 u4 u5
        refine wpAnyH_done (by kernel_rfl) ?_ _
        refine qz_normal ⟨rfl, ga, ?_, hcF, hsF, hga⟩
        first | with_reducible rfl | exact rfl
      · skip
        go_simp
        have hSn := hS.alloc (.cells #[.int .u32 0, .int .u32 0, .int .i64 0, .int .i64 0, .int .i64 0, .int .i64 0] 65)
        have hA := CL.new w6 [.int .u32 0, .int .u32 0, .int .i64 0, .int .i64 0, .int .i64 0, .int .i64 0] 65 _ rfl
        have hga := Gr.size hS
        simp only [List.toArray] at hA
        refine hK _ _ hSn ?_
        clear hK K hS
        have hS := hSn
        clear hSn
        generalize w6.alloc (.cells #[.int .u32 0, .int .u32 0, .int .i64 0, .int .i64 0, .int .i64 0, .int .i64 0] 65) = w7 at hS hA ⊢
        generalize w6.heap.size = ga at hA hga ⊢
        refine next_at 8 rfl (by kernel_rfl) (by rfl) (fun K hK => ?_)
        go_simp
        refine (HFL.out _).mono ?_
        rintro e w8 ⟨rfl, hg⟩
        replace hS := hS.step hg
        replace hA := hA.gr hg
        refine hK _ _ hS ?_
        clear hK K hg
        refine take_at 13 (some 33) (v := ?vnb13) rfl rfl (by kernel_rfl) (by kernel_rfl) (by kernel_rfl) (by rfl) ?ynb13 hS ?tnb13
        case ynb13 =>
          intro w' hSw
          obtain - := hSw
          go_simp
          (try with_reducible rfl)
        simp only [Act.put, List.setIfInBounds_toArray, List.set_cons_zero, List.set_cons_succ]
        have hcF := hA.fill [.int .u32 h.src, .int .u32 h.dst, .int .i64 h.proto, .int .i64 F, .int .i64 h.id, .int .i64 h.ttl] rfl
        have hsF := hS.fill hga [.int .u32 h.src, .int .u32 h.dst, .int .i64 h.proto, .int .i64 F, .int .i64 h.id, .int .i64 h.ttl] 0
        simp only [fillC, Nat.reduceAdd] at hcF hsF
        obtain ⟨⟨y0, y1, y2, y3, y4, y5⟩, u0, u1, u2, u3, u4, u5⟩ := CL.six hA
        refine next_at 15 rfl (by kernel_rfl) (by rfl) (fun K hK => ?_)
        go_simp
        refine hK _ _ hsF ?_
        clear hK K y0 y1 y2 y3 y4 y5 u0 u1 u2 u3 u4 u5
        refine wpAnyH_done (by kernel_rfl) ?_ _
        refine qz_normal ⟨rfl, ga, ?_, hcF, hsF, hga⟩
        first | with_reducible rfl | exact rfl
    · skip
      go_simp
      have hSn := hS.alloc (.cells #[.int .u32 0, .int .u32 0, .int .i64 0, .int .i64 0, .int .i64 0, .int .i64 0] 65)
      have hA := CL.new w5 [.int .u32 0, .int .u32 0, .int .i64 0, .int .i64 0, .int .i64 0, .int .i64 0] 65 _ rfl
      have hga := Gr.size hS
      simp only [List.toArray] at hA
      refine hK _ _ hSn ?_
      clear hK K hS
      have hS := hSn
      clear hSn
      generalize w5.alloc (.cells #[.int .u32 0, .int .u32 0, .int .i64 0, .int .i64 0, .int .i64 0, .int .i64 0] 65) = w6 at hS hA ⊢
      generalize w5.heap.size = ga at hA hga ⊢
      refine next_at 7 rfl (by kernel_rfl) (by rfl) (fun K hK => ?_)
      go_simp
      refine (HK.out _ hS).mono ?_
      rintro e w7 ⟨rfl, hg⟩
      replace hS := hS.step hg
      replace hA := hA.gr hg
      refine hK _ _ hS ?_
      clear hK K hg
      refine next_at 8 rfl (by kernel_rfl) (by rfl) (fun K hK => ?_)
      go_simp
      refine (HFL.out _).mono ?_
      rintro e w8 ⟨rfl, hg⟩
      replace hS := hS.step hg
      replace hA := hA.gr hg
      refine hK _ _ hS ?_
      clear hK K hg
      refine take_at 13 (some 33) (v := ?vnc13) rfl rfl (by kernel_rfl) (by kernel_rfl) (by kernel_rfl) (by rfl) ?ync13 hS ?tnc13
      case ync13 =>
        intro w' hSw
        obtain - := hSw
        go_simp
        (try with_reducible rfl)
      simp only [Act.put, List.setIfInBounds_toArray, List.set_cons_zero, List.set_cons_succ]
      have hcF := hA.fill [.int .u32 h.src, .int .u32 h.dst, .int .i64 h.proto, .int .i64 F, .int .i64 h.id, .int .i64 h.ttl] rfl
      have hsF := hS.fill hga [.int .u32 h.src, .int .u32 h.dst, .int .i64 h.proto, .int .i64 F, .int .i64 h.id, .int .i64 h.ttl] 0
      simp only [fillC, Nat.reduceAdd] at hcF hsF
      obtain ⟨⟨y0, y1, y2, y3, y4, y5⟩, u0, u1, u2, u3, u4, u5⟩ := CL.six hA
      refine next_at 15 rfl (by kernel_rfl) (by rfl) (fun K hK => ?_)
      go_simp
      refine hK _ _ hsF ?_
      clear hK K y0 y1 y2 y3 y4 y5 u0 u1 u2 u3 u4 u5
      refine wpAnyH_done (by kernel_rfl) ?_ _
      refine qz_normal ⟨rfl, ga, ?_, hcF, hsF, hga⟩
      first | with_reducible rfl | exact rfl
  case k =>
    intro ga W5 ⟨hA, hg, hga⟩
    have hne : ga ≠ g1 := by have := hR.lt; omega
    replace hR := hR.gr hg
    replace hG := hG.step hg
    replace HR := Lib.hid (HR.out.gr hG)
    clear hg hga HP HH HV HK HKA HFL HD
    obtain ⟨⟨y0, y1, y2, y3, y4, y5⟩, -⟩ := CL.six hA
    go_wp2_with fail
    clear y0 y1 y2 y3 y4 y5
    refine (HB.out _).mono ?_
    rintro e w6 ⟨rfl, hg⟩
    replace hR := hR.gr hg
    replace hG := hG.step hg
    clear hg
    obtain ⟨⟨r0, r1, r2, r3, r4, r5⟩, s0, s1, s2, s3, s4, s5⟩ := CL.six hR
    go_wp2_with fail
    clear r0 r1 r2 r3 r4 r5 s0 s1 s2 s3 s4 s5
    have hcF := hR.fill [.int .u32 0, .int .u32 0, .int .i64 0, .int .i64 0, .int .i64 0, .int .i64 0] rfl
    have hgF := hG.fill hgz [.int .u32 0, .int .u32 0, .int .i64 0, .int .i64 0, .int .i64 0, .int .i64 0] 0
    simp only [fillC, Nat.reduceAdd] at hcF hgF
    generalize (((((w6.setCell ⟨g1, 0, none⟩ (.int .u32 0)).setCell ⟨g1, 1, none⟩ (.int .u32 0)).setCell ⟨g1, 2, none⟩ (.int .i64 0)).setCell ⟨g1, 3, none⟩ (.int .i64 0)).setCell ⟨g1, 4, none⟩ (.int .i64 0)).setCell ⟨g1, 5, none⟩ (.int .i64 0) = wF at hcF hgF ⊢
    obtain ⟨⟨c0, c1, c2, c3, c4, c5⟩, -⟩ := CL.six hcF
    exact bodyPost_ret (v := .tuple #[.agg #[.int .u32 0, .int .u32 0, .int .i64 0, .int .i64 0, .int .i64 0, .int .i64 0], .int .i64 17]) (by simp [results, Try.results38, go_sem, c0, c1, c2, c3, c4, c5]) rfl ⟨rfl, hgF⟩
set_option maxHeartbeats 2000000 in
theorem pRead_yes {p : Nat → Prop} {v : Value} {l : List Nat} (w : World) (hr : Rb p w v l) (hl : l.length ≤ 90000) (hn : dcE l = 0) (Q : Pr) (k : Q.ok) (hq : prV (hdAt l).src (hdAt l).dst (hdAt l).proto (flI (hdAt l).proto (kA (hdAt l).proto (l.drop 20)) (kB (hdAt l).proto (l.drop 20))) (hdAt l).id (hdAt l).ttl = Q.v) (hc : decide (Q.pk = l) = true) :
    Calls Try.prog 38 #[v] w fun e w' => e = .returned (.tuple #[prV (hdAt l).src (hdAt l).dst (hdAt l).proto (flI (hdAt l).proto (kA (hdAt l).proto (l.drop 20)) (kB (hdAt l).proto (l.drop 20))) (hdAt l).id (hdAt l).ttl, .int .i64 0]) ∧ Gr w w' := by
  have HD := Lib.hid (fun w' (g : Gr w w') => decode_ok w' (hr.gr g) hl hn)
  have hkA : kA (hdAt l).proto (l.drop 20) < 65536 := by unfold kA; split; exact gN_lt (fun x hx => hr.bytes x (List.mem_of_mem_drop hx)) 0 2; omega
  have hkB : kB (hdAt l).proto (l.drop 20) < 65536 := by unfold kB; split; exact gN_lt (fun x hx => hr.bytes x (List.mem_of_mem_drop hx)) 2 2; omega
  obtain ⟨F, hF⟩ : ∃ F, F = flI (hdAt l).proto (kA (hdAt l).proto (l.drop 20)) (kB (hdAt l).proto (l.drop 20)) := ⟨_, rfl⟩
  have HFL := Lib.hid (fun W => pflow_any (hdAt l).src (hdAt l).dst (hdAt l).proto (kA (hdAt l).proto (l.drop 20)) (kB (hdAt l).proto (l.drop 20)) W hkA hkB)
  rw [show (if ((hdAt l).proto : Int) = 1 then (kB (hdAt l).proto (l.drop 20) : Int) - 16384 else (kA (hdAt l).proto (l.drop 20) : Int) - 20000) = F by rw [hF]; unfold flI; split <;> split <;> first | rfl | omega] at HFL
  rw [← hF] at hq ⊢
  clear hkA hkB hF
  have HB := Lib.hid (fun W => pbuild_ok Q k W)
  rw [← hq] at HB
  have HC := Lib.hid hc
  clear hq hc k hl hn
  generalize hdAt l = h at *
  generalize l.drop 20 = d at *
  (try unfold prZ)
  obtain ⟨av, cv, rfl, -, -⟩ := hr.form
  have HR := Lib.hid hr
  generalize l.length = N at *
  unfold Hd.p pkV at HD
  have HKA := Lib.hid (fun (v : Value) (w : World) (hv : Rb (fun _ => True) w v d) => pkey_any h w hv)
  unfold Hd.p pkV at HKA
  generalize kA h.proto d = A at *
  generalize kB h.proto d = B at *
  unfold kyV prV at *
  clear hr
  go_enter Try.func38, Try.ntmps38
  go_upto_region 1 with fail
  have hR := CL.new w [.int .u32 0, .int .u32 0, .int .i64 0, .int .i64 0, .int .i64 0, .int .i64 0] 65 _ rfl
  have hG := (Gr.refl w).alloc (.cells #[.int .u32 0, .int .u32 0, .int .i64 0, .int .i64 0, .int .i64 0, .int .i64 0] 65)
  have hgz := Nat.le_refl w.heap.size
  simp only [List.toArray] at hR
  generalize w.alloc (.cells #[.int .u32 0, .int .u32 0, .int .i64 0, .int .i64 0, .int .i64 0, .int .i64 0] 65) = w1 at hR hG ⊢
  generalize hge : w.heap.size = g1 at hR ⊢
  rw [hge] at hgz
  replace hgz : w.heap.size ≤ g1 := by omega
  clear hge
  go_wp2_with fail
  refine (HD.out _ hG).mono ?_
  rintro e w2 ⟨v2, rfl, ho, hg⟩
  have hv := ho.rb.any
  obtain ⟨a2, c2, rfl, -, -⟩ := hv.form
  generalize d.length = M at *
  replace hR := hR.gr hg
  replace hG := hG.step hg
  clear hg ho
  have hP := CL.new w2 [.int .i64 h.tos, .int .i64 h.id, .int .i64 h.ttl, .int .i64 h.proto, .bool h.keep, .int .u32 h.src, .int .u32 h.dst, .slice a2 M c2] 85 _ rfl
  have hg3 := Gr.alloc (Gr.refl w2) (.cells #[.int .i64 h.tos, .int .i64 h.id, .int .i64 h.ttl, .int .i64 h.proto, .bool h.keep, .int .u32 h.src, .int .u32 h.dst, .slice a2 M c2] 85)
  simp only [List.toArray] at hP
  go_upto_region 2 with fail
  generalize w2.alloc (.cells #[.int .i64 h.tos, .int .i64 h.id, .int .i64 h.ttl, .int .i64 h.proto, .bool h.keep, .int .u32 h.src, .int .u32 h.dst, .slice a2 M c2] 85) = w3 at hP hg3 ⊢
  generalize w2.heap.size = gp at hP ⊢
  replace hR := hR.gr hg3
  replace hG := hG.step hg3
  replace hv := hv.gr hg3
  clear hg3
  obtain ⟨⟨q0, q1, q2, q3, q4, q5, q6, q7⟩, -⟩ := hP.eight
  go_upto_region 5 with fail
  clear q0 q1 q2 q3 q4 q5 q6 q7
  have hH := CL.new w3 [.int .i64 h.tos, .int .i64 h.id, .int .i64 h.ttl, .int .i64 h.proto, .bool h.keep, .int .u32 h.src, .int .u32 h.dst] 83 _ rfl
  have hg3 := Gr.alloc (Gr.refl w3) (.cells #[.int .i64 h.tos, .int .i64 h.id, .int .i64 h.ttl, .int .i64 h.proto, .bool h.keep, .int .u32 h.src, .int .u32 h.dst] 83)
  simp only [List.toArray] at hH
  generalize w3.alloc (.cells #[.int .i64 h.tos, .int .i64 h.id, .int .i64 h.ttl, .int .i64 h.proto, .bool h.keep, .int .u32 h.src, .int .u32 h.dst] 83) = w4 at hH hg3 ⊢
  generalize w3.heap.size = gh at hH ⊢
  replace hR := hR.gr hg3
  replace hG := hG.step hg3
  have HV := Lib.hid (hv.gr hg3)
  have HP := Lib.hid (hP.gr hg3)
  have HH := Lib.hid hH
  clear hg3 hv hP hH
  have HK := Lib.hid (fun W (g : Gr w4 W) => HKA.out _ W (HV.out.gr g))
  refine region_cut1 ?aF (fun g W => CL W g [.int .u32 h.src, .int .u32 h.dst, .int .i64 h.proto, .int .i64 F, .int .i64 h.id, .int .i64 h.ttl] ∧ Gr w4 W ∧ w4.heap.size ≤ g) ?h ?k
  case h =>
    have hS : Gr w4 w4.drew := Gr.drew (Gr.refl _)
    refine region_plain (Gr w4) (by kernel_rfl) ?_
    generalize w4.drew = w5 at hS ⊢
    refine take_at 0 (some 20) (v := ?vy0) rfl rfl (by kernel_rfl) (by kernel_rfl) (by kernel_rfl) (by rfl) ?yy0 hS ?ty0
    case yy0 =>
      intro w' hSw
      obtain - := hSw
      go_simp
      (try with_reducible rfl)
    simp only [Act.put, List.setIfInBounds_toArray, List.set_cons_zero, List.set_cons_succ]
    refine take_at 1 (some 21) (v := ?vy1) rfl rfl (by kernel_rfl) (by kernel_rfl) (by kernel_rfl) (by rfl) ?yy1 hS ?ty1
    case yy1 =>
      intro w' hSw
      obtain ⟨⟨q0, q1, q2, q3, q4, q5, q6⟩, -⟩ := (HH.out.gr hSw).seven
      go_simp
      (try with_reducible rfl)
    simp only [Act.put, List.setIfInBounds_toArray, List.set_cons_zero, List.set_cons_succ]
    refine take_at 2 (some 22) (v := ?vy2) rfl rfl (by kernel_rfl) (by kernel_rfl) (by kernel_rfl) (by rfl) ?yy2 hS ?ty2
    case yy2 =>
      intro w' hSw
      obtain - := hSw
      go_simp
      (try with_reducible rfl)
    simp only [Act.put, List.setIfInBounds_toArray, List.set_cons_zero, List.set_cons_succ]
    refine take_at 3 (some 23) (v := ?vy3) rfl rfl (by kernel_rfl) (by kernel_rfl) (by kernel_rfl) (by rfl) ?yy3 hS ?ty3
    case yy3 =>
      intro w' hSw
      obtain ⟨⟨q0, q1, q2, q3, q4, q5, q6⟩, -⟩ := (HH.out.gr hSw).seven
      go_simp
      (try with_reducible rfl)
    simp only [Act.put, List.setIfInBounds_toArray, List.set_cons_zero, List.set_cons_succ]
    refine take_at 4 (some 24) (v := ?vy4) rfl rfl (by kernel_rfl) (by kernel_rfl) (by kernel_rfl) (by rfl) ?yy4 hS ?ty4
    case yy4 =>
      intro w' hSw
      obtain - := hSw
      go_simp
      (try with_reducible rfl)
    simp only [Act.put, List.setIfInBounds_toArray, List.set_cons_zero, List.set_cons_succ]
    refine take_at 5 (some 25) (v := ?vy5) rfl rfl (by kernel_rfl) (by kernel_rfl) (by kernel_rfl) (by rfl) ?yy5 hS ?ty5
    case yy5 =>
      intro w' hSw
      obtain ⟨⟨q0, q1, q2, q3, q4, q5, q6⟩, -⟩ := (HH.out.gr hSw).seven
      go_simp
      (try with_reducible rfl)
    simp only [Act.put, List.setIfInBounds_toArray, List.set_cons_zero, List.set_cons_succ]
    refine take_at 6 (some 26) (v := ?vy6) rfl rfl (by kernel_rfl) (by kernel_rfl) (by kernel_rfl) (by rfl) ?yy6 hS ?ty6
    case yy6 =>
      intro w' hSw
      obtain ⟨⟨q0, q1, q2, q3, q4, q5, q6, q7⟩, -⟩ := (HP.out.gr hSw).eight
      go_simp
      (try with_reducible rfl)
    simp only [Act.put, List.setIfInBounds_toArray, List.set_cons_zero, List.set_cons_succ]
    refine take_at 9 (some 29) (v := ?vy9) rfl rfl (by kernel_rfl) (by kernel_rfl) (by kernel_rfl) (by rfl) ?yy9 hS ?ty9
    case yy9 =>
      intro w' hSw
      obtain - := hSw
      go_simp
      (try with_reducible rfl)
    simp only [Act.put, List.setIfInBounds_toArray, List.set_cons_zero, List.set_cons_succ]
    refine take_at 10 (some 30) (v := ?vy10) rfl rfl (by kernel_rfl) (by kernel_rfl) (by kernel_rfl) (by rfl) ?yy10 hS ?ty10
    case yy10 =>
      intro w' hSw
      obtain ⟨⟨q0, q1, q2, q3, q4, q5, q6⟩, -⟩ := (HH.out.gr hSw).seven
      go_simp
      (try with_reducible rfl)
    simp only [Act.put, List.setIfInBounds_toArray, List.set_cons_zero, List.set_cons_succ]
    refine take_at 11 (some 31) (v := ?vy11) rfl rfl (by kernel_rfl) (by kernel_rfl) (by kernel_rfl) (by rfl) ?yy11 hS ?ty11
    case yy11 =>
      intro w' hSw
      obtain - := hSw
      go_simp
      (try with_reducible rfl)
    simp only [Act.put, List.setIfInBounds_toArray, List.set_cons_zero, List.set_cons_succ]
    refine take_at 12 (some 32) (v := ?vy12) rfl rfl (by kernel_rfl) (by kernel_rfl) (by kernel_rfl) (by rfl) ?yy12 hS ?ty12
    case yy12 =>
      intro w' hSw
      obtain ⟨⟨q0, q1, q2, q3, q4, q5, q6⟩, -⟩ := (HH.out.gr hSw).seven
      go_simp
      (try with_reducible rfl)
    simp only [Act.put, List.setIfInBounds_toArray, List.set_cons_zero, List.set_cons_succ]
    refine next_two 7 14 rfl rfl (by kernel_rfl) (by rfl) (by rfl) (fun K hK => ?_) (fun K hK => ?_)
    · skip
      go_simp
      refine (HK.out _ hS).mono ?_
      rintro e w6 ⟨rfl, hg⟩
      replace hS := hS.step hg
      refine hK _ _ hS ?_
      clear hK K hg
      refine next_two 8 14 rfl rfl (by kernel_rfl) (by rfl) (by rfl) (fun K hK => ?_) (fun K hK => ?_)
      · skip
        go_simp
        refine (HFL.out _).mono ?_
        rintro e w7 ⟨rfl, hg⟩
        replace hS := hS.step hg
        refine hK _ _ hS ?_
        clear hK K hg
        refine take_at 13 (some 33) (v := ?vya13) rfl rfl (by kernel_rfl) (by kernel_rfl) (by kernel_rfl) (by rfl) ?yya13 hS ?tya13
        case yya13 =>
          intro w' hSw
          obtain - := hSw
          go_simp
          (try with_reducible rfl)
        simp only [Act.put, List.setIfInBounds_toArray, List.set_cons_zero, List.set_cons_succ]
        refine next_at 14 rfl (by kernel_rfl) (by rfl) (fun K hK => ?_)
        go_simp
        have hSn := hS.alloc (.cells #[.int .u32 0, .int .u32 0, .int .i64 0, .int .i64 0, .int .i64 0, .int .i64 0] 65)
        have hA := CL.new w7 [.int .u32 0, .int .u32 0, .int .i64 0, .int .i64 0, .int .i64 0, .int .i64 0] 65 _ rfl
        have hga := Gr.size hS
        simp only [List.toArray] at hA
        refine hK _ _ hSn ?_
        clear hK K hS
        have hS := hSn
        clear hSn
        generalize w7.alloc (.cells #[.int .u32 0, .int .u32 0, .int .i64 0, .int .i64 0, .int .i64 0, .int .i64 0] 65) = w8 at hS hA ⊢
        generalize w7.heap.size = ga at hA hga ⊢
        have hcF := hA.fill [.int .u32 h.src, .int .u32 h.dst, .int .i64 h.proto, .int .i64 F, .int .i64 h.id, .int .i64 h.ttl] rfl
        have hsF := hS.fill hga [.int .u32 h.src, .int .u32 h.dst, .int .i64 h.proto, .int .i64 F, .int .i64 h.id, .int .i64 h.ttl] 0
        simp only [fillC, Nat.reduceAdd] at hcF hsF
        obtain ⟨⟨y0, y1, y2, y3, y4, y5⟩, u0, u1, u2, u3, u4, u5⟩ := CL.six hA
        refine next_at 15 rfl (by kernel_rfl) (by rfl) (fun K hK => ?_)
        go_simp
        refine hK _ _ hsF ?_
        clear hK K y0 y1 y2 y3 y4 y5 u0 u1 u2 u3 u4 u5
        refine wpAnyH_done (by kernel_rfl) ?_ _
        refine qz_normal ⟨rfl, ga, ?_, hcF, hsF, hga⟩
        first | with_reducible rfl | exact rfl
      · skip
        go_simp
        have hSn := hS.alloc (.cells #[.int .u32 0, .int .u32 0, .int .i64 0, .int .i64 0, .int .i64 0, .int .i64 0] 65)
        have hA := CL.new w6 [.int .u32 0, .int .u32 0, .int .i64 0, .int .i64 0, .int .i64 0, .int .i64 0] 65 _ rfl
        have hga := Gr.size hS
        simp only [List.toArray] at hA
        refine hK _ _ hSn ?_
        clear hK K hS
        have hS := hSn
        clear hSn
        generalize w6.alloc (.cells #[.int .u32 0, .int .u32 0, .int .i64 0, .int .i64 0, .int .i64 0, .int .i64 0] 65) = w7 at hS hA ⊢
        generalize w6.heap.size = ga at hA hga ⊢
        refine next_at 8 rfl (by kernel_rfl) (by rfl) (fun K hK => ?_)
        go_simp
        refine (HFL.out _).mono ?_
        rintro e w8 ⟨rfl, hg⟩
        replace hS := hS.step hg
        replace hA := hA.gr hg
        refine hK _ _ hS ?_
        clear hK K hg
        refine take_at 13 (some 33) (v := ?vyb13) rfl rfl (by kernel_rfl) (by kernel_rfl) (by kernel_rfl) (by rfl) ?yyb13 hS ?tyb13
        case yyb13 =>
          intro w' hSw
          obtain - := hSw
          go_simp
          (try with_reducible rfl)
        simp only [Act.put, List.setIfInBounds_toArray, List.set_cons_zero, List.set_cons_succ]
        have hcF := hA.fill [.int .u32 h.src, .int .u32 h.dst, .int .i64 h.proto, .int .i64 F, .int .i64 h.id, .int .i64 h.ttl] rfl
        have hsF := hS.fill hga [.int .u32 h.src, .int .u32 h.dst, .int .i64 h.proto, .int .i64 F, .int .i64 h.id, .int .i64 h.ttl] 0
        simp only [fillC, Nat.reduceAdd] at hcF hsF
        obtain ⟨⟨y0, y1, y2, y3, y4, y5⟩, u0, u1, u2, u3, u4, u5⟩ := CL.six hA
        refine next_at 15 rfl (by kernel_rfl) (by rfl) (fun K hK => ?_)
        go_simp
        refine hK _ _ hsF ?_
        clear hK K y0 y1 y2 y3 y4 y5 u0 u1 u2 u3 u4 u5
        refine wpAnyH_done (by kernel_rfl) ?_ _
        refine qz_normal ⟨rfl, ga, ?_, hcF, hsF, hga⟩
        first | with_reducible rfl | exact rfl
    · skip
      go_simp
      have hSn := hS.alloc (.cells #[.int .u32 0, .int .u32 0, .int .i64 0, .int .i64 0, .int .i64 0, .int .i64 0] 65)
      have hA := CL.new w5 [.int .u32 0, .int .u32 0, .int .i64 0, .int .i64 0, .int .i64 0, .int .i64 0] 65 _ rfl
      have hga := Gr.size hS
      simp only [List.toArray] at hA
      refine hK _ _ hSn ?_
      clear hK K hS
      have hS := hSn
      clear hSn
      generalize w5.alloc (.cells #[.int .u32 0, .int .u32 0, .int .i64 0, .int .i64 0, .int .i64 0, .int .i64 0] 65) = w6 at hS hA ⊢
      generalize w5.heap.size = ga at hA hga ⊢
      refine next_at 7 rfl (by kernel_rfl) (by rfl) (fun K hK => ?_)
      go_simp
      refine (HK.out _ hS).mono ?_
      rintro e w7 ⟨rfl, hg⟩
      replace hS := hS.step hg
      replace hA := hA.gr hg
      refine hK _ _ hS ?_
      clear hK K hg
      refine next_at 8 rfl (by kernel_rfl) (by rfl) (fun K hK => ?_)
      go_simp
      refine (HFL.out _).mono ?_
      rintro e w8 ⟨rfl, hg⟩
      replace hS := hS.step hg
      replace hA := hA.gr hg
      refine hK _ _ hS ?_
      clear hK K hg
      refine take_at 13 (some 33) (v := ?vyc13) rfl rfl (by kernel_rfl) (by kernel_rfl) (by kernel_rfl) (by rfl) ?yyc13 hS ?tyc13
      case yyc13 =>
        intro w' hSw
        obtain - := hSw
        go_simp
        (try with_reducible rfl)
      simp only [Act.put, List.setIfInBounds_toArray, List.set_cons_zero, List.set_cons_succ]
      have hcF := hA.fill [.int .u32 h.src, .int .u32 h.dst, .int .i64 h.proto, .int .i64 F, .int .i64 h.id, .int .i64 h.ttl] rfl
      have hsF := hS.fill hga [.int .u32 h.src, .int .u32 h.dst, .int .i64 h.proto, .int .i64 F, .int .i64 h.id, .int .i64 h.ttl] 0
      simp only [fillC, Nat.reduceAdd] at hcF hsF
      obtain ⟨⟨y0, y1, y2, y3, y4, y5⟩, u0, u1, u2, u3, u4, u5⟩ := CL.six hA
      refine next_at 15 rfl (by kernel_rfl) (by rfl) (fun K hK => ?_)
      go_simp
      refine hK _ _ hsF ?_
      clear hK K y0 y1 y2 y3 y4 y5 u0 u1 u2 u3 u4 u5
      refine wpAnyH_done (by kernel_rfl) ?_ _
      refine qz_normal ⟨rfl, ga, ?_, hcF, hsF, hga⟩
      first | with_reducible rfl | exact rfl
  case k =>
    intro ga W5 ⟨hA, hg, hga⟩
    have hne : ga ≠ g1 := by have := hR.lt; omega
    replace hR := hR.gr hg
    replace hG := hG.step hg
    replace HR := Lib.hid (HR.out.gr hG)
    clear hg hga HP HH HV HK HKA HFL HD
    obtain ⟨⟨y0, y1, y2, y3, y4, y5⟩, -⟩ := CL.six hA
    go_wp2_with fail
    clear y0 y1 y2 y3 y4 y5
    refine (HB.out _).mono ?_
    rintro e w6 ⟨v6, rfl, ho, hg⟩
    replace hR := hR.gr hg
    replace hG := hG.step hg
    replace hA := hA.gr hg
    replace HR := Lib.hid (HR.out.gr hg)
    have hv := ho.rb.any
    obtain ⟨a6, c6, rfl, -, -⟩ := hv.form
    have HE := Lib.hid (weq_any w6 hv HR.out)
    rw [HC.out] at HE
    generalize Q.pk.length = K at *
    clear hg ho hv HB HR
    go_wp2_with fail
    refine HE.out.mono ?_
    rintro e w7 ⟨rfl, rfl⟩
    obtain ⟨⟨y0, y1, y2, y3, y4, y5⟩, -⟩ := CL.six hA
    obtain ⟨⟨r0, r1, r2, r3, r4, r5⟩, s0, s1, s2, s3, s4, s5⟩ := CL.six hR
    go_wp2_with fail
    clear r0 r1 r2 r3 r4 r5 s0 s1 s2 s3 s4 s5 y0 y1 y2 y3 y4 y5
    have hcF := hR.fill [.int .u32 h.src, .int .u32 h.dst, .int .i64 h.proto, .int .i64 F, .int .i64 h.id, .int .i64 h.ttl] rfl
    have hgF := hG.fill hgz [.int .u32 h.src, .int .u32 h.dst, .int .i64 h.proto, .int .i64 F, .int .i64 h.id, .int .i64 h.ttl] 0
    simp only [fillC, Nat.reduceAdd] at hcF hgF
    generalize (((((w6.setCell ⟨g1, 0, none⟩ (.int .u32 h.src)).setCell ⟨g1, 1, none⟩ (.int .u32 h.dst)).setCell ⟨g1, 2, none⟩ (.int .i64 h.proto)).setCell ⟨g1, 3, none⟩ (.int .i64 F)).setCell ⟨g1, 4, none⟩ (.int .i64 h.id)).setCell ⟨g1, 5, none⟩ (.int .i64 h.ttl) = wF at hcF hgF ⊢
    obtain ⟨⟨c0, c1, c2, c3, c4, c5⟩, -⟩ := CL.six hcF
    exact bodyPost_ret (v := .tuple #[.agg #[.int .u32 h.src, .int .u32 h.dst, .int .i64 h.proto, .int .i64 F, .int .i64 h.id, .int .i64 h.ttl], .int .i64 0]) (by simp [results, Try.results38, go_sem, c0, c1, c2, c3, c4, c5]) rfl ⟨rfl, hgF⟩
set_option maxHeartbeats 2000000 in
theorem pRead_diff {p : Nat → Prop} {v : Value} {l : List Nat} (w : World) (hr : Rb p w v l) (hl : l.length ≤ 90000) (hn : dcE l = 0) (Q : Pr) (k : Q.ok) (hq : prV (hdAt l).src (hdAt l).dst (hdAt l).proto (flI (hdAt l).proto (kA (hdAt l).proto (l.drop 20)) (kB (hdAt l).proto (l.drop 20))) (hdAt l).id (hdAt l).ttl = Q.v) (hc : decide (Q.pk = l) = false) :
    Calls Try.prog 38 #[v] w fun e w' => e = .returned (.tuple #[prZ, .int .i64 17]) ∧ Gr w w' := by
  have HD := Lib.hid (fun w' (g : Gr w w') => decode_ok w' (hr.gr g) hl hn)
  have hkA : kA (hdAt l).proto (l.drop 20) < 65536 := by unfold kA; split; exact gN_lt (fun x hx => hr.bytes x (List.mem_of_mem_drop hx)) 0 2; omega
  have hkB : kB (hdAt l).proto (l.drop 20) < 65536 := by unfold kB; split; exact gN_lt (fun x hx => hr.bytes x (List.mem_of_mem_drop hx)) 2 2; omega
  obtain ⟨F, hF⟩ : ∃ F, F = flI (hdAt l).proto (kA (hdAt l).proto (l.drop 20)) (kB (hdAt l).proto (l.drop 20)) := ⟨_, rfl⟩
  have HFL := Lib.hid (fun W => pflow_any (hdAt l).src (hdAt l).dst (hdAt l).proto (kA (hdAt l).proto (l.drop 20)) (kB (hdAt l).proto (l.drop 20)) W hkA hkB)
  rw [show (if ((hdAt l).proto : Int) = 1 then (kB (hdAt l).proto (l.drop 20) : Int) - 16384 else (kA (hdAt l).proto (l.drop 20) : Int) - 20000) = F by rw [hF]; unfold flI; split <;> split <;> first | rfl | omega] at HFL
  rw [← hF] at hq
  clear hkA hkB hF
  have HB := Lib.hid (fun W => pbuild_ok Q k W)
  rw [← hq] at HB
  have HC := Lib.hid hc
  clear hq hc k hl hn
  generalize hdAt l = h at *
  generalize l.drop 20 = d at *
  (try unfold prZ)
  obtain ⟨av, cv, rfl, -, -⟩ := hr.form
  have HR := Lib.hid hr
  generalize l.length = N at *
  unfold Hd.p pkV at HD
  have HKA := Lib.hid (fun (v : Value) (w : World) (hv : Rb (fun _ => True) w v d) => pkey_any h w hv)
  unfold Hd.p pkV at HKA
  generalize kA h.proto d = A at *
  generalize kB h.proto d = B at *
  unfold kyV prV at *
  clear hr
  go_enter Try.func38, Try.ntmps38
  go_upto_region 1 with fail
  have hR := CL.new w [.int .u32 0, .int .u32 0, .int .i64 0, .int .i64 0, .int .i64 0, .int .i64 0] 65 _ rfl
  have hG := (Gr.refl w).alloc (.cells #[.int .u32 0, .int .u32 0, .int .i64 0, .int .i64 0, .int .i64 0, .int .i64 0] 65)
  have hgz := Nat.le_refl w.heap.size
  simp only [List.toArray] at hR
  generalize w.alloc (.cells #[.int .u32 0, .int .u32 0, .int .i64 0, .int .i64 0, .int .i64 0, .int .i64 0] 65) = w1 at hR hG ⊢
  generalize hge : w.heap.size = g1 at hR ⊢
  rw [hge] at hgz
  replace hgz : w.heap.size ≤ g1 := by omega
  clear hge
  go_wp2_with fail
  refine (HD.out _ hG).mono ?_
  rintro e w2 ⟨v2, rfl, ho, hg⟩
  have hv := ho.rb.any
  obtain ⟨a2, c2, rfl, -, -⟩ := hv.form
  generalize d.length = M at *
  replace hR := hR.gr hg
  replace hG := hG.step hg
  clear hg ho
  have hP := CL.new w2 [.int .i64 h.tos, .int .i64 h.id, .int .i64 h.ttl, .int .i64 h.proto, .bool h.keep, .int .u32 h.src, .int .u32 h.dst, .slice a2 M c2] 85 _ rfl
  have hg3 := Gr.alloc (Gr.refl w2) (.cells #[.int .i64 h.tos, .int .i64 h.id, .int .i64 h.ttl, .int .i64 h.proto, .bool h.keep, .int .u32 h.src, .int .u32 h.dst, .slice a2 M c2] 85)
  simp only [List.toArray] at hP
  go_upto_region 2 with fail
  generalize w2.alloc (.cells #[.int .i64 h.tos, .int .i64 h.id, .int .i64 h.ttl, .int .i64 h.proto, .bool h.keep, .int .u32 h.src, .int .u32 h.dst, .slice a2 M c2] 85) = w3 at hP hg3 ⊢
  generalize w2.heap.size = gp at hP ⊢
  replace hR := hR.gr hg3
  replace hG := hG.step hg3
  replace hv := hv.gr hg3
  clear hg3
  obtain ⟨⟨q0, q1, q2, q3, q4, q5, q6, q7⟩, -⟩ := hP.eight
  go_upto_region 5 with fail
  clear q0 q1 q2 q3 q4 q5 q6 q7
  have hH := CL.new w3 [.int .i64 h.tos, .int .i64 h.id, .int .i64 h.ttl, .int .i64 h.proto, .bool h.keep, .int .u32 h.src, .int .u32 h.dst] 83 _ rfl
  have hg3 := Gr.alloc (Gr.refl w3) (.cells #[.int .i64 h.tos, .int .i64 h.id, .int .i64 h.ttl, .int .i64 h.proto, .bool h.keep, .int .u32 h.src, .int .u32 h.dst] 83)
  simp only [List.toArray] at hH
  generalize w3.alloc (.cells #[.int .i64 h.tos, .int .i64 h.id, .int .i64 h.ttl, .int .i64 h.proto, .bool h.keep, .int .u32 h.src, .int .u32 h.dst] 83) = w4 at hH hg3 ⊢
  generalize w3.heap.size = gh at hH ⊢
  replace hR := hR.gr hg3
  replace hG := hG.step hg3
  have HV := Lib.hid (hv.gr hg3)
  have HP := Lib.hid (hP.gr hg3)
  have HH := Lib.hid hH
  clear hg3 hv hP hH
  have HK := Lib.hid (fun W (g : Gr w4 W) => HKA.out _ W (HV.out.gr g))
  refine region_cut1 ?aF (fun g W => CL W g [.int .u32 h.src, .int .u32 h.dst, .int .i64 h.proto, .int .i64 F, .int .i64 h.id, .int .i64 h.ttl] ∧ Gr w4 W ∧ w4.heap.size ≤ g) ?h ?k
  case h =>
    have hS : Gr w4 w4.drew := Gr.drew (Gr.refl _)
    refine region_plain (Gr w4) (by kernel_rfl) ?_
    generalize w4.drew = w5 at hS ⊢
    refine take_at 0 (some 20) (v := ?vd0) rfl rfl (by kernel_rfl) (by kernel_rfl) (by kernel_rfl) (by rfl) ?yd0 hS ?td0
    case yd0 =>
      intro w' hSw
      obtain - := hSw
      go_simp
      (try with_reducible rfl)
    simp only [Act.put, List.setIfInBounds_toArray, List.set_cons_zero, List.set_cons_succ]
    refine take_at 1 (some 21) (v := ?vd1) rfl rfl (by kernel_rfl) (by kernel_rfl) (by kernel_rfl) (by rfl) ?yd1 hS ?td1
    case yd1 =>
      intro w' hSw
      obtain ⟨⟨q0, q1, q2, q3, q4, q5, q6⟩, -⟩ := (HH.out.gr hSw).seven
      go_simp
      (try with_reducible rfl)
    simp only [Act.put, List.setIfInBounds_toArray, List.set_cons_zero, List.set_cons_succ]
    refine take_at 2 (some 22) (v := ?vd2) rfl rfl (by kernel_rfl) (by kernel_rfl) (by kernel_rfl) (by rfl) ?yd2 hS ?td2
    case yd2 =>
      intro w' hSw
      obtain - := hSw
      go_simp
      (try with_reducible rfl)
    simp only [Act.put, List.setIfInBounds_toArray, List.set_cons_zero, List.set_cons_succ]
    refine take_at 3 (some 23) (v := ?vd3) rfl rfl (by kernel_rfl) (by kernel_rfl) (by kernel_rfl) (by rfl) ?yd3 hS ?td3
    case yd3 =>
      intro w' hSw
      obtain ⟨⟨q0, q1, q2, q3, q4, q5, q6⟩, -⟩ := (HH.out.gr hSw).seven
      go_simp
      (try with_reducible rfl)
    simp only [Act.put, List.setIfInBounds_toArray, List.set_cons_zero, List.set_cons_succ]
    refine take_at 4 (some 24) (v := ?vd4) rfl rfl (by kernel_rfl) (by kernel_rfl) (by kernel_rfl) (by rfl) ?yd4 hS ?td4
    case yd4 =>
      intro w' hSw
      obtain - := hSw
      go_simp
      (try with_reducible rfl)
    simp only [Act.put, List.setIfInBounds_toArray, List.set_cons_zero, List.set_cons_succ]
    refine take_at 5 (some 25) (v := ?vd5) rfl rfl (by kernel_rfl) (by kernel_rfl) (by kernel_rfl) (by rfl) ?yd5 hS ?td5
    case yd5 =>
      intro w' hSw
      obtain ⟨⟨q0, q1, q2, q3, q4, q5, q6⟩, -⟩ := (HH.out.gr hSw).seven
      go_simp
      (try with_reducible rfl)
    simp only [Act.put, List.setIfInBounds_toArray, List.set_cons_zero, List.set_cons_succ]
    refine take_at 6 (some 26) (v := ?vd6) rfl rfl (by kernel_rfl) (by kernel_rfl) (by kernel_rfl) (by rfl) ?yd6 hS ?td6
    case yd6 =>
      intro w' hSw
      obtain ⟨⟨q0, q1, q2, q3, q4, q5, q6, q7⟩, -⟩ := (HP.out.gr hSw).eight
      go_simp
      (try with_reducible rfl)
    simp only [Act.put, List.setIfInBounds_toArray, List.set_cons_zero, List.set_cons_succ]
    refine take_at 9 (some 29) (v := ?vd9) rfl rfl (by kernel_rfl) (by kernel_rfl) (by kernel_rfl) (by rfl) ?yd9 hS ?td9
    case yd9 =>
      intro w' hSw
      obtain - := hSw
      go_simp
      (try with_reducible rfl)
    simp only [Act.put, List.setIfInBounds_toArray, List.set_cons_zero, List.set_cons_succ]
    refine take_at 10 (some 30) (v := ?vd10) rfl rfl (by kernel_rfl) (by kernel_rfl) (by kernel_rfl) (by rfl) ?yd10 hS ?td10
    case yd10 =>
      intro w' hSw
      obtain ⟨⟨q0, q1, q2, q3, q4, q5, q6⟩, -⟩ := (HH.out.gr hSw).seven
      go_simp
      (try with_reducible rfl)
    simp only [Act.put, List.setIfInBounds_toArray, List.set_cons_zero, List.set_cons_succ]
    refine take_at 11 (some 31) (v := ?vd11) rfl rfl (by kernel_rfl) (by kernel_rfl) (by kernel_rfl) (by rfl) ?yd11 hS ?td11
    case yd11 =>
      intro w' hSw
      obtain - := hSw
      go_simp
      (try with_reducible rfl)
    simp only [Act.put, List.setIfInBounds_toArray, List.set_cons_zero, List.set_cons_succ]
    refine take_at 12 (some 32) (v := ?vd12) rfl rfl (by kernel_rfl) (by kernel_rfl) (by kernel_rfl) (by rfl) ?yd12 hS ?td12
    case yd12 =>
      intro w' hSw
      obtain ⟨⟨q0, q1, q2, q3, q4, q5, q6⟩, -⟩ := (HH.out.gr hSw).seven
      go_simp
      (try with_reducible rfl)
    simp only [Act.put, List.setIfInBounds_toArray, List.set_cons_zero, List.set_cons_succ]
    refine next_two 7 14 rfl rfl (by kernel_rfl) (by rfl) (by rfl) (fun K hK => ?_) (fun K hK => ?_)
    · skip
      go_simp
      refine (HK.out _ hS).mono ?_
      rintro e w6 ⟨rfl, hg⟩
      replace hS := hS.step hg
      refine hK _ _ hS ?_
      clear hK K hg
      refine next_two 8 14 rfl rfl (by kernel_rfl) (by rfl) (by rfl) (fun K hK => ?_) (fun K hK => ?_)
      · skip
        go_simp
        refine (HFL.out _).mono ?_
        rintro e w7 ⟨rfl, hg⟩
        replace hS := hS.step hg
        refine hK _ _ hS ?_
        clear hK K hg
        refine take_at 13 (some 33) (v := ?vda13) rfl rfl (by kernel_rfl) (by kernel_rfl) (by kernel_rfl) (by rfl) ?yda13 hS ?tda13
        case yda13 =>
          intro w' hSw
          obtain - := hSw
          go_simp
          (try with_reducible rfl)
        simp only [Act.put, List.setIfInBounds_toArray, List.set_cons_zero, List.set_cons_succ]
        refine next_at 14 rfl (by kernel_rfl) (by rfl) (fun K hK => ?_)
        go_simp
        have hSn := hS.alloc (.cells #[.int .u32 0, .int .u32 0, .int .i64 0, .int .i64 0, .int .i64 0, .int .i64 0] 65)
        have hA := CL.new w7 [.int .u32 0, .int .u32 0, .int .i64 0, .int .i64 0, .int .i64 0, .int .i64 0] 65 _ rfl
        have hga := Gr.size hS
        simp only [List.toArray] at hA
        refine hK _ _ hSn ?_
        clear hK K hS
        have hS := hSn
        clear hSn
        generalize w7.alloc (.cells #[.int .u32 0, .int .u32 0, .int .i64 0, .int .i64 0, .int .i64 0, .int .i64 0] 65) = w8 at hS hA ⊢
        generalize w7.heap.size = ga at hA hga ⊢
        have hcF := hA.fill [.int .u32 h.src, .int .u32 h.dst, .int .i64 h.proto, .int .i64 F, .int .i64 h.id, .int .i64 h.ttl] rfl
        have hsF := hS.fill hga [.int .u32 h.src, .int .u32 h.dst, .int .i64 h.proto, .int .i64 F, .int .i64 h.id, .int .i64 h.ttl] 0
        simp only [fillC, Nat.reduceAdd] at hcF hsF
        obtain ⟨⟨y0, y1, y2, y3, y4, y5⟩, u0, u1, u2, u3, u4, u5⟩ := CL.six hA
        refine next_at 15 rfl (by kernel_rfl) (by rfl) (fun K hK => ?_)
        go_simp
        refine hK _ _ hsF ?_
        clear hK K y0 y1 y2 y3 y4 y5 u0 u1 u2 u3 u4 u5
        refine wpAnyH_done (by kernel_rfl) ?_ _
        refine qz_normal ⟨rfl, ga, ?_, hcF, hsF, hga⟩
        first | with_reducible rfl | exact rfl
      · skip
        go_simp
        have hSn := hS.alloc (.cells #[.int .u32 0, .int .u32 0, .int .i64 0, .int .i64 0, .int .i64 0, .int .i64 0] 65)
        have hA := CL.new w6 [.int .u32 0, .int .u32 0, .int .i64 0, .int .i64 0, .int .i64 0, .int .i64 0] 65 _ rfl
        have hga := Gr.size hS
        simp only [List.toArray] at hA
        refine hK _ _ hSn ?_
        clear hK K hS
        have hS := hSn
        clear hSn
        generalize w6.alloc (.cells #[.int .u32 0, .int .u32 0, .int .i64 0, .int .i64 0, .int .i64 0, .int .i64 0] 65) = w7 at hS hA ⊢
        generalize w6.heap.size = ga at hA hga ⊢
        refine next_at 8 rfl (by kernel_rfl) (by rfl) (fun K hK => ?_)
        go_simp
        refine (HFL.out _).mono ?_
        rintro e w8 ⟨rfl, hg⟩
        replace hS := hS.step hg
        replace hA := hA.gr hg
        refine hK _ _ hS ?_
        clear hK K hg
        refine take_at 13 (some 33) (v := ?vdb13) rfl rfl (by kernel_rfl) (by kernel_rfl) (by kernel_rfl) (by rfl) ?ydb13 hS ?tdb13
        case ydb13 =>
          intro w' hSw
          obtain - := hSw
          go_simp
          (try with_reducible rfl)
        simp only [Act.put, List.setIfInBounds_toArray, List.set_cons_zero, List.set_cons_succ]
        have hcF := hA.fill [.int .u32 h.src, .int .u32 h.dst, .int .i64 h.proto, .int .i64 F, .int .i64 h.id, .int .i64 h.ttl] rfl
        have hsF := hS.fill hga [.int .u32 h.src, .int .u32 h.dst, .int .i64 h.proto, .int .i64 F, .int .i64 h.id, .int .i64 h.ttl] 0
        simp only [fillC, Nat.reduceAdd] at hcF hsF
        obtain ⟨⟨y0, y1, y2, y3, y4, y5⟩, u0, u1, u2, u3, u4, u5⟩ := CL.six hA
        refine next_at 15 rfl (by kernel_rfl) (by rfl) (fun K hK => ?_)
        go_simp
        refine hK _ _ hsF ?_
        clear hK K y0 y1 y2 y3 y4 y5 u0 u1 u2 u3 u4 u5
        refine wpAnyH_done (by kernel_rfl) ?_ _
        refine qz_normal ⟨rfl, ga, ?_, hcF, hsF, hga⟩
        first | with_reducible rfl | exact rfl
    · skip
      go_simp
      have hSn := hS.alloc (.cells #[.int .u32 0, .int .u32 0, .int .i64 0, .int .i64 0, .int .i64 0, .int .i64 0] 65)
      have hA := CL.new w5 [.int .u32 0, .int .u32 0, .int .i64 0, .int .i64 0, .int .i64 0, .int .i64 0] 65 _ rfl
      have hga := Gr.size hS
      simp only [List.toArray] at hA
      refine hK _ _ hSn ?_
      clear hK K hS
      have hS := hSn
      clear hSn
      generalize w5.alloc (.cells #[.int .u32 0, .int .u32 0, .int .i64 0, .int .i64 0, .int .i64 0, .int .i64 0] 65) = w6 at hS hA ⊢
      generalize w5.heap.size = ga at hA hga ⊢
      refine next_at 7 rfl (by kernel_rfl) (by rfl) (fun K hK => ?_)
      go_simp
      refine (HK.out _ hS).mono ?_
      rintro e w7 ⟨rfl, hg⟩
      replace hS := hS.step hg
      replace hA := hA.gr hg
      refine hK _ _ hS ?_
      clear hK K hg
      refine next_at 8 rfl (by kernel_rfl) (by rfl) (fun K hK => ?_)
      go_simp
      refine (HFL.out _).mono ?_
      rintro e w8 ⟨rfl, hg⟩
      replace hS := hS.step hg
      replace hA := hA.gr hg
      refine hK _ _ hS ?_
      clear hK K hg
      refine take_at 13 (some 33) (v := ?vdc13) rfl rfl (by kernel_rfl) (by kernel_rfl) (by kernel_rfl) (by rfl) ?ydc13 hS ?tdc13
      case ydc13 =>
        intro w' hSw
        obtain - := hSw
        go_simp
        (try with_reducible rfl)
      simp only [Act.put, List.setIfInBounds_toArray, List.set_cons_zero, List.set_cons_succ]
      have hcF := hA.fill [.int .u32 h.src, .int .u32 h.dst, .int .i64 h.proto, .int .i64 F, .int .i64 h.id, .int .i64 h.ttl] rfl
      have hsF := hS.fill hga [.int .u32 h.src, .int .u32 h.dst, .int .i64 h.proto, .int .i64 F, .int .i64 h.id, .int .i64 h.ttl] 0
      simp only [fillC, Nat.reduceAdd] at hcF hsF
      obtain ⟨⟨y0, y1, y2, y3, y4, y5⟩, u0, u1, u2, u3, u4, u5⟩ := CL.six hA
      refine next_at 15 rfl (by kernel_rfl) (by rfl) (fun K hK => ?_)
      go_simp
      refine hK _ _ hsF ?_
      clear hK K y0 y1 y2 y3 y4 y5 u0 u1 u2 u3 u4 u5
      refine wpAnyH_done (by kernel_rfl) ?_ _
      refine qz_normal ⟨rfl, ga, ?_, hcF, hsF, hga⟩
      first | with_reducible rfl | exact rfl
  case k =>
    intro ga W5 ⟨hA, hg, hga⟩
    have hne : ga ≠ g1 := by have := hR.lt; omega
    replace hR := hR.gr hg
    replace hG := hG.step hg
    replace HR := Lib.hid (HR.out.gr hG)
    clear hg hga HP HH HV HK HKA HFL HD
    obtain ⟨⟨y0, y1, y2, y3, y4, y5⟩, -⟩ := CL.six hA
    go_wp2_with fail
    clear y0 y1 y2 y3 y4 y5
    refine (HB.out _).mono ?_
    rintro e w6 ⟨v6, rfl, ho, hg⟩
    replace hR := hR.gr hg
    replace hG := hG.step hg
    replace hA := hA.gr hg
    replace HR := Lib.hid (HR.out.gr hg)
    have hv := ho.rb.any
    obtain ⟨a6, c6, rfl, -, -⟩ := hv.form
    have HE := Lib.hid (weq_any w6 hv HR.out)
    rw [HC.out] at HE
    generalize Q.pk.length = K at *
    clear hg ho hv HB HR
    go_wp2_with fail
    refine HE.out.mono ?_
    rintro e w7 ⟨rfl, rfl⟩
    obtain ⟨⟨y0, y1, y2, y3, y4, y5⟩, -⟩ := CL.six hA
    obtain ⟨⟨r0, r1, r2, r3, r4, r5⟩, s0, s1, s2, s3, s4, s5⟩ := CL.six hR
    go_wp2_with fail
    clear r0 r1 r2 r3 r4 r5 s0 s1 s2 s3 s4 s5 y0 y1 y2 y3 y4 y5
    have hcF := hR.fill [.int .u32 0, .int .u32 0, .int .i64 0, .int .i64 0, .int .i64 0, .int .i64 0] rfl
    have hgF := hG.fill hgz [.int .u32 0, .int .u32 0, .int .i64 0, .int .i64 0, .int .i64 0, .int .i64 0] 0
    simp only [fillC, Nat.reduceAdd] at hcF hgF
    generalize (((((w6.setCell ⟨g1, 0, none⟩ (.int .u32 0)).setCell ⟨g1, 1, none⟩ (.int .u32 0)).setCell ⟨g1, 2, none⟩ (.int .i64 0)).setCell ⟨g1, 3, none⟩ (.int .i64 0)).setCell ⟨g1, 4, none⟩ (.int .i64 0)).setCell ⟨g1, 5, none⟩ (.int .i64 0) = wF at hcF hgF ⊢
    obtain ⟨⟨c0, c1, c2, c3, c4, c5⟩, -⟩ := CL.six hcF
    exact bodyPost_ret (v := .tuple #[.agg #[.int .u32 0, .int .u32 0, .int .i64 0, .int .i64 0, .int .i64 0, .int .i64 0], .int .i64 17]) (by simp [results, Try.results38, go_sem, c0, c1, c2, c3, c4, c5]) rfl ⟨rfl, hgF⟩
/-- no other bytes are the packet of a probe -/
theorem Pr.of_pk {P : Pr} (k : P.ok) : prV (hdAt P.pk).src (hdAt P.pk).dst (hdAt P.pk).proto (flI (hdAt P.pk).proto (kA (hdAt P.pk).proto (P.pk.drop 20)) (kB (hdAt P.pk).proto (P.pk.drop 20))) (hdAt P.pk).id (hdAt P.pk).ttl = P.v := by
  rw [(Pr.pk_dc k).2.1, (Pr.pk_dc k).2.2]
  show prV P.src P.dst P.proto (flI P.proto (kA P.proto P.data) (kB P.proto P.data)) P.tag P.ttl = P.v
  rw [(Pr.key_at k).1, (Pr.key_at k).2, Pr.fl_at]
  rfl
theorem pRead_ok {p : Nat → Prop} {v : Value} (P : Pr) (k : P.ok) (w : World) (hr : Rb p w v P.pk) :
    Calls Try.prog 38 #[v] w fun e w' => e = .returned (.tuple #[P.v, .int .i64 0]) ∧ Gr w w' := by
  have := pRead_yes w hr (by have := (Pr.pk_len k).2; omega) (Pr.pk_dc k).1 P k (Pr.of_pk k) (decide_eq_true rfl)
  rw [Pr.of_pk k] at this
  exact this
theorem v_inj {P Q : Pr} (h : P.v = Q.v) : P = Q := by
  obtain ⟨a, b, c, d, e, f⟩ := P
  obtain ⟨a', b', c', d', e', f'⟩ := Q
  simp only [Pr.v, prV, Value.agg.injEq, Array.mk.injEq, List.cons.injEq, Value.int.injEq, true_and, and_true] at h
  obtain ⟨h1, h2, h3, h4, h5, h6⟩ := h
  congr <;> omega
theorem pRead_bad {p : Nat → Prop} {v : Value} {l : List Nat} (w : World) (hr : Rb p w v l) (hl : l.length ≤ 90000) (hno : ¬ ∃ P : Pr, P.ok ∧ P.pk = l) :
    Calls Try.prog 38 #[v] w fun e w' => e = .returned (.tuple #[prZ, .int .i64 17]) ∧ Gr w w' := by
  by_cases hn : dcE l = 0
  · by_cases hb : prbE (hdAt l).proto (flI (hdAt l).proto (kA (hdAt l).proto (l.drop 20)) (kB (hdAt l).proto (l.drop 20))) (hdAt l).id (hdAt l).ttl = 0
    · obtain ⟨Q, k, hq, -⟩ := pr_of (hdAt_ok hr.bytes).src (hdAt_ok hr.bytes).dst hb
      exact pRead_diff w hr hl hn Q k hq (decide_eq_false fun h => hno ⟨Q, k, h⟩)
    · exact pRead_no w hr hl hn hb
  · exact pRead_err w hr hl hn
end Go.Proofs.Ytlkhdbgknkjioaa
