/- Reading answers. -/
import Derived.Test.YtkpejaiigopmgaaGreatDoorGY
import Derived.Test.YtkpejaiigopmgaaGreatDoorGX
import Derived.Test.YtkpejaiigopmgaaGreatDoorGF
import Derived.Deep.WholeRow
import Derived.WalkKit
import Derived.WalkSpells
import Derived.WalkLawsBesides
import Derived.WalkSmall
import Derived.Handy
import Derived.BigQuiet
import Derived.Deep.QuietTactic
import Derived.Deep.RegionHeld3
import Derived.Deep.DeepFit
import Derived.Below
import Derived.Lib.Hide
import Derived.Lib.QuietBelow
namespace Go.Proofs.YtkpejaiigopmgaaGreatDoor
open Go Go.RowKit Go.Sort
set_option maxRecDepth 100000
set_option linter.unusedVariables false
set_option linter.unusedSimpArgs false
/-- bytes that are no packet -/
theorem read_err {p : Nat → Prop} {v : Value} {l : List Nat} (w : World) (hr : Rb p w v l) (hl : l.length ≤ 90000) (hn : dcE l ≠ 0) :
    Calls Tryz.prog 12 #[v] w fun e w' => e = .returned (.tuple #[prV 0 0 0 0 0 0, anV 0 0 0 0 0 0, .int .i64 17]) ∧ Gr w w' := by
  have HD := Lib.hid (fun w' (g : Gr w w') => decode_err w' (hr.gr g) hl hn)
  unfold DcErr at HD
  generalize dcE l = E at *
  have d1 : ((E : Int) != 0) = true := by rw [bne_iff_ne]; omega
  obtain ⟨av, cv, rfl, -, -⟩ := hr.form
  generalize l.length = N at *
  clear hr hl hn
  unfold prV anV pkV at *
  have hA := (CL.new w [.int .u32 0, .int .u32 0, .int .i64 0, .int .i64 0, .int .i64 0, .int .i64 0] 29 _ rfl).gr (Gr.alloc (Gr.refl _) (.cells #[.int .u32 0, .int .i64 0, .int .i64 0, .int .i64 0, .int .i64 0, .int .i64 0] 39))
  have hB := CL.new (w.alloc (.cells #[.int .u32 0, .int .u32 0, .int .i64 0, .int .i64 0, .int .i64 0, .int .i64 0] 29)) [.int .u32 0, .int .i64 0, .int .i64 0, .int .i64 0, .int .i64 0, .int .i64 0] 39 (w.heap.size + 1) (by simp)
  have hG := ((Gr.refl w).alloc (.cells #[.int .u32 0, .int .u32 0, .int .i64 0, .int .i64 0, .int .i64 0, .int .i64 0] 29)).alloc (.cells #[.int .u32 0, .int .i64 0, .int .i64 0, .int .i64 0, .int .i64 0, .int .i64 0] 39)
  simp only [List.toArray] at hA hB
  go_enter Tryz.func12, Tryz.ntmps12
  go_upto_region 1 with fail
  generalize (w.alloc (.cells #[.int .u32 0, .int .u32 0, .int .i64 0, .int .i64 0, .int .i64 0, .int .i64 0] 29)).alloc (.cells #[.int .u32 0, .int .i64 0, .int .i64 0, .int .i64 0, .int .i64 0, .int .i64 0] 39) = w1 at hA hB hG ⊢
  generalize hga : w.heap.size = ga at hA hB ⊢
  generalize hgb : ga + 1 = gb at hB ⊢
  have hgaw : w.heap.size ≤ ga := by omega
  have hgbw : w.heap.size ≤ gb := by omega
  have hab : ga ≠ gb := by omega
  clear hga hgb
  go_wp2_with fail
  refine (HD.out _ hG).mono ?_
  rintro e w2 ⟨rfl, hg⟩
  have hg3 := hg.step (Gr.alloc (Gr.refl w2) (.cells #[.int .i64 0, .int .i64 0, .int .i64 0, .int .i64 0, .bool false, .int .u32 0, .int .u32 0, .slice none 0 0] 55))
  replace hA := hA.gr hg3
  replace hB := hB.gr hg3
  replace hG := hG.step hg3
  clear hg hg3
  go_upto_region 3 with fail
  generalize w2.alloc (.cells #[.int .i64 0, .int .i64 0, .int .i64 0, .int .i64 0, .bool false, .int .u32 0, .int .u32 0, .slice none 0 0] 55) = w3 at hA hB hG ⊢
  obtain ⟨⟨x0, x1, x2, x3, x4, x5⟩, u0, u1, u2, u3, u4, u5⟩ := CL.six hA
  obtain ⟨⟨y0, y1, y2, y3, y4, y5⟩, v0, v1, v2, v3, v4, v5⟩ := CL.six hB
  go_wp2_with fail
  clear x0 x1 x2 x3 x4 x5 u0 u1 u2 u3 u4 u5 y0 y1 y2 y3 y4 y5 v0 v1 v2 v3 v4 v5
  have hA2 := hA.fill [.int .u32 0, .int .u32 0, .int .i64 0, .int .i64 0, .int .i64 0, .int .i64 0] rfl
  have hB2 := CL.fillO hB hab.symm [.int .u32 0, .int .u32 0, .int .i64 0, .int .i64 0, .int .i64 0, .int .i64 0] 0
  have hG2 := hG.fill hgaw [.int .u32 0, .int .u32 0, .int .i64 0, .int .i64 0, .int .i64 0, .int .i64 0] 0
  simp only [fillC, Nat.reduceAdd] at hA2 hB2 hG2
  generalize (((((w3.setCell ⟨ga, 0, none⟩ (.int .u32 0)).setCell ⟨ga, 1, none⟩ (.int .u32 0)).setCell ⟨ga, 2, none⟩ (.int .i64 0)).setCell ⟨ga, 3, none⟩ (.int .i64 0)).setCell ⟨ga, 4, none⟩ (.int .i64 0)).setCell ⟨ga, 5, none⟩ (.int .i64 0) = w4 at hA2 hB2 hG2 ⊢
  have hA3 := CL.fillO hA2 hab [.int .u32 0, .int .i64 0, .int .i64 0, .int .i64 0, .int .i64 0, .int .i64 0] 0
  have hB3 := hB2.fill [.int .u32 0, .int .i64 0, .int .i64 0, .int .i64 0, .int .i64 0, .int .i64 0] rfl
  have hG3 := hG2.fill hgbw [.int .u32 0, .int .i64 0, .int .i64 0, .int .i64 0, .int .i64 0, .int .i64 0] 0
  simp only [fillC, Nat.reduceAdd] at hA3 hB3 hG3
  generalize (((((w4.setCell ⟨gb, 0, none⟩ (.int .u32 0)).setCell ⟨gb, 1, none⟩ (.int .i64 0)).setCell ⟨gb, 2, none⟩ (.int .i64 0)).setCell ⟨gb, 3, none⟩ (.int .i64 0)).setCell ⟨gb, 4, none⟩ (.int .i64 0)).setCell ⟨gb, 5, none⟩ (.int .i64 0) = w5 at hA3 hB3 hG3 ⊢
  obtain ⟨⟨x0, x1, x2, x3, x4, x5⟩, -⟩ := CL.six hA3
  obtain ⟨⟨y0, y1, y2, y3, y4, y5⟩, -⟩ := CL.six hB3
  exact bodyPost_ret (v := .tuple #[.agg #[.int .u32 0, .int .u32 0, .int .i64 0, .int .i64 0, .int .i64 0, .int .i64 0], .agg #[.int .u32 0, .int .i64 0, .int .i64 0, .int .i64 0, .int .i64 0, .int .i64 0], .int .i64 17]) (by simp [results, Tryz.results12, go_sem, x0, x1, x2, x3, x4, x5, y0, y1, y2, y3, y4, y5]) rfl ⟨rfl, hG3⟩
set_option maxHeartbeats 2000000 in
theorem read_note {p : Nat → Prop} {v : Value} (h : Hd) (P : Pr) (t c : Nat) (w : World) (hh : h.ok) (k : P.ok) (hp : h.proto = 1) (hd : h.dst = P.src) (hr : Rb p w v (enc h (noteL t c P.qt))) (ht : t = 3 ∨ t = 11) (hc : c < 256) (K : Nat) (hK : K = if t = 11 then 1 else if c = 3 then 3 else 5) :
    Calls Tryz.prog 12 #[v] w fun e w' => e = .returned (.tuple #[prV P.src P.dst P.proto P.flow P.tag 0, anV h.src K c h.ttl h.id P.ttl, .int .i64 0]) ∧ Gr w w' := by
  have hl : (noteL t c P.qt).length = 36 := nt_len k t c
  obtain ⟨d, hd2⟩ : ∃ d, d = noteL t c P.qt := ⟨_, rfl⟩
  have HN := Lib.hid (fun (g : Nat) (v' : Value) (w' : World) (hR : Rdg w' g h v' 0 0 0 0 0 0 0 0 0 0 0 0) (hv : Rb (fun _ => True) w' v' d) => notice_yes g h v' P t c w' hR k hp hd (by rw [← hd2]; exact hv) ht hc K hK)
  rw [← hd2] at hr hl
  have HD := Lib.hid (fun w' (g : Gr w w') => decode_enc hh w' (hr.gr g) (by omega))
  obtain ⟨av, cv, rfl, -, -⟩ := hr.form
  generalize (enc h d).length = N at *
  clear hr hl hh hp hd ht hc hK hd2 k
  unfold prV anV Hd.p pkV at *
  have hA := (CL.new w [.int .u32 0, .int .u32 0, .int .i64 0, .int .i64 0, .int .i64 0, .int .i64 0] 29 _ rfl).gr (Gr.alloc (Gr.refl _) (.cells #[.int .u32 0, .int .i64 0, .int .i64 0, .int .i64 0, .int .i64 0, .int .i64 0] 39))
  have hB := CL.new (w.alloc (.cells #[.int .u32 0, .int .u32 0, .int .i64 0, .int .i64 0, .int .i64 0, .int .i64 0] 29)) [.int .u32 0, .int .i64 0, .int .i64 0, .int .i64 0, .int .i64 0, .int .i64 0] 39 (w.heap.size + 1) (by simp)
  have hG := ((Gr.refl w).alloc (.cells #[.int .u32 0, .int .u32 0, .int .i64 0, .int .i64 0, .int .i64 0, .int .i64 0] 29)).alloc (.cells #[.int .u32 0, .int .i64 0, .int .i64 0, .int .i64 0, .int .i64 0, .int .i64 0] 39)
  simp only [List.toArray] at hA hB
  go_enter Tryz.func12, Tryz.ntmps12
  go_upto_region 1 with fail
  generalize (w.alloc (.cells #[.int .u32 0, .int .u32 0, .int .i64 0, .int .i64 0, .int .i64 0, .int .i64 0] 29)).alloc (.cells #[.int .u32 0, .int .i64 0, .int .i64 0, .int .i64 0, .int .i64 0, .int .i64 0] 39) = w1 at hA hB hG ⊢
  generalize hga : w.heap.size = ga at hA hB ⊢
  generalize hgb : ga + 1 = gb at hB ⊢
  have hgaw : w.heap.size ≤ ga := by omega
  have hgbw : w.heap.size ≤ gb := by omega
  have hab : ga ≠ gb := by omega
  clear hga hgb
  go_wp2_with fail
  refine (HD.out _ hG).mono ?_
  rintro e w2 ⟨v2, rfl, ho, hg⟩
  replace hA := hA.gr hg
  replace hB := hB.gr hg
  replace hG := hG.step hg
  clear hg HD
  have hv := ho.rb.any
  obtain ⟨a2, c2, rfl, -, -⟩ := hv.form
  generalize d.length = M at *
  clear ho
  have hP := CL.new w2 [.int .i64 h.tos, .int .i64 h.id, .int .i64 h.ttl, .int .i64 h.proto, .bool h.keep, .int .u32 h.src, .int .u32 h.dst, .slice a2 M c2] 55 _ rfl
  have hg3 := Gr.alloc (Gr.refl w2) (.cells #[.int .i64 h.tos, .int .i64 h.id, .int .i64 h.ttl, .int .i64 h.proto, .bool h.keep, .int .u32 h.src, .int .u32 h.dst, .slice a2 M c2] 55)
  simp only [List.toArray] at hP
  go_upto_region 4 with fail
  generalize w2.alloc (.cells #[.int .i64 h.tos, .int .i64 h.id, .int .i64 h.ttl, .int .i64 h.proto, .bool h.keep, .int .u32 h.src, .int .u32 h.dst, .slice a2 M c2] 55) = w3 at hP hg3 ⊢
  generalize w2.heap.size = gp at hP ⊢
  replace hA := hA.gr hg3
  replace hB := hB.gr hg3
  replace hG := hG.step hg3
  replace hv := hv.gr hg3
  clear hg3
  obtain ⟨⟨x0, x1, x2, x3, x4, x5, x6, x7⟩, -⟩ := hP.eight
  have hR : Rdg (w3.alloc (.cells (rdg h (.slice a2 M c2) 0 0 0 0 0 0 0 0 0 0 0 0).toArray 70)) w3.heap.size h (.slice a2 M c2) 0 0 0 0 0 0 0 0 0 0 0 0 := CL.new w3 _ _ _ rfl
  have hg3 := Gr.alloc (Gr.refl w3) (.cells (rdg h (.slice a2 M c2) 0 0 0 0 0 0 0 0 0 0 0 0).toArray 70)
  unfold rdg at hR hg3
  simp only [List.toArray] at hR hg3
  have hgr := Gr.size hG
  have hb : ∀ w, (Instr.build 70 #[(0, Value.agg #[.int .i64 h.tos, .int .i64 h.id, .int .i64 h.ttl, .int .i64 h.proto, .bool h.keep, .int .u32 h.src, .int .u32 h.dst, .slice a2 M c2])]).run Tryz.prog w = .ok (.agg #[.int .i64 h.tos, .int .i64 h.id, .int .i64 h.ttl, .int .i64 h.proto, .bool h.keep, .int .u32 h.src, .int .u32 h.dst, .slice a2 M c2, .int .u32 0, .int .u32 0, .int .i64 0, .int .i64 0, .int .i64 0, .int .i64 0, .int .u32 0, .int .i64 0, .int .i64 0, .int .i64 0, .int .i64 0, .int .i64 0]) w := fun w => run_build w _ _ _ (by kernel_rfl)
  refine wp_region_list ?_
  refine wpList_plain rfl (fun K hK => ?_)
  go_simp
  refine hK _ _ ?_
  clear hK K
  refine wpList_plain rfl (fun K hK => ?_)
  go_simp
  refine hK _ _ ?_
  clear hK K
  refine wpList_plain rfl (fun K hK => ?_)
  go_simp
  refine hK _ _ ?_
  clear hK K
  refine wpList_store_row rfl 70 _ _ rfl w3.heap.size #[.int .i64 h.tos, .int .i64 h.id, .int .i64 h.ttl, .int .i64 h.proto, .bool h.keep, .int .u32 h.src, .int .u32 h.dst, .slice a2 M c2, .int .u32 0, .int .u32 0, .int .i64 0, .int .i64 0, .int .i64 0, .int .i64 0, .int .u32 0, .int .i64 0, .int .i64 0, .int .i64 0, .int .i64 0, .int .i64 0] rfl rfl 70 #[.int .i64 0, .int .i64 0, .int .i64 0, .int .i64 0, .bool false, .int .u32 0, .int .u32 0, .slice none 0 0, .int .u32 0, .int .u32 0, .int .i64 0, .int .i64 0, .int .i64 0, .int .i64 0, .int .u32 0, .int .i64 0, .int .i64 0, .int .i64 0, .int .i64 0, .int .i64 0] (heap_alloc_last w3 _) (by kernel_rfl) rfl (by kernel_rfl) ?_
  rw [World.setRow_alloc_new]
  clear x0 x1 x2 x3 x4 x5 x6 x7 hP hb
  generalize w3.alloc (.cells #[.int .i64 h.tos, .int .i64 h.id, .int .i64 h.ttl, .int .i64 h.proto, .bool h.keep, .int .u32 h.src, .int .u32 h.dst, .slice a2 M c2, .int .u32 0, .int .u32 0, .int .i64 0, .int .i64 0, .int .i64 0, .int .i64 0, .int .u32 0, .int .i64 0, .int .i64 0, .int .i64 0, .int .i64 0, .int .i64 0] 70) = w4 at hR hg3 ⊢
  have hra : w3.heap.size ≠ ga := by have := hA.lt; omega
  have hrb : w3.heap.size ≠ gb := by have := hB.lt; omega
  generalize w3.heap.size = g at hR hgr hra hrb ⊢
  replace hA := hA.gr hg3
  replace hB := hB.gr hg3
  replace hG := hG.step hg3
  replace hv := hv.gr hg3
  clear hg3
  go_wp2_with fail
  refine (HN.out _ _ _ hR hv).mono ?_
  rintro e w9 ⟨rfl, hR9, hx⟩
  replace hA := hA.ex hx hra.symm
  replace hB := hB.ex hx hrb.symm
  replace hG := Ex.gr hG hgr hx
  clear hx hR hv
  go_upto_region 9 with fail
  replace hA := hA.gr (Gr.drew (Gr.refl _))
  replace hB := hB.gr (Gr.drew (Gr.refl _))
  replace hG := hG.step (Gr.drew (Gr.refl _))
  have hS := hR9.gr (Gr.drew (Gr.refl _))
  clear hR9
  refine region_plain (fun W => Rdg W g h (.slice a2 M c2) P.src P.dst P.proto P.flow P.tag 0 h.src K c h.ttl h.id P.ttl) (by kernel_rfl) ?_
  generalize w9.drew = w10 at hA hB hG hS ⊢
  refine take_at 0 (some 27) (v := ?vn0) rfl rfl (by kernel_rfl) (by kernel_rfl) (by kernel_rfl) (by rfl) ?yn0 hS ?tn0
  case yn0 =>
    intro w' hSw
    obtain - := hSw
    go_simp
    (try with_reducible rfl)
  simp only [Act.put, List.setIfInBounds_toArray, List.set_cons_zero, List.set_cons_succ]
  refine take_at 1 (some 28) (v := ?vn1) rfl rfl (by kernel_rfl) (by kernel_rfl) (by kernel_rfl) (by rfl) ?yn1 hS ?tn1
  case yn1 =>
    intro w' hSw
    obtain ⟨⟨q0, q1, q2, q3, q4, q5⟩, -⟩ := hSw.probe
    go_simp
    (try with_reducible rfl)
  simp only [Act.put, List.setIfInBounds_toArray, List.set_cons_zero, List.set_cons_succ]
  refine take_at 2 (some 29) (v := ?vn2) rfl rfl (by kernel_rfl) (by kernel_rfl) (by kernel_rfl) (by rfl) ?yn2 hS ?tn2
  case yn2 =>
    intro w' hSw
    obtain - := hSw
    go_simp
    (try with_reducible rfl)
  simp only [Act.put, List.setIfInBounds_toArray, List.set_cons_zero, List.set_cons_succ]
  refine take_at 3 (some 30) (v := ?vn3) rfl rfl (by kernel_rfl) (by kernel_rfl) (by kernel_rfl) (by rfl) ?yn3 hS ?tn3
  case yn3 =>
    intro w' hSw
    obtain ⟨⟨q0, q1, q2, q3, q4, q5⟩, -⟩ := hSw.ans
    go_simp
    (try with_reducible rfl)
  simp only [Act.put, List.setIfInBounds_toArray, List.set_cons_zero, List.set_cons_succ]
  have hA2 := hA.fill [.int .u32 P.src, .int .u32 P.dst, .int .i64 P.proto, .int .i64 P.flow, .int .i64 P.tag, .int .i64 0] rfl
  have hB2 := CL.fillO hB hab.symm [.int .u32 P.src, .int .u32 P.dst, .int .i64 P.proto, .int .i64 P.flow, .int .i64 P.tag, .int .i64 0] 0
  have hG2 := hG.fill hgaw [.int .u32 P.src, .int .u32 P.dst, .int .i64 P.proto, .int .i64 P.flow, .int .i64 P.tag, .int .i64 0] 0
  simp only [fillC, Nat.reduceAdd] at hA2 hB2 hG2
  have hS2 := CL.fillO hS hra [.int .u32 P.src, .int .u32 P.dst, .int .i64 P.proto, .int .i64 P.flow, .int .i64 P.tag, .int .i64 0] 0
  simp only [fillC, Nat.reduceAdd] at hS2
  obtain ⟨⟨x0, x1, x2, x3, x4, x5⟩, u0, u1, u2, u3, u4, u5⟩ := CL.six hA
  refine next_at 4 rfl (by kernel_rfl) (by rfl) (fun K hK => ?_)
  go_simp
  refine hK _ _ hS2 ?_
  clear hK K x0 x1 x2 x3 x4 x5 u0 u1 u2 u3 u4 u5 hA hB hG hS
  generalize (((((w10.setCell ⟨ga, 0, none⟩ (.int .u32 P.src)).setCell ⟨ga, 1, none⟩ (.int .u32 P.dst)).setCell ⟨ga, 2, none⟩ (.int .i64 P.proto)).setCell ⟨ga, 3, none⟩ (.int .i64 P.flow)).setCell ⟨ga, 4, none⟩ (.int .i64 P.tag)).setCell ⟨ga, 5, none⟩ (.int .i64 0) = w11 at hA2 hB2 hG2 hS2 ⊢
  have hA3 := CL.fillO hA2 hab [.int .u32 h.src, .int .i64 K, .int .i64 c, .int .i64 h.ttl, .int .i64 h.id, .int .i64 P.ttl] 0
  have hB3 := hB2.fill [.int .u32 h.src, .int .i64 K, .int .i64 c, .int .i64 h.ttl, .int .i64 h.id, .int .i64 P.ttl] rfl
  have hG3 := hG2.fill hgbw [.int .u32 h.src, .int .i64 K, .int .i64 c, .int .i64 h.ttl, .int .i64 h.id, .int .i64 P.ttl] 0
  simp only [fillC, Nat.reduceAdd] at hA3 hB3 hG3
  have hS3 := CL.fillO hS2 hrb [.int .u32 h.src, .int .i64 K, .int .i64 c, .int .i64 h.ttl, .int .i64 h.id, .int .i64 P.ttl] 0
  simp only [fillC, Nat.reduceAdd] at hS3
  obtain ⟨⟨y0, y1, y2, y3, y4, y5⟩, v0, v1, v2, v3, v4, v5⟩ := CL.six hB2
  refine next_at 5 rfl (by kernel_rfl) (by rfl) (fun K hK => ?_)
  go_simp
  refine hK _ _ hS3 ?_
  clear hK K y0 y1 y2 y3 y4 y5 v0 v1 v2 v3 v4 v5 hA2 hB2 hG2 hS2
  generalize (((((w11.setCell ⟨gb, 0, none⟩ (.int .u32 h.src)).setCell ⟨gb, 1, none⟩ (.int .i64 K)).setCell ⟨gb, 2, none⟩ (.int .i64 c)).setCell ⟨gb, 3, none⟩ (.int .i64 h.ttl)).setCell ⟨gb, 4, none⟩ (.int .i64 h.id)).setCell ⟨gb, 5, none⟩ (.int .i64 P.ttl) = w12 at hA3 hB3 hG3 hS3 ⊢
  refine next_at 6 rfl (by kernel_rfl) (by rfl) (fun K hK => ?_)
  go_simp
  refine hK _ _ hS3 ?_
  clear hK K
  refine wpAnyH_done (by kernel_rfl) ?_ _
  refine qz_normal ?_
  obtain ⟨⟨x0, x1, x2, x3, x4, x5⟩, -⟩ := CL.six hA3
  obtain ⟨⟨y0, y1, y2, y3, y4, y5⟩, -⟩ := CL.six hB3
  go_wp2_with fail
  exact bodyPost_ret (v := .tuple #[.agg #[.int .u32 P.src, .int .u32 P.dst, .int .i64 P.proto, .int .i64 P.flow, .int .i64 P.tag, .int .i64 0], .agg #[.int .u32 h.src, .int .i64 K, .int .i64 c, .int .i64 h.ttl, .int .i64 h.id, .int .i64 P.ttl], .int .i64 0]) (by simp [results, Tryz.results12, go_sem, x0, x1, x2, x3, x4, x5, y0, y1, y2, y3, y4, y5]) rfl ⟨rfl, hG3⟩
set_option maxHeartbeats 2000000 in
theorem read_echo {p : Nat → Prop} {v : Value} (h : Hd) (t f : Nat) (w : World) (hh : h.ok) (ht : t ≤ 65534) (hf : f ≤ 1023) (hp : h.proto = 1) (hr : Rb p w v (enc h (erD t f))) :
    Calls Tryz.prog 12 #[v] w fun e w' => e = .returned (.tuple #[prV h.dst h.src h.proto f t 0, anV h.src 2 0 h.ttl h.id 0, .int .i64 0]) ∧ Gr w w' := by
  have hl : (erD t f).length = 10 := er_len t f
  have hdc := er_dc (t := t) (f := f) ht
  obtain ⟨d, hd2⟩ : ∃ d, d = erD t f := ⟨_, rfl⟩
  have HN := Lib.hid (fun (g : Nat) (v' : Value) (w' : World) (hR : Rdg w' g h v' 0 0 0 0 0 0 0 0 0 0 0 0) (hv : Rb (fun _ => True) w' v' d) => echo_yes g h v' t f w' hR ht hf hp (by rw [← hd2]; exact hv))
  rw [← hd2] at hr hl hdc
  have HO := Lib.hid (fun (g : Nat) (v' : Value) (w' : World) (hR : Rdg w' g h v' 0 0 0 0 0 0 0 0 0 0 0 0) (hv : Rb (fun _ => True) w' v' d) => notice_no g h v' d w' hR hv (by omega) hdc.1)
  have HD := Lib.hid (fun w' (g : Gr w w') => decode_enc hh w' (hr.gr g) (by omega))
  obtain ⟨av, cv, rfl, -, -⟩ := hr.form
  generalize (enc h d).length = N at *
  clear hr hl hh hp hd2 ht hf hdc
  unfold prV anV Hd.p pkV at *
  have hA := (CL.new w [.int .u32 0, .int .u32 0, .int .i64 0, .int .i64 0, .int .i64 0, .int .i64 0] 29 _ rfl).gr (Gr.alloc (Gr.refl _) (.cells #[.int .u32 0, .int .i64 0, .int .i64 0, .int .i64 0, .int .i64 0, .int .i64 0] 39))
  have hB := CL.new (w.alloc (.cells #[.int .u32 0, .int .u32 0, .int .i64 0, .int .i64 0, .int .i64 0, .int .i64 0] 29)) [.int .u32 0, .int .i64 0, .int .i64 0, .int .i64 0, .int .i64 0, .int .i64 0] 39 (w.heap.size + 1) (by simp)
  have hG := ((Gr.refl w).alloc (.cells #[.int .u32 0, .int .u32 0, .int .i64 0, .int .i64 0, .int .i64 0, .int .i64 0] 29)).alloc (.cells #[.int .u32 0, .int .i64 0, .int .i64 0, .int .i64 0, .int .i64 0, .int .i64 0] 39)
  simp only [List.toArray] at hA hB
  go_enter Tryz.func12, Tryz.ntmps12
  go_upto_region 1 with fail
  generalize (w.alloc (.cells #[.int .u32 0, .int .u32 0, .int .i64 0, .int .i64 0, .int .i64 0, .int .i64 0] 29)).alloc (.cells #[.int .u32 0, .int .i64 0, .int .i64 0, .int .i64 0, .int .i64 0, .int .i64 0] 39) = w1 at hA hB hG ⊢
  generalize hga : w.heap.size = ga at hA hB ⊢
  generalize hgb : ga + 1 = gb at hB ⊢
  have hgaw : w.heap.size ≤ ga := by omega
  have hgbw : w.heap.size ≤ gb := by omega
  have hab : ga ≠ gb := by omega
  clear hga hgb
  go_wp2_with fail
  refine (HD.out _ hG).mono ?_
  rintro e w2 ⟨v2, rfl, ho, hg⟩
  replace hA := hA.gr hg
  replace hB := hB.gr hg
  replace hG := hG.step hg
  clear hg HD
  have hv := ho.rb.any
  obtain ⟨a2, c2, rfl, -, -⟩ := hv.form
  generalize d.length = M at *
  clear ho
  have hP := CL.new w2 [.int .i64 h.tos, .int .i64 h.id, .int .i64 h.ttl, .int .i64 h.proto, .bool h.keep, .int .u32 h.src, .int .u32 h.dst, .slice a2 M c2] 55 _ rfl
  have hg3 := Gr.alloc (Gr.refl w2) (.cells #[.int .i64 h.tos, .int .i64 h.id, .int .i64 h.ttl, .int .i64 h.proto, .bool h.keep, .int .u32 h.src, .int .u32 h.dst, .slice a2 M c2] 55)
  simp only [List.toArray] at hP
  go_upto_region 4 with fail
  generalize w2.alloc (.cells #[.int .i64 h.tos, .int .i64 h.id, .int .i64 h.ttl, .int .i64 h.proto, .bool h.keep, .int .u32 h.src, .int .u32 h.dst, .slice a2 M c2] 55) = w3 at hP hg3 ⊢
  generalize w2.heap.size = gp at hP ⊢
  replace hA := hA.gr hg3
  replace hB := hB.gr hg3
  replace hG := hG.step hg3
  replace hv := hv.gr hg3
  clear hg3
  obtain ⟨⟨x0, x1, x2, x3, x4, x5, x6, x7⟩, -⟩ := hP.eight
  have hR : Rdg (w3.alloc (.cells (rdg h (.slice a2 M c2) 0 0 0 0 0 0 0 0 0 0 0 0).toArray 70)) w3.heap.size h (.slice a2 M c2) 0 0 0 0 0 0 0 0 0 0 0 0 := CL.new w3 _ _ _ rfl
  have hg3 := Gr.alloc (Gr.refl w3) (.cells (rdg h (.slice a2 M c2) 0 0 0 0 0 0 0 0 0 0 0 0).toArray 70)
  unfold rdg at hR hg3
  simp only [List.toArray] at hR hg3
  have hgr := Gr.size hG
  have hb : ∀ w, (Instr.build 70 #[(0, Value.agg #[.int .i64 h.tos, .int .i64 h.id, .int .i64 h.ttl, .int .i64 h.proto, .bool h.keep, .int .u32 h.src, .int .u32 h.dst, .slice a2 M c2])]).run Tryz.prog w = .ok (.agg #[.int .i64 h.tos, .int .i64 h.id, .int .i64 h.ttl, .int .i64 h.proto, .bool h.keep, .int .u32 h.src, .int .u32 h.dst, .slice a2 M c2, .int .u32 0, .int .u32 0, .int .i64 0, .int .i64 0, .int .i64 0, .int .i64 0, .int .u32 0, .int .i64 0, .int .i64 0, .int .i64 0, .int .i64 0, .int .i64 0]) w := fun w => run_build w _ _ _ (by kernel_rfl)
  refine wp_region_list ?_
  refine wpList_plain rfl (fun K hK => ?_)
  go_simp
  refine hK _ _ ?_
  clear hK K
  refine wpList_plain rfl (fun K hK => ?_)
  go_simp
  refine hK _ _ ?_
  clear hK K
  refine wpList_plain rfl (fun K hK => ?_)
  go_simp
  refine hK _ _ ?_
  clear hK K
  refine wpList_store_row rfl 70 _ _ rfl w3.heap.size #[.int .i64 h.tos, .int .i64 h.id, .int .i64 h.ttl, .int .i64 h.proto, .bool h.keep, .int .u32 h.src, .int .u32 h.dst, .slice a2 M c2, .int .u32 0, .int .u32 0, .int .i64 0, .int .i64 0, .int .i64 0, .int .i64 0, .int .u32 0, .int .i64 0, .int .i64 0, .int .i64 0, .int .i64 0, .int .i64 0] rfl rfl 70 #[.int .i64 0, .int .i64 0, .int .i64 0, .int .i64 0, .bool false, .int .u32 0, .int .u32 0, .slice none 0 0, .int .u32 0, .int .u32 0, .int .i64 0, .int .i64 0, .int .i64 0, .int .i64 0, .int .u32 0, .int .i64 0, .int .i64 0, .int .i64 0, .int .i64 0, .int .i64 0] (heap_alloc_last w3 _) (by kernel_rfl) rfl (by kernel_rfl) ?_
  rw [World.setRow_alloc_new]
  clear x0 x1 x2 x3 x4 x5 x6 x7 hP hb
  generalize w3.alloc (.cells #[.int .i64 h.tos, .int .i64 h.id, .int .i64 h.ttl, .int .i64 h.proto, .bool h.keep, .int .u32 h.src, .int .u32 h.dst, .slice a2 M c2, .int .u32 0, .int .u32 0, .int .i64 0, .int .i64 0, .int .i64 0, .int .i64 0, .int .u32 0, .int .i64 0, .int .i64 0, .int .i64 0, .int .i64 0, .int .i64 0] 70) = w4 at hR hg3 ⊢
  have hra : w3.heap.size ≠ ga := by have := hA.lt; omega
  have hrb : w3.heap.size ≠ gb := by have := hB.lt; omega
  generalize w3.heap.size = g at hR hgr hra hrb ⊢
  replace hA := hA.gr hg3
  replace hB := hB.gr hg3
  replace hG := hG.step hg3
  replace hv := hv.gr hg3
  clear hg3
  go_wp2_with fail
  refine (HO.out _ _ _ hR hv).mono ?_
  rintro e w5 ⟨rfl, hg⟩
  replace hA := hA.gr hg
  replace hB := hB.gr hg
  replace hR := hR.gr hg
  replace hv := hv.gr hg
  replace hgr := Nat.le_trans hgr (Nat.le_refl _)
  replace hG := hG.step hg
  clear hg
  go_wp2_with fail
  refine (HN.out _ _ _ hR hv).mono ?_
  rintro e w9 ⟨rfl, hR9, hx⟩
  replace hA := hA.ex hx hra.symm
  replace hB := hB.ex hx hrb.symm
  replace hG := Ex.gr hG hgr hx
  clear hx hR hv
  go_upto_region 9 with fail
  replace hA := hA.gr (Gr.drew (Gr.refl _))
  replace hB := hB.gr (Gr.drew (Gr.refl _))
  replace hG := hG.step (Gr.drew (Gr.refl _))
  have hS := hR9.gr (Gr.drew (Gr.refl _))
  clear hR9
  refine region_plain (fun W => Rdg W g h (.slice a2 M c2) h.dst h.src h.proto f t 0 h.src 2 0 h.ttl h.id 0) (by kernel_rfl) ?_
  generalize w9.drew = w10 at hA hB hG hS ⊢
  refine take_at 0 (some 27) (v := ?ve0) rfl rfl (by kernel_rfl) (by kernel_rfl) (by kernel_rfl) (by rfl) ?ye0 hS ?te0
  case ye0 =>
    intro w' hSw
    obtain - := hSw
    go_simp
    (try with_reducible rfl)
  simp only [Act.put, List.setIfInBounds_toArray, List.set_cons_zero, List.set_cons_succ]
  refine take_at 1 (some 28) (v := ?ve1) rfl rfl (by kernel_rfl) (by kernel_rfl) (by kernel_rfl) (by rfl) ?ye1 hS ?te1
  case ye1 =>
    intro w' hSw
    obtain ⟨⟨q0, q1, q2, q3, q4, q5⟩, -⟩ := hSw.probe
    go_simp
    (try with_reducible rfl)
  simp only [Act.put, List.setIfInBounds_toArray, List.set_cons_zero, List.set_cons_succ]
  refine take_at 2 (some 29) (v := ?ve2) rfl rfl (by kernel_rfl) (by kernel_rfl) (by kernel_rfl) (by rfl) ?ye2 hS ?te2
  case ye2 =>
    intro w' hSw
    obtain - := hSw
    go_simp
    (try with_reducible rfl)
  simp only [Act.put, List.setIfInBounds_toArray, List.set_cons_zero, List.set_cons_succ]
  refine take_at 3 (some 30) (v := ?ve3) rfl rfl (by kernel_rfl) (by kernel_rfl) (by kernel_rfl) (by rfl) ?ye3 hS ?te3
  case ye3 =>
    intro w' hSw
    obtain ⟨⟨q0, q1, q2, q3, q4, q5⟩, -⟩ := hSw.ans
    go_simp
    (try with_reducible rfl)
  simp only [Act.put, List.setIfInBounds_toArray, List.set_cons_zero, List.set_cons_succ]
  have hA2 := hA.fill [.int .u32 h.dst, .int .u32 h.src, .int .i64 h.proto, .int .i64 f, .int .i64 t, .int .i64 0] rfl
  have hB2 := CL.fillO hB hab.symm [.int .u32 h.dst, .int .u32 h.src, .int .i64 h.proto, .int .i64 f, .int .i64 t, .int .i64 0] 0
  have hG2 := hG.fill hgaw [.int .u32 h.dst, .int .u32 h.src, .int .i64 h.proto, .int .i64 f, .int .i64 t, .int .i64 0] 0
  simp only [fillC, Nat.reduceAdd] at hA2 hB2 hG2
  have hS2 := CL.fillO hS hra [.int .u32 h.dst, .int .u32 h.src, .int .i64 h.proto, .int .i64 f, .int .i64 t, .int .i64 0] 0
  simp only [fillC, Nat.reduceAdd] at hS2
  obtain ⟨⟨x0, x1, x2, x3, x4, x5⟩, u0, u1, u2, u3, u4, u5⟩ := CL.six hA
  refine next_at 4 rfl (by kernel_rfl) (by rfl) (fun K hK => ?_)
  go_simp
  refine hK _ _ hS2 ?_
  clear hK K x0 x1 x2 x3 x4 x5 u0 u1 u2 u3 u4 u5 hA hB hG hS
  generalize (((((w10.setCell ⟨ga, 0, none⟩ (.int .u32 h.dst)).setCell ⟨ga, 1, none⟩ (.int .u32 h.src)).setCell ⟨ga, 2, none⟩ (.int .i64 h.proto)).setCell ⟨ga, 3, none⟩ (.int .i64 f)).setCell ⟨ga, 4, none⟩ (.int .i64 t)).setCell ⟨ga, 5, none⟩ (.int .i64 0) = w11 at hA2 hB2 hG2 hS2 ⊢
  have hA3 := CL.fillO hA2 hab [.int .u32 h.src, .int .i64 2, .int .i64 0, .int .i64 h.ttl, .int .i64 h.id, .int .i64 0] 0
  have hB3 := hB2.fill [.int .u32 h.src, .int .i64 2, .int .i64 0, .int .i64 h.ttl, .int .i64 h.id, .int .i64 0] rfl
  have hG3 := hG2.fill hgbw [.int .u32 h.src, .int .i64 2, .int .i64 0, .int .i64 h.ttl, .int .i64 h.id, .int .i64 0] 0
  simp only [fillC, Nat.reduceAdd] at hA3 hB3 hG3
  have hS3 := CL.fillO hS2 hrb [.int .u32 h.src, .int .i64 2, .int .i64 0, .int .i64 h.ttl, .int .i64 h.id, .int .i64 0] 0
  simp only [fillC, Nat.reduceAdd] at hS3
  obtain ⟨⟨y0, y1, y2, y3, y4, y5⟩, v0, v1, v2, v3, v4, v5⟩ := CL.six hB2
  refine next_at 5 rfl (by kernel_rfl) (by rfl) (fun K hK => ?_)
  go_simp
  refine hK _ _ hS3 ?_
  clear hK K y0 y1 y2 y3 y4 y5 v0 v1 v2 v3 v4 v5 hA2 hB2 hG2 hS2
  generalize (((((w11.setCell ⟨gb, 0, none⟩ (.int .u32 h.src)).setCell ⟨gb, 1, none⟩ (.int .i64 2)).setCell ⟨gb, 2, none⟩ (.int .i64 0)).setCell ⟨gb, 3, none⟩ (.int .i64 h.ttl)).setCell ⟨gb, 4, none⟩ (.int .i64 h.id)).setCell ⟨gb, 5, none⟩ (.int .i64 0) = w12 at hA3 hB3 hG3 hS3 ⊢
  refine next_at 6 rfl (by kernel_rfl) (by rfl) (fun K hK => ?_)
  go_simp
  refine hK _ _ hS3 ?_
  clear hK K
  refine wpAnyH_done (by kernel_rfl) ?_ _
  refine qz_normal ?_
  obtain ⟨⟨x0, x1, x2, x3, x4, x5⟩, -⟩ := CL.six hA3
  obtain ⟨⟨y0, y1, y2, y3, y4, y5⟩, -⟩ := CL.six hB3
  go_wp2_with fail
  exact bodyPost_ret (v := .tuple #[.agg #[.int .u32 h.dst, .int .u32 h.src, .int .i64 h.proto, .int .i64 f, .int .i64 t, .int .i64 0], .agg #[.int .u32 h.src, .int .i64 2, .int .i64 0, .int .i64 h.ttl, .int .i64 h.id, .int .i64 0], .int .i64 0]) (by simp [results, Tryz.results12, go_sem, x0, x1, x2, x3, x4, x5, y0, y1, y2, y3, y4, y5]) rfl ⟨rfl, hG3⟩
set_option maxHeartbeats 2000000 in
theorem read_reset {p : Nat → Prop} {v : Value} (h : Hd) (P : Pr) (w : World) (hh : h.ok) (k : P.ok) (hp : h.proto = 6) (hd : h.dst = P.src) (hr : Rb p w v (enc h (rsD P h.src))) :
    Calls Tryz.prog 12 #[v] w fun e w' => e = .returned (.tuple #[prV h.dst h.src h.proto P.flow P.tag 0, anV h.src 4 0 h.ttl h.id 0, .int .i64 0]) ∧ Gr w w' := by
  have hl : (rsD P h.src).length = 20 := rs_len P h.src
  have hdc := rs_dc k h.src
  obtain ⟨d, hd2⟩ : ∃ d, d = rsD P h.src := ⟨_, rfl⟩
  have HN := Lib.hid (fun (g : Nat) (v' : Value) (w' : World) (hR : Rdg w' g h v' 0 0 0 0 0 0 0 0 0 0 0 0) (hv : Rb (fun _ => True) w' v' d) => reset_yes g h v' P w' hR k hh hp hd (by rw [← hd2]; exact hv))
  rw [← hd2] at hr hl hdc
  have HO := Lib.hid (fun (g : Nat) (v' : Value) (w' : World) (hR : Rdg w' g h v' 0 0 0 0 0 0 0 0 0 0 0 0) (hv : Rb (fun _ => True) w' v' d) => notice_no g h v' d w' hR hv (by omega) hdc.1)
  have HE := Lib.hid (fun (g : Nat) (v' : Value) (w' : World) (hR : Rdg w' g h v' 0 0 0 0 0 0 0 0 0 0 0 0) (hv : Rb (fun _ => True) w' v' d) => echo_no g h v' d w' hR hv (by omega) hdc.2.1)
  have HD := Lib.hid (fun w' (g : Gr w w') => decode_enc hh w' (hr.gr g) (by omega))
  obtain ⟨av, cv, rfl, -, -⟩ := hr.form
  generalize (enc h d).length = N at *
  clear hr hl hh hp hd2 hd hdc k
  unfold prV anV Hd.p pkV at *
  have hA := (CL.new w [.int .u32 0, .int .u32 0, .int .i64 0, .int .i64 0, .int .i64 0, .int .i64 0] 29 _ rfl).gr (Gr.alloc (Gr.refl _) (.cells #[.int .u32 0, .int .i64 0, .int .i64 0, .int .i64 0, .int .i64 0, .int .i64 0] 39))
  have hB := CL.new (w.alloc (.cells #[.int .u32 0, .int .u32 0, .int .i64 0, .int .i64 0, .int .i64 0, .int .i64 0] 29)) [.int .u32 0, .int .i64 0, .int .i64 0, .int .i64 0, .int .i64 0, .int .i64 0] 39 (w.heap.size + 1) (by simp)
  have hG := ((Gr.refl w).alloc (.cells #[.int .u32 0, .int .u32 0, .int .i64 0, .int .i64 0, .int .i64 0, .int .i64 0] 29)).alloc (.cells #[.int .u32 0, .int .i64 0, .int .i64 0, .int .i64 0, .int .i64 0, .int .i64 0] 39)
  simp only [List.toArray] at hA hB
  go_enter Tryz.func12, Tryz.ntmps12
  go_upto_region 1 with fail
  generalize (w.alloc (.cells #[.int .u32 0, .int .u32 0, .int .i64 0, .int .i64 0, .int .i64 0, .int .i64 0] 29)).alloc (.cells #[.int .u32 0, .int .i64 0, .int .i64 0, .int .i64 0, .int .i64 0, .int .i64 0] 39) = w1 at hA hB hG ⊢
  generalize hga : w.heap.size = ga at hA hB ⊢
  generalize hgb : ga + 1 = gb at hB ⊢
  have hgaw : w.heap.size ≤ ga := by omega
  have hgbw : w.heap.size ≤ gb := by omega
  have hab : ga ≠ gb := by omega
  clear hga hgb
  go_wp2_with fail
  refine (HD.out _ hG).mono ?_
  rintro e w2 ⟨v2, rfl, ho, hg⟩
  replace hA := hA.gr hg
  replace hB := hB.gr hg
  replace hG := hG.step hg
  clear hg HD
  have hv := ho.rb.any
  obtain ⟨a2, c2, rfl, -, -⟩ := hv.form
  generalize d.length = M at *
  clear ho
  have hP := CL.new w2 [.int .i64 h.tos, .int .i64 h.id, .int .i64 h.ttl, .int .i64 h.proto, .bool h.keep, .int .u32 h.src, .int .u32 h.dst, .slice a2 M c2] 55 _ rfl
  have hg3 := Gr.alloc (Gr.refl w2) (.cells #[.int .i64 h.tos, .int .i64 h.id, .int .i64 h.ttl, .int .i64 h.proto, .bool h.keep, .int .u32 h.src, .int .u32 h.dst, .slice a2 M c2] 55)
  simp only [List.toArray] at hP
  go_upto_region 4 with fail
  generalize w2.alloc (.cells #[.int .i64 h.tos, .int .i64 h.id, .int .i64 h.ttl, .int .i64 h.proto, .bool h.keep, .int .u32 h.src, .int .u32 h.dst, .slice a2 M c2] 55) = w3 at hP hg3 ⊢
  generalize w2.heap.size = gp at hP ⊢
  replace hA := hA.gr hg3
  replace hB := hB.gr hg3
  replace hG := hG.step hg3
  replace hv := hv.gr hg3
  clear hg3
  obtain ⟨⟨x0, x1, x2, x3, x4, x5, x6, x7⟩, -⟩ := hP.eight
  have hR : Rdg (w3.alloc (.cells (rdg h (.slice a2 M c2) 0 0 0 0 0 0 0 0 0 0 0 0).toArray 70)) w3.heap.size h (.slice a2 M c2) 0 0 0 0 0 0 0 0 0 0 0 0 := CL.new w3 _ _ _ rfl
  have hg3 := Gr.alloc (Gr.refl w3) (.cells (rdg h (.slice a2 M c2) 0 0 0 0 0 0 0 0 0 0 0 0).toArray 70)
  unfold rdg at hR hg3
  simp only [List.toArray] at hR hg3
  have hgr := Gr.size hG
  have hb : ∀ w, (Instr.build 70 #[(0, Value.agg #[.int .i64 h.tos, .int .i64 h.id, .int .i64 h.ttl, .int .i64 h.proto, .bool h.keep, .int .u32 h.src, .int .u32 h.dst, .slice a2 M c2])]).run Tryz.prog w = .ok (.agg #[.int .i64 h.tos, .int .i64 h.id, .int .i64 h.ttl, .int .i64 h.proto, .bool h.keep, .int .u32 h.src, .int .u32 h.dst, .slice a2 M c2, .int .u32 0, .int .u32 0, .int .i64 0, .int .i64 0, .int .i64 0, .int .i64 0, .int .u32 0, .int .i64 0, .int .i64 0, .int .i64 0, .int .i64 0, .int .i64 0]) w := fun w => run_build w _ _ _ (by kernel_rfl)
  refine wp_region_list ?_
  refine wpList_plain rfl (fun K hK => ?_)
  go_simp
  refine hK _ _ ?_
  clear hK K
  refine wpList_plain rfl (fun K hK => ?_)
  go_simp
  refine hK _ _ ?_
  clear hK K
  refine wpList_plain rfl (fun K hK => ?_)
  go_simp
  refine hK _ _ ?_
  clear hK K
  refine wpList_store_row rfl 70 _ _ rfl w3.heap.size #[.int .i64 h.tos, .int .i64 h.id, .int .i64 h.ttl, .int .i64 h.proto, .bool h.keep, .int .u32 h.src, .int .u32 h.dst, .slice a2 M c2, .int .u32 0, .int .u32 0, .int .i64 0, .int .i64 0, .int .i64 0, .int .i64 0, .int .u32 0, .int .i64 0, .int .i64 0, .int .i64 0, .int .i64 0, .int .i64 0] rfl rfl 70 #[.int .i64 0, .int .i64 0, .int .i64 0, .int .i64 0, .bool false, .int .u32 0, .int .u32 0, .slice none 0 0, .int .u32 0, .int .u32 0, .int .i64 0, .int .i64 0, .int .i64 0, .int .i64 0, .int .u32 0, .int .i64 0, .int .i64 0, .int .i64 0, .int .i64 0, .int .i64 0] (heap_alloc_last w3 _) (by kernel_rfl) rfl (by kernel_rfl) ?_
  rw [World.setRow_alloc_new]
  clear x0 x1 x2 x3 x4 x5 x6 x7 hP hb
  generalize w3.alloc (.cells #[.int .i64 h.tos, .int .i64 h.id, .int .i64 h.ttl, .int .i64 h.proto, .bool h.keep, .int .u32 h.src, .int .u32 h.dst, .slice a2 M c2, .int .u32 0, .int .u32 0, .int .i64 0, .int .i64 0, .int .i64 0, .int .i64 0, .int .u32 0, .int .i64 0, .int .i64 0, .int .i64 0, .int .i64 0, .int .i64 0] 70) = w4 at hR hg3 ⊢
  have hra : w3.heap.size ≠ ga := by have := hA.lt; omega
  have hrb : w3.heap.size ≠ gb := by have := hB.lt; omega
  generalize w3.heap.size = g at hR hgr hra hrb ⊢
  replace hA := hA.gr hg3
  replace hB := hB.gr hg3
  replace hG := hG.step hg3
  replace hv := hv.gr hg3
  clear hg3
  go_wp2_with fail
  refine (HO.out _ _ _ hR hv).mono ?_
  rintro e w5 ⟨rfl, hg⟩
  replace hA := hA.gr hg
  replace hB := hB.gr hg
  replace hR := hR.gr hg
  replace hv := hv.gr hg
  replace hgr := Nat.le_trans hgr (Nat.le_refl _)
  replace hG := hG.step hg
  clear hg
  go_wp2_with fail
  refine (HE.out _ _ _ hR hv).mono ?_
  rintro e w6 ⟨rfl, hg⟩
  replace hA := hA.gr hg
  replace hB := hB.gr hg
  replace hR := hR.gr hg
  replace hv := hv.gr hg
  replace hgr := Nat.le_trans hgr (Nat.le_refl _)
  replace hG := hG.step hg
  clear hg
  go_wp2_with fail
  refine (HN.out _ _ _ hR hv).mono ?_
  rintro e w9 ⟨rfl, hR9, hx⟩
  replace hA := hA.ex hx hra.symm
  replace hB := hB.ex hx hrb.symm
  replace hG := Ex.gr hG hgr hx
  clear hx hR hv
  go_upto_region 9 with fail
  replace hA := hA.gr (Gr.drew (Gr.refl _))
  replace hB := hB.gr (Gr.drew (Gr.refl _))
  replace hG := hG.step (Gr.drew (Gr.refl _))
  have hS := hR9.gr (Gr.drew (Gr.refl _))
  clear hR9
  refine region_plain (fun W => Rdg W g h (.slice a2 M c2) h.dst h.src h.proto P.flow P.tag 0 h.src 4 0 h.ttl h.id 0) (by kernel_rfl) ?_
  generalize w9.drew = w10 at hA hB hG hS ⊢
  refine take_at 0 (some 27) (v := ?vr0) rfl rfl (by kernel_rfl) (by kernel_rfl) (by kernel_rfl) (by rfl) ?yr0 hS ?tr0
  case yr0 =>
    intro w' hSw
    obtain - := hSw
    go_simp
    (try with_reducible rfl)
  simp only [Act.put, List.setIfInBounds_toArray, List.set_cons_zero, List.set_cons_succ]
  refine take_at 1 (some 28) (v := ?vr1) rfl rfl (by kernel_rfl) (by kernel_rfl) (by kernel_rfl) (by rfl) ?yr1 hS ?tr1
  case yr1 =>
    intro w' hSw
    obtain ⟨⟨q0, q1, q2, q3, q4, q5⟩, -⟩ := hSw.probe
    go_simp
    (try with_reducible rfl)
  simp only [Act.put, List.setIfInBounds_toArray, List.set_cons_zero, List.set_cons_succ]
  refine take_at 2 (some 29) (v := ?vr2) rfl rfl (by kernel_rfl) (by kernel_rfl) (by kernel_rfl) (by rfl) ?yr2 hS ?tr2
  case yr2 =>
    intro w' hSw
    obtain - := hSw
    go_simp
    (try with_reducible rfl)
  simp only [Act.put, List.setIfInBounds_toArray, List.set_cons_zero, List.set_cons_succ]
  refine take_at 3 (some 30) (v := ?vr3) rfl rfl (by kernel_rfl) (by kernel_rfl) (by kernel_rfl) (by rfl) ?yr3 hS ?tr3
  case yr3 =>
    intro w' hSw
    obtain ⟨⟨q0, q1, q2, q3, q4, q5⟩, -⟩ := hSw.ans
    go_simp
    (try with_reducible rfl)
  simp only [Act.put, List.setIfInBounds_toArray, List.set_cons_zero, List.set_cons_succ]
  have hA2 := hA.fill [.int .u32 h.dst, .int .u32 h.src, .int .i64 h.proto, .int .i64 P.flow, .int .i64 P.tag, .int .i64 0] rfl
  have hB2 := CL.fillO hB hab.symm [.int .u32 h.dst, .int .u32 h.src, .int .i64 h.proto, .int .i64 P.flow, .int .i64 P.tag, .int .i64 0] 0
  have hG2 := hG.fill hgaw [.int .u32 h.dst, .int .u32 h.src, .int .i64 h.proto, .int .i64 P.flow, .int .i64 P.tag, .int .i64 0] 0
  simp only [fillC, Nat.reduceAdd] at hA2 hB2 hG2
  have hS2 := CL.fillO hS hra [.int .u32 h.dst, .int .u32 h.src, .int .i64 h.proto, .int .i64 P.flow, .int .i64 P.tag, .int .i64 0] 0
  simp only [fillC, Nat.reduceAdd] at hS2
  obtain ⟨⟨x0, x1, x2, x3, x4, x5⟩, u0, u1, u2, u3, u4, u5⟩ := CL.six hA
  refine next_at 4 rfl (by kernel_rfl) (by rfl) (fun K hK => ?_)
  go_simp
  refine hK _ _ hS2 ?_
  clear hK K x0 x1 x2 x3 x4 x5 u0 u1 u2 u3 u4 u5 hA hB hG hS
  generalize (((((w10.setCell ⟨ga, 0, none⟩ (.int .u32 h.dst)).setCell ⟨ga, 1, none⟩ (.int .u32 h.src)).setCell ⟨ga, 2, none⟩ (.int .i64 h.proto)).setCell ⟨ga, 3, none⟩ (.int .i64 P.flow)).setCell ⟨ga, 4, none⟩ (.int .i64 P.tag)).setCell ⟨ga, 5, none⟩ (.int .i64 0) = w11 at hA2 hB2 hG2 hS2 ⊢
  have hA3 := CL.fillO hA2 hab [.int .u32 h.src, .int .i64 4, .int .i64 0, .int .i64 h.ttl, .int .i64 h.id, .int .i64 0] 0
  have hB3 := hB2.fill [.int .u32 h.src, .int .i64 4, .int .i64 0, .int .i64 h.ttl, .int .i64 h.id, .int .i64 0] rfl
  have hG3 := hG2.fill hgbw [.int .u32 h.src, .int .i64 4, .int .i64 0, .int .i64 h.ttl, .int .i64 h.id, .int .i64 0] 0
  simp only [fillC, Nat.reduceAdd] at hA3 hB3 hG3
  have hS3 := CL.fillO hS2 hrb [.int .u32 h.src, .int .i64 4, .int .i64 0, .int .i64 h.ttl, .int .i64 h.id, .int .i64 0] 0
  simp only [fillC, Nat.reduceAdd] at hS3
  obtain ⟨⟨y0, y1, y2, y3, y4, y5⟩, v0, v1, v2, v3, v4, v5⟩ := CL.six hB2
  refine next_at 5 rfl (by kernel_rfl) (by rfl) (fun K hK => ?_)
  go_simp
  refine hK _ _ hS3 ?_
  clear hK K y0 y1 y2 y3 y4 y5 v0 v1 v2 v3 v4 v5 hA2 hB2 hG2 hS2
  generalize (((((w11.setCell ⟨gb, 0, none⟩ (.int .u32 h.src)).setCell ⟨gb, 1, none⟩ (.int .i64 4)).setCell ⟨gb, 2, none⟩ (.int .i64 0)).setCell ⟨gb, 3, none⟩ (.int .i64 h.ttl)).setCell ⟨gb, 4, none⟩ (.int .i64 h.id)).setCell ⟨gb, 5, none⟩ (.int .i64 0) = w12 at hA3 hB3 hG3 hS3 ⊢
  refine next_at 6 rfl (by kernel_rfl) (by rfl) (fun K hK => ?_)
  go_simp
  refine hK _ _ hS3 ?_
  clear hK K
  refine wpAnyH_done (by kernel_rfl) ?_ _
  refine qz_normal ?_
  obtain ⟨⟨x0, x1, x2, x3, x4, x5⟩, -⟩ := CL.six hA3
  obtain ⟨⟨y0, y1, y2, y3, y4, y5⟩, -⟩ := CL.six hB3
  go_wp2_with fail
  exact bodyPost_ret (v := .tuple #[.agg #[.int .u32 h.dst, .int .u32 h.src, .int .i64 h.proto, .int .i64 P.flow, .int .i64 P.tag, .int .i64 0], .agg #[.int .u32 h.src, .int .i64 4, .int .i64 0, .int .i64 h.ttl, .int .i64 h.id, .int .i64 0], .int .i64 0]) (by simp [results, Tryz.results12, go_sem, x0, x1, x2, x3, x4, x5, y0, y1, y2, y3, y4, y5]) rfl ⟨rfl, hG3⟩
end Go.Proofs.YtkpejaiigopmgaaGreatDoor
