/- Several texts in one. -/
import Derived.Test.YtkpejaiigopmgaaGreatDoorYqM
import Derived.Test.YtkpejaiigopmgaaGreatDoorGH
import Derived.WalkKit
import Derived.WalkSpells
import Derived.WalkLawsBesides
import Derived.WalkSmall
import Derived.Handy
import Derived.BigQuiet
import Derived.Deep.QuietTactic
import Derived.Deep.RegionHeld3
import Derived.Deep.DeepFit
import Derived.Below
import Derived.Lib.Hide
import Derived.Lib.QuietBelow
import Derived.Test.YtkpejaiigopmgaaGreatDoorKhM
import Derived.Test.YtkpejaiigopmgaaGreatDoorGE
/- Reading answers: what is kept. -/
namespace Go.Proofs.YtkpejaiigopmgaaGreatDoor
open Go Go.RowKit Go.Sort
set_option maxRecDepth 100000
set_option linter.unusedVariables false
set_option linter.unusedSimpArgs false
/-- the cells of a packet that is read, of its probe, and of its answer -/
def rdg (h : Hd) (v : Value) (s d pr fl tg tt fr kd cd lf ii qd : Int) : List Value :=
  [.int .i64 h.tos, .int .i64 h.id, .int .i64 h.ttl, .int .i64 h.proto, .bool h.keep, .int .u32 h.src, .int .u32 h.dst, v, .int .u32 s, .int .u32 d, .int .i64 pr, .int .i64 fl, .int .i64 tg, .int .i64 tt, .int .u32 fr, .int .i64 kd, .int .i64 cd, .int .i64 lf, .int .i64 ii, .int .i64 qd]
def anV (fr kd cd lf ii qd : Int) : Value := .agg #[.int .u32 fr, .int .i64 kd, .int .i64 cd, .int .i64 lf, .int .i64 ii, .int .i64 qd]
/-- a packet that is read -/
def Rdg (w : World) (g : Nat) (h : Hd) (v : Value) (s d pr fl tg tt fr kd cd lf ii qd : Int) : Prop := CL w g (rdg h v s d pr fl tg tt fr kd cd lf ii qd)
theorem Rdg.gr {w w' : World} {g : Nat} {h : Hd} {v : Value} {s d pr fl tg tt fr kd cd lf ii qd : Int} (c : Rdg w g h v s d pr fl tg tt fr kd cd lf ii qd) (k : Gr w w') : Rdg w' g h v s d pr fl tg tt fr kd cd lf ii qd := CL.gr c k
theorem Rdg.ex {w w' : World} {g r : Nat} {h : Hd} {v : Value} {s d pr fl tg tt fr kd cd lf ii qd : Int} (c : Rdg w g h v s d pr fl tg tt fr kd cd lf ii qd) (k : Ex r w w') (hr : g ≠ r) : Rdg w' g h v s d pr fl tg tt fr kd cd lf ii qd := CL.ex c k hr
theorem Rdg.head {w : World} {g : Nat} {h : Hd} {v : Value} {s d pr fl tg tt fr kd cd lf ii qd : Int} (c : Rdg w g h v s d pr fl tg tt fr kd cd lf ii qd) :
    w.cell? ⟨g, 0, none⟩ = some (.int .i64 h.tos) ∧ w.cell? ⟨g, 1, none⟩ = some (.int .i64 h.id) ∧ w.cell? ⟨g, 2, none⟩ = some (.int .i64 h.ttl) ∧ w.cell? ⟨g, 3, none⟩ = some (.int .i64 h.proto) ∧ w.cell? ⟨g, 4, none⟩ = some (.bool h.keep) ∧ w.cell? ⟨g, 5, none⟩ = some (.int .u32 h.src) ∧ w.cell? ⟨g, 6, none⟩ = some (.int .u32 h.dst) ∧ w.cell? ⟨g, 7, none⟩ = some v :=
  ⟨(c.at' 0 _ rfl).1, (c.at' 1 _ rfl).1, (c.at' 2 _ rfl).1, (c.at' 3 _ rfl).1, (c.at' 4 _ rfl).1, (c.at' 5 _ rfl).1, (c.at' 6 _ rfl).1, (c.at' 7 _ rfl).1⟩
theorem Rdg.probe {w : World} {g : Nat} {h : Hd} {v : Value} {s d pr fl tg tt fr kd cd lf ii qd : Int} (c : Rdg w g h v s d pr fl tg tt fr kd cd lf ii qd) :
    (w.cell? ⟨g, 8, none⟩ = some (.int .u32 s) ∧ w.cell? ⟨g, 9, none⟩ = some (.int .u32 d) ∧ w.cell? ⟨g, 10, none⟩ = some (.int .i64 pr) ∧ w.cell? ⟨g, 11, none⟩ = some (.int .i64 fl) ∧ w.cell? ⟨g, 12, none⟩ = some (.int .i64 tg) ∧ w.cell? ⟨g, 13, none⟩ = some (.int .i64 tt)) ∧
    w.frozen? ⟨g, 8, none⟩ = false ∧ w.frozen? ⟨g, 9, none⟩ = false ∧ w.frozen? ⟨g, 10, none⟩ = false ∧ w.frozen? ⟨g, 11, none⟩ = false ∧ w.frozen? ⟨g, 12, none⟩ = false ∧ w.frozen? ⟨g, 13, none⟩ = false :=
  ⟨⟨(c.at' 8 _ rfl).1, (c.at' 9 _ rfl).1, (c.at' 10 _ rfl).1, (c.at' 11 _ rfl).1, (c.at' 12 _ rfl).1, (c.at' 13 _ rfl).1⟩, (c.at' 8 _ rfl).2, (c.at' 9 _ rfl).2, (c.at' 10 _ rfl).2, (c.at' 11 _ rfl).2, (c.at' 12 _ rfl).2, (c.at' 13 _ rfl).2⟩
theorem Rdg.ans {w : World} {g : Nat} {h : Hd} {v : Value} {s d pr fl tg tt fr kd cd lf ii qd : Int} (c : Rdg w g h v s d pr fl tg tt fr kd cd lf ii qd) :
    (w.cell? ⟨g, 14, none⟩ = some (.int .u32 fr) ∧ w.cell? ⟨g, 15, none⟩ = some (.int .i64 kd) ∧ w.cell? ⟨g, 16, none⟩ = some (.int .i64 cd) ∧ w.cell? ⟨g, 17, none⟩ = some (.int .i64 lf) ∧ w.cell? ⟨g, 18, none⟩ = some (.int .i64 ii) ∧ w.cell? ⟨g, 19, none⟩ = some (.int .i64 qd)) ∧
    w.frozen? ⟨g, 14, none⟩ = false ∧ w.frozen? ⟨g, 15, none⟩ = false ∧ w.frozen? ⟨g, 16, none⟩ = false ∧ w.frozen? ⟨g, 17, none⟩ = false ∧ w.frozen? ⟨g, 18, none⟩ = false ∧ w.frozen? ⟨g, 19, none⟩ = false :=
  ⟨⟨(c.at' 14 _ rfl).1, (c.at' 15 _ rfl).1, (c.at' 16 _ rfl).1, (c.at' 17 _ rfl).1, (c.at' 18 _ rfl).1, (c.at' 19 _ rfl).1⟩, (c.at' 14 _ rfl).2, (c.at' 15 _ rfl).2, (c.at' 16 _ rfl).2, (c.at' 17 _ rfl).2, (c.at' 18 _ rfl).2, (c.at' 19 _ rfl).2⟩
theorem Rdg.setProbe {w : World} {g : Nat} {h : Hd} {v : Value} {s d pr fl tg tt fr kd cd lf ii qd : Int} (c : Rdg w g h v s d pr fl tg tt fr kd cd lf ii qd) (s' d' pr' fl' tg' tt' : Int) :
    Rdg (fillC w g 8 [.int .u32 s', .int .u32 d', .int .i64 pr', .int .i64 fl', .int .i64 tg', .int .i64 tt']) g h v s' d' pr' fl' tg' tt' fr kd cd lf ii qd := CL.fillFrom 8 c (by simp [rdg])
theorem Rdg.setAns {w : World} {g : Nat} {h : Hd} {v : Value} {s d pr fl tg tt fr kd cd lf ii qd : Int} (c : Rdg w g h v s d pr fl tg tt fr kd cd lf ii qd) (fr' kd' cd' lf' ii' qd' : Int) :
    Rdg (fillC w g 14 [.int .u32 fr', .int .i64 kd', .int .i64 cd', .int .i64 lf', .int .i64 ii', .int .i64 qd']) g h v s d pr fl tg tt fr' kd' cd' lf' ii' qd' := CL.fillFrom 14 c (by simp [rdg])
set_option maxHeartbeats 2000000 in
theorem keep_any (g : Nat) (h : Hd) (v : Value) (s d pr fl tg tt kd cd qd s0 d0 pr0 fl0 tg0 tt0 fr0 kd0 cd0 lf0 ii0 qd0 fr1 lf1 ii1 : Int) (w : World) (hR : Rdg w g h v s0 d0 pr0 fl0 tg0 tt0 fr0 kd0 cd0 lf0 ii0 qd0) :
    Calls Tryz.prog 64 #[.pointer (some ⟨g, 0, none⟩), prV s d pr fl tg tt, anV fr1 kd cd lf1 ii1 qd] w fun e w' => e = .returned (.tuple #[]) ∧ Rdg w' g h v s d pr fl tg 0 h.src kd cd h.ttl h.id qd ∧ Ex g w w' := by
  unfold prV anV
  have hgl := hR.lt
  have hB := (CL.new w [.int .u32 s, .int .u32 d, .int .i64 pr, .int .i64 fl, .int .i64 tg, .int .i64 tt] 29 _ rfl).gr (Gr.alloc (Gr.refl _) (.cells #[.int .u32 fr1, .int .i64 kd, .int .i64 cd, .int .i64 lf1, .int .i64 ii1, .int .i64 qd] 39))
  have hA := CL.new (w.alloc (.cells #[.int .u32 s, .int .u32 d, .int .i64 pr, .int .i64 fl, .int .i64 tg, .int .i64 tt] 29)) [.int .u32 fr1, .int .i64 kd, .int .i64 cd, .int .i64 lf1, .int .i64 ii1, .int .i64 qd] 39 (w.heap.size + 1) (by simp)
  have hG := ((Gr.refl w).alloc (.cells #[.int .u32 s, .int .u32 d, .int .i64 pr, .int .i64 fl, .int .i64 tg, .int .i64 tt] 29)).alloc (.cells #[.int .u32 fr1, .int .i64 kd, .int .i64 cd, .int .i64 lf1, .int .i64 ii1, .int .i64 qd] 39)
  simp only [List.toArray] at hB hA
  go_enter Tryz.func64, Tryz.ntmps64
  go_upto_region 1 with fail
  generalize (w.alloc (.cells #[.int .u32 s, .int .u32 d, .int .i64 pr, .int .i64 fl, .int .i64 tg, .int .i64 tt] 29)).alloc (.cells #[.int .u32 fr1, .int .i64 kd, .int .i64 cd, .int .i64 lf1, .int .i64 ii1, .int .i64 qd] 39) = w1 at hB hA hG ⊢
  replace hR := hR.gr hG
  have hX := Ex.ofGr (b := g) hG
  generalize hgb : w.heap.size = gb at hB hA hgl ⊢
  generalize hga : gb + 1 = ga at hA ⊢
  have hgbw : w.heap.size ≤ gb := by omega
  have hgaw : w.heap.size ≤ ga := by omega
  have hab : gb < ga := by omega
  clear hgb hga hG
  obtain ⟨⟨x0, x1, x2, x3, x4, x5⟩, u0, u1, u2, u3, u4, u5⟩ := CL.six hB
  go_upto_region 2 with fail
  clear x0 x1 x2 x3 x4 x5 u0 u1 u2 u3 u4 u5
  replace hB := hB.set 5 (.int .i64 0) (by simp)
  replace hA := hA.other (s := gb) (o := 5) (.int .i64 0) (by omega)
  replace hX := hX.setNew (p := ⟨gb, 5, none⟩) hgbw (.int .i64 0)
  have hR2 : Rdg (w1.setCell ⟨gb, 5, none⟩ (.int .i64 0)) g h v s0 d0 pr0 fl0 tg0 tt0 fr0 kd0 cd0 lf0 ii0 qd0 := CL.other hR (.int .i64 0) (by omega)
  clear hR
  have hR := hR2
  clear hR2
  simp only [List.set_cons_succ, List.set_cons_zero] at hB
  generalize w1.setCell ⟨gb, 5, none⟩ (.int .i64 0) = w2 at hB hA hX hR ⊢
  obtain ⟨y0, y1, y2, y3, y4, y5, y6, y7⟩ := hR.head
  have hC := CL.new w2 [.int .i64 h.tos, .int .i64 h.id, .int .i64 h.ttl, .int .i64 h.proto, .bool h.keep, .int .u32 h.src, .int .u32 h.dst] 52 _ rfl
  have hg3 := Gr.alloc (Gr.refl w2) (.cells #[.int .i64 h.tos, .int .i64 h.id, .int .i64 h.ttl, .int .i64 h.proto, .bool h.keep, .int .u32 h.src, .int .u32 h.dst] 52)
  simp only [List.toArray] at hC
  have hca : ga < w2.heap.size := hA.lt
  go_upto_region 3 with fail
  clear y0 y1 y2 y3 y4 y5 y6 y7
  generalize w2.alloc (.cells #[.int .i64 h.tos, .int .i64 h.id, .int .i64 h.ttl, .int .i64 h.proto, .bool h.keep, .int .u32 h.src, .int .u32 h.dst] 52) = w3 at hC hg3 ⊢
  generalize w2.heap.size = gc at hC hca ⊢
  replace hg3 := hg3.step (Gr.drew (Gr.refl _))
  replace hB := hB.gr hg3
  replace hA := hA.gr hg3
  replace hR := hR.gr hg3
  replace hX := hX.trans (Ex.ofGr hg3)
  replace hC := hC.gr (Gr.drew (Gr.refl _))
  clear hg3
  refine region_plain (Ex ga w3.drew) (by kernel_rfl) ?_
  generalize w3.drew = w4 at hC hB hA hR hX ⊢
  have HC := Lib.hid hC
  have hS : Ex ga w4 w4 := Ex.refl _ _
  have hcn : gc ≠ ga := by omega
  refine take_at 0 (some 13) (v := ?va0) rfl rfl (by kernel_rfl) (by kernel_rfl) (by kernel_rfl) (by rfl) ?ya0 hS ?ta0
  case ya0 =>
    intro w' hSw
    obtain - := hSw
    go_simp
    (try with_reducible rfl)
  simp only [Act.put, List.setIfInBounds_toArray, List.set_cons_zero, List.set_cons_succ]
  refine take_at 1 (some 14) (v := ?va1) rfl rfl (by kernel_rfl) (by kernel_rfl) (by kernel_rfl) (by rfl) ?ya1 hS ?ta1
  case ya1 =>
    intro w' hSw
    obtain ⟨⟨q0, q1, q2, q3, q4, q5, q6⟩, -⟩ := (HC.out.ex hSw hcn).seven
    go_simp
    (try with_reducible rfl)
  simp only [Act.put, List.setIfInBounds_toArray, List.set_cons_zero, List.set_cons_succ]
  refine take_at 2 (some 15) (v := ?va2) rfl rfl (by kernel_rfl) (by kernel_rfl) (by kernel_rfl) (by rfl) ?ya2 hS ?ta2
  case ya2 =>
    intro w' hSw
    obtain - := hSw
    go_simp
    (try with_reducible rfl)
  simp only [Act.put, List.setIfInBounds_toArray, List.set_cons_zero, List.set_cons_succ]
  refine take_at 3 (some 16) (v := ?va3) rfl rfl (by kernel_rfl) (by kernel_rfl) (by kernel_rfl) (by rfl) ?ya3 hS ?ta3
  case ya3 =>
    intro w' hSw
    obtain ⟨⟨q0, q1, q2, q3, q4, q5, q6⟩, -⟩ := (HC.out.ex hSw hcn).seven
    go_simp
    (try with_reducible rfl)
  simp only [Act.put, List.setIfInBounds_toArray, List.set_cons_zero, List.set_cons_succ]
  refine take_at 4 (some 17) (v := ?va4) rfl rfl (by kernel_rfl) (by kernel_rfl) (by kernel_rfl) (by rfl) ?ya4 hS ?ta4
  case ya4 =>
    intro w' hSw
    obtain - := hSw
    go_simp
    (try with_reducible rfl)
  simp only [Act.put, List.setIfInBounds_toArray, List.set_cons_zero, List.set_cons_succ]
  refine take_at 5 (some 18) (v := ?va5) rfl rfl (by kernel_rfl) (by kernel_rfl) (by kernel_rfl) (by rfl) ?ya5 hS ?ta5
  case ya5 =>
    intro w' hSw
    obtain ⟨⟨q0, q1, q2, q3, q4, q5, q6⟩, -⟩ := (HC.out.ex hSw hcn).seven
    go_simp
    (try with_reducible rfl)
  simp only [Act.put, List.setIfInBounds_toArray, List.set_cons_zero, List.set_cons_succ]
  refine take_at 6 (some 19) (v := ?va6) rfl rfl (by kernel_rfl) (by kernel_rfl) (by kernel_rfl) (by rfl) ?ya6 hS ?ta6
  case ya6 =>
    intro w' hSw
    obtain - := hSw
    go_simp
    (try with_reducible rfl)
  simp only [Act.put, List.setIfInBounds_toArray, List.set_cons_zero, List.set_cons_succ]
  clear HC
  have hA2 := hA.set 0 (.int .u32 h.src) (by simp)
  have hS2 := hS.set 0 (.int .u32 h.src)
  have hC2 := hC.other (s := ga) (o := 0) (.int .u32 h.src) (by omega)
  have hX2 := hX.setNew (p := ⟨ga, 0, none⟩) (by simpa using hgaw) (.int .u32 h.src)
  simp only [List.set_cons_succ, List.set_cons_zero] at hA2
  obtain ⟨⟨x0, x1, x2, x3, x4, x5⟩, u0, u1, u2, u3, u4, u5⟩ := CL.six hA
  refine next_at 7 rfl (by kernel_rfl) (by rfl) (fun K hK => ?_)
  go_simp
  refine hK _ _ hS2 ?_
  clear hK K x0 x1 x2 x3 x4 x5 u0 u1 u2 u3 u4 u5 hA hS hC hX
  have hA := hA2
  have hS := hS2
  have hC := hC2
  have hX := hX2
  clear hA2 hS2 hC2 hX2
  generalize w4.setCell ⟨ga, 0, none⟩ (.int .u32 h.src) = w5 at hA hS hC hX ⊢
  refine take_at 8 (some 20) (v := ?va8) rfl rfl (by kernel_rfl) (by kernel_rfl) (by kernel_rfl) (by rfl) ?ya8 hS ?ta8
  case ya8 =>
    intro w' hSw
    obtain - := hSw
    go_simp
    (try with_reducible rfl)
  simp only [Act.put, List.setIfInBounds_toArray, List.set_cons_zero, List.set_cons_succ]
  have hA2 := hA.set 3 (.int .i64 h.ttl) (by simp)
  have hS2 := hS.set 3 (.int .i64 h.ttl)
  have hC2 := hC.other (s := ga) (o := 3) (.int .i64 h.ttl) (by omega)
  have hX2 := hX.setNew (p := ⟨ga, 3, none⟩) (by simpa using hgaw) (.int .i64 h.ttl)
  simp only [List.set_cons_succ, List.set_cons_zero] at hA2
  obtain ⟨⟨x0, x1, x2, x3, x4, x5⟩, u0, u1, u2, u3, u4, u5⟩ := CL.six hA
  refine next_at 9 rfl (by kernel_rfl) (by rfl) (fun K hK => ?_)
  go_simp
  refine hK _ _ hS2 ?_
  clear hK K x0 x1 x2 x3 x4 x5 u0 u1 u2 u3 u4 u5 hA hS hC hX
  have hA := hA2
  have hS := hS2
  have hC := hC2
  have hX := hX2
  clear hA2 hS2 hC2 hX2
  generalize w5.setCell ⟨ga, 3, none⟩ (.int .i64 h.ttl) = w6 at hA hS hC hX ⊢
  refine take_at 10 (some 21) (v := ?va10) rfl rfl (by kernel_rfl) (by kernel_rfl) (by kernel_rfl) (by rfl) ?ya10 hS ?ta10
  case ya10 =>
    intro w' hSw
    obtain - := hSw
    go_simp
    (try with_reducible rfl)
  simp only [Act.put, List.setIfInBounds_toArray, List.set_cons_zero, List.set_cons_succ]
  have hA2 := hA.set 4 (.int .i64 h.id) (by simp)
  have hS2 := hS.set 4 (.int .i64 h.id)
  have hC2 := hC.other (s := ga) (o := 4) (.int .i64 h.id) (by omega)
  have hX2 := hX.setNew (p := ⟨ga, 4, none⟩) (by simpa using hgaw) (.int .i64 h.id)
  simp only [List.set_cons_succ, List.set_cons_zero] at hA2
  obtain ⟨⟨x0, x1, x2, x3, x4, x5⟩, u0, u1, u2, u3, u4, u5⟩ := CL.six hA
  refine next_at 11 rfl (by kernel_rfl) (by rfl) (fun K hK => ?_)
  go_simp
  refine hK _ _ hS2 ?_
  clear hK K x0 x1 x2 x3 x4 x5 u0 u1 u2 u3 u4 u5 hA hS hC hX
  have hA := hA2
  have hS := hS2
  have hC := hC2
  have hX := hX2
  clear hA2 hS2 hC2 hX2
  generalize w6.setCell ⟨ga, 4, none⟩ (.int .i64 h.id) = w7 at hA hS hC hX ⊢
  refine wpAnyH_done (by kernel_rfl) ?_ _
  refine qz_normal ?_
  replace hR := hR.ex hS (by omega)
  replace hB := hB.ex hS (by omega)
  clear hS hC
  go_upto_region 4 with fail
  replace hR := hR.gr (Gr.drew (Gr.refl _))
  replace hB := hB.gr (Gr.drew (Gr.refl _))
  replace hA := hA.gr (Gr.drew (Gr.refl _))
  replace hX := hX.trans (Ex.ofGr (Gr.drew (Gr.refl _)))
  refine region_plain (Ex g w7.drew) (by kernel_rfl) ?_
  generalize w7.drew = w8 at hB hA hR hX ⊢
  have HA := Lib.hid hA
  have HB := Lib.hid hB
  have hS : Ex g w8 w8 := Ex.refl _ _
  have hgn : ga ≠ g := by omega
  have hbn : gb ≠ g := by omega
  refine take_at 0 (some 22) (v := ?vb0) rfl rfl (by kernel_rfl) (by kernel_rfl) (by kernel_rfl) (by rfl) ?yb0 hS ?tb0
  case yb0 =>
    intro w' hSw
    obtain - := hSw
    go_simp
    (try with_reducible rfl)
  simp only [Act.put, List.setIfInBounds_toArray, List.set_cons_zero, List.set_cons_succ]
  refine take_at 1 (some 23) (v := ?vb1) rfl rfl (by kernel_rfl) (by kernel_rfl) (by kernel_rfl) (by rfl) ?yb1 hS ?tb1
  case yb1 =>
    intro w' hSw
    obtain - := hSw
    go_simp
    (try with_reducible rfl)
  simp only [Act.put, List.setIfInBounds_toArray, List.set_cons_zero, List.set_cons_succ]
  refine take_at 2 (some 24) (v := ?vb2) rfl rfl (by kernel_rfl) (by kernel_rfl) (by kernel_rfl) (by rfl) ?yb2 hS ?tb2
  case yb2 =>
    intro w' hSw
    obtain ⟨⟨q0, q1, q2, q3, q4, q5⟩, -⟩ := CL.six (HB.out.ex hSw hbn)
    go_simp
    (try with_reducible rfl)
  simp only [Act.put, List.setIfInBounds_toArray, List.set_cons_zero, List.set_cons_succ]
  refine take_at 3 (some 25) (v := ?vb3) rfl rfl (by kernel_rfl) (by kernel_rfl) (by kernel_rfl) (by rfl) ?yb3 hS ?tb3
  case yb3 =>
    intro w' hSw
    obtain ⟨⟨q0, q1, q2, q3, q4, q5⟩, -⟩ := CL.six (HA.out.ex hSw hgn)
    go_simp
    (try with_reducible rfl)
  simp only [Act.put, List.setIfInBounds_toArray, List.set_cons_zero, List.set_cons_succ]
  refine take_at 4 (some 26) (v := ?vb4) rfl rfl (by kernel_rfl) (by kernel_rfl) (by kernel_rfl) (by rfl) ?yb4 hS ?tb4
  case yb4 =>
    intro w' hSw
    obtain - := hSw
    go_simp
    (try with_reducible rfl)
  simp only [Act.put, List.setIfInBounds_toArray, List.set_cons_zero, List.set_cons_succ]
  refine take_at 5 (some 27) (v := ?vb5) rfl rfl (by kernel_rfl) (by kernel_rfl) (by kernel_rfl) (by rfl) ?yb5 hS ?tb5
  case yb5 =>
    intro w' hSw
    obtain - := hSw
    go_simp
    (try with_reducible rfl)
  simp only [Act.put, List.setIfInBounds_toArray, List.set_cons_zero, List.set_cons_succ]
  clear hA hB HA HB
  have hR2 := hR.setProbe s d pr fl tg 0
  have hS2 := hS.fill [.int .u32 s, .int .u32 d, .int .i64 pr, .int .i64 fl, .int .i64 tg, .int .i64 0] 8
  simp only [fillC, Nat.reduceAdd] at hR2 hS2
  obtain ⟨⟨x0, x1, x2, x3, x4, x5⟩, u0, u1, u2, u3, u4, u5⟩ := hR.probe
  refine next_at 6 rfl (by kernel_rfl) (by rfl) (fun K hK => ?_)
  go_simp
  refine hK _ _ hS2 ?_
  clear hK K x0 x1 x2 x3 x4 x5 u0 u1 u2 u3 u4 u5 hR hS
  have hR := hR2
  have hS := hS2
  clear hR2 hS2
  generalize (((((w8.setCell ⟨g, 8, none⟩ (.int .u32 s)).setCell ⟨g, 9, none⟩ (.int .u32 d)).setCell ⟨g, 10, none⟩ (.int .i64 pr)).setCell ⟨g, 11, none⟩ (.int .i64 fl)).setCell ⟨g, 12, none⟩ (.int .i64 tg)).setCell ⟨g, 13, none⟩ (.int .i64 0) = w9 at hR hS ⊢
  refine take_at 7 (some 28) (v := ?vb7) rfl rfl (by kernel_rfl) (by kernel_rfl) (by kernel_rfl) (by rfl) ?yb7 hS ?tb7
  case yb7 =>
    intro w' hSw
    obtain - := hSw
    go_simp
    (try with_reducible rfl)
  simp only [Act.put, List.setIfInBounds_toArray, List.set_cons_zero, List.set_cons_succ]
  refine take_at 8 (some 29) (v := ?vb8) rfl rfl (by kernel_rfl) (by kernel_rfl) (by kernel_rfl) (by rfl) ?yb8 hS ?tb8
  case yb8 =>
    intro w' hSw
    obtain - := hSw
    go_simp
    (try with_reducible rfl)
  simp only [Act.put, List.setIfInBounds_toArray, List.set_cons_zero, List.set_cons_succ]
  have hR2 := hR.setAns h.src kd cd h.ttl h.id qd
  have hS2 := hS.fill [.int .u32 h.src, .int .i64 kd, .int .i64 cd, .int .i64 h.ttl, .int .i64 h.id, .int .i64 qd] 14
  simp only [fillC, Nat.reduceAdd] at hR2 hS2
  obtain ⟨⟨x0, x1, x2, x3, x4, x5⟩, u0, u1, u2, u3, u4, u5⟩ := hR.ans
  refine next_at 9 rfl (by kernel_rfl) (by rfl) (fun K hK => ?_)
  go_simp
  refine hK _ _ hS2 ?_
  clear hK K x0 x1 x2 x3 x4 x5 u0 u1 u2 u3 u4 u5 hR hS
  have hR := hR2
  have hS := hS2
  clear hR2 hS2
  generalize (((((w9.setCell ⟨g, 14, none⟩ (.int .u32 h.src)).setCell ⟨g, 15, none⟩ (.int .i64 kd)).setCell ⟨g, 16, none⟩ (.int .i64 cd)).setCell ⟨g, 17, none⟩ (.int .i64 h.ttl)).setCell ⟨g, 18, none⟩ (.int .i64 h.id)).setCell ⟨g, 19, none⟩ (.int .i64 qd) = w10 at hR hS ⊢
  refine wpAnyH_done (by kernel_rfl) ?_ _
  refine qz_normal ?_
  have hF := hX.trans hS
  go_wp2_with fail
  exact bodyPost_end (v := .tuple #[]) (by simp [results, Tryz.results64, go_sem]) rfl ⟨rfl, hR, hF⟩
end Go.Proofs.YtkpejaiigopmgaaGreatDoor
/- Reading answers: the kinds of answers. -/
namespace Go.Proofs.YtkpejaiigopmgaaGreatDoor
open Go Go.RowKit Go.Sort
set_option maxRecDepth 100000
set_option linter.unusedVariables false
set_option linter.unusedSimpArgs false
set_option maxHeartbeats 1000000 in
theorem received_any (g : Nat) (h : Hd) (v : Value) (fl tg kd : Int) (w : World) (hR : Rdg w g h v 0 0 0 0 0 0 0 0 0 0 0 0) (hp : prbE h.proto fl tg 1 = 0) :
    Calls Tryz.prog 65 #[.pointer (some ⟨g, 0, none⟩), .int .i64 fl, .int .i64 tg, .int .i64 kd] w fun e w' => e = .returned (.bool true) ∧ Rdg w' g h v h.dst h.src h.proto fl tg 0 h.src kd 0 h.ttl h.id 0 ∧ Ex g w w' := by
  have HC := Lib.hid (fun w => pchk_any h.dst h.src h.proto fl tg 1 w)
  rw [hp] at HC
  have HK := Lib.hid (fun w' (hR : Rdg w' g h v 0 0 0 0 0 0 0 0 0 0 0 0) => keep_any g h v h.dst h.src h.proto fl tg 1 kd 0 0 0 0 0 0 0 0 0 0 0 0 0 0 0 0 0 w' hR)
  unfold prV anV at *
  clear hp
  have hgl := hR.lt
  obtain ⟨y0, y1, y2, y3, y4, y5, y6, y7⟩ := hR.head
  go_enter Tryz.func65, Tryz.ntmps65
  have hH := CL.new w [.int .i64 h.tos, .int .i64 h.id, .int .i64 h.ttl, .int .i64 h.proto, .bool h.keep, .int .u32 h.src, .int .u32 h.dst] 52 _ rfl
  have hG := Gr.alloc (Gr.refl w) (.cells #[.int .i64 h.tos, .int .i64 h.id, .int .i64 h.ttl, .int .i64 h.proto, .bool h.keep, .int .u32 h.src, .int .u32 h.dst] 52)
  simp only [List.toArray] at hH
  go_upto_region 2 with fail
  clear y0 y1 y2 y3 y4 y5 y6 y7
  generalize w.alloc (.cells #[.int .i64 h.tos, .int .i64 h.id, .int .i64 h.ttl, .int .i64 h.proto, .bool h.keep, .int .u32 h.src, .int .u32 h.dst] 52) = w1 at hH hG ⊢
  generalize w.heap.size = gh at hH hgl ⊢
  obtain ⟨⟨y0, y1, y2, y3, y4, y5, y6⟩, -⟩ := hH.seven
  have hB := CL.new w1 [.int .u32 h.dst, .int .u32 h.src, .int .i64 h.proto, .int .i64 fl, .int .i64 tg, .int .i64 1] 29 _ rfl
  have hg3 := Gr.alloc (Gr.refl w1) (.cells #[.int .u32 h.dst, .int .u32 h.src, .int .i64 h.proto, .int .i64 fl, .int .i64 tg, .int .i64 1] 29)
  simp only [List.toArray] at hB
  go_upto_region 3 with fail
  clear y0 y1 y2 y3 y4 y5 y6
  generalize w1.alloc (.cells #[.int .u32 h.dst, .int .u32 h.src, .int .i64 h.proto, .int .i64 fl, .int .i64 tg, .int .i64 1] 29) = w2 at hB hg3 ⊢
  generalize w1.heap.size = gb at hB ⊢
  replace hG := hG.step hg3
  clear hg3 hH
  obtain ⟨⟨x0, x1, x2, x3, x4, x5⟩, -⟩ := CL.six hB
  go_wp2_with fail
  refine (HC.out _).mono ?_
  rintro e w3 ⟨rfl, hg⟩
  clear x0 x1 x2 x3 x4 x5
  replace hB := hB.gr hg
  replace hG := hG.step hg
  replace hR := hR.gr hG
  clear hg
  obtain ⟨⟨x0, x1, x2, x3, x4, x5⟩, -⟩ := CL.six hB
  go_wp2_with fail
  refine (HK.out _ hR).mono ?_
  rintro e w4 ⟨rfl, hR4, hx⟩
  replace hx := (Ex.ofGr (b := g) hG).trans hx
  go_wp2_with fail
  go_ret
  exact ⟨rfl, hR4, hx⟩
set_option maxHeartbeats 1000000 in
theorem notice_no {p : Nat → Prop} (g : Nat) (h : Hd) (v : Value) (l : List Nat) (w : World) (hR : Rdg w g h v 0 0 0 0 0 0 0 0 0 0 0 0) (hv : Rb p w v l) (hl : l.length ≤ 30000) (hn : dcNote l ≠ 0) :
    Calls Tryz.prog 29 #[.pointer (some ⟨g, 0, none⟩)] w fun e w' => e = .returned (.bool false) ∧ Gr w w' := by
  have HD := Lib.hid (dnote_err w hv hl hn)
  unfold DErr noteZ0 at HD
  generalize dcNote l = E at *
  have d1 : ((E : Int) != 0) = true := by rw [bne_iff_ne]; omega
  obtain ⟨a, c, rfl, -, -⟩ := hv.form
  generalize l.length = N at *
  clear hn hl hv
  have hgl := hR.lt
  obtain ⟨y0, y1, y2, y3, y4, y5, y6, y7⟩ := hR.head
  go_enter Tryz.func29, Tryz.ntmps29
  go_wp2_with fail
  refine (HD.out).mono ?_
  rintro e w1 ⟨rfl, hg⟩
  have hg3 := Gr.alloc (Gr.refl w1) (.cells #[.int .i64 0, .int .i64 0, .slice none 0 0] 65)
  have hG := hg.step hg3
  replace hR := hR.gr hG
  clear y0 y1 y2 y3 y4 y5 y6 y7
  simp only [List.toArray]
  go_upto_region 2 with fail
  generalize w1.alloc (.cells #[.int .i64 0, .int .i64 0, .slice none 0 0] 65) = w2 at hR hG ⊢
  obtain ⟨y0, y1, y2, y3, y4, y5, y6, y7⟩ := hR.head
  rcases Bool.eq_false_or_eq_true ((h.proto : Int) != 1) with d2 | d2
  · go_wp2_with fail
    go_ret
    exact ⟨rfl, hG⟩
  · go_wp2_with fail
    go_ret
    exact ⟨rfl, hG⟩
set_option maxHeartbeats 1000000 in
theorem echo_no {p : Nat → Prop} (g : Nat) (h : Hd) (v : Value) (l : List Nat) (w : World) (hR : Rdg w g h v 0 0 0 0 0 0 0 0 0 0 0 0) (hv : Rb p w v l) (hl : l.length ≤ 30000) (hn : dcEcho l ≠ 0) :
    Calls Tryz.prog 30 #[.pointer (some ⟨g, 0, none⟩)] w fun e w' => e = .returned (.bool false) ∧ Gr w w' := by
  have HD := Lib.hid (decho_err w hv hl hn)
  unfold DErr echoZ0 at HD
  generalize dcEcho l = E at *
  have d1 : ((E : Int) != 0) = true := by rw [bne_iff_ne]; omega
  obtain ⟨a, c, rfl, -, -⟩ := hv.form
  generalize l.length = N at *
  clear hn hl hv
  have hgl := hR.lt
  obtain ⟨y0, y1, y2, y3, y4, y5, y6, y7⟩ := hR.head
  go_enter Tryz.func30, Tryz.ntmps30
  go_wp2_with fail
  refine (HD.out).mono ?_
  rintro e w1 ⟨rfl, hg⟩
  have hg3 := Gr.alloc (Gr.refl w1) (.cells #[.bool false, .int .i64 0, .int .i64 0, .slice none 0 0] 74)
  have hG := hg.step hg3
  replace hR := hR.gr hG
  clear y0 y1 y2 y3 y4 y5 y6 y7
  simp only [List.toArray]
  go_upto_region 2 with fail
  generalize w1.alloc (.cells #[.bool false, .int .i64 0, .int .i64 0, .slice none 0 0] 74) = w2 at hR hG ⊢
  obtain ⟨y0, y1, y2, y3, y4, y5, y6, y7⟩ := hR.head
  rcases Bool.eq_false_or_eq_true ((h.proto : Int) != 1) with d2 | d2
  · go_wp2_with fail
    go_ret
    exact ⟨rfl, hG⟩
  · go_wp2_with fail
    go_ret
    exact ⟨rfl, hG⟩
set_option maxHeartbeats 1000000 in
theorem notice_yes {p : Nat → Prop} (g : Nat) (h : Hd) (v : Value) (P : Pr) (t c : Nat) (w : World) (hR : Rdg w g h v 0 0 0 0 0 0 0 0 0 0 0 0) (k : P.ok) (hp : h.proto = 1) (hd : h.dst = P.src) (hv : Rb p w v (noteL t c P.qt)) (ht : t = 3 ∨ t = 11) (hc : c < 256) (K : Nat) (hK : K = if t = 11 then 1 else if c = 3 then 3 else 5) :
    Calls Tryz.prog 29 #[.pointer (some ⟨g, 0, none⟩)] w fun e w' => e = .returned (.bool true) ∧ Rdg w' g h v P.src P.dst P.proto P.flow P.tag 0 h.src K c h.ttl h.id P.ttl ∧ Ex g w w' := by
  have HD := Lib.hid (note_dec w hv ht hc (by rw [Pr.qt_len k]; omega) (by rw [Pr.qt_len k]; omega))
  have HQ := Lib.hid (fun (w' : World) (v' : Value) (hr : Rb (fun _ => True) w' v' P.qt) => (show Calls Tryz.prog 63 #[v'] w' fun e w'' => e = .returned (.tuple #[P.v, .bool true]) ∧ Gr w' w'' from
    (Classical.em (P.proto = 1)).elim (fun h => quoted_icmp P k w' hr h) (fun h => quoted_other P k w' hr h)))
  have HKp := Lib.hid (fun w' (hR : Rdg w' g h v 0 0 0 0 0 0 0 0 0 0 0 0) => keep_any g h v P.src P.dst P.proto P.flow P.tag P.ttl K c P.ttl 0 0 0 0 0 0 0 0 0 0 0 0 0 0 0 w' hR)
  have HKK := Lib.hid hK
  have d2 : ((h.proto : Int) != 1) = false := by rw [hp]; rfl
  have hds : (h.dst : Int) = (P.src : Int) := by rw [hd]
  have HDS := Lib.hid hds
  have hql := Pr.qt_len k
  obtain ⟨a, c', rfl, -, -⟩ := hv.form
  generalize (noteL t c P.qt).length = N at *
  unfold Pr.v prV anV at *
  clear hv hp hd hds hK k
  have hgl := hR.lt
  obtain ⟨y0, y1, y2, y3, y4, y5, y6, y7⟩ := hR.head
  go_enter Tryz.func29, Tryz.ntmps29
  go_wp2_with fail
  refine (HD.out).mono ?_
  rintro e w1 ⟨v1, rfl, ho, hg⟩
  have hv1 := ho.rb.any
  obtain ⟨a1, c1, rfl, -, -⟩ := hv1.form
  rw [hql] at hv1
  rw [hql]
  have hN := CL.new w1 [.int .i64 t, .int .i64 c, .slice a1 28 c1] 65 _ rfl
  have hg3 := Gr.alloc (Gr.refl w1) (.cells #[.int .i64 t, .int .i64 c, .slice a1 28 c1] 65)
  have hG := hg.step hg3
  replace hv1 := hv1.gr hg3
  replace hR := hR.gr hG
  clear y0 y1 y2 y3 y4 y5 y6 y7 ho hg3 hg
  simp only [List.toArray] at hN
  go_upto_region 2 with fail
  generalize w1.alloc (.cells #[.int .i64 t, .int .i64 c, .slice a1 28 c1] 65) = w2 at hR hG hv1 hN ⊢
  generalize w1.heap.size = gn at hN ⊢
  obtain ⟨y0, y1, y2, y3, y4, y5, y6, y7⟩ := hR.head
  obtain ⟨⟨x0, x1, x2⟩, -⟩ := CL.three hN
  go_wp2_with fail
  refine (HQ.out _ _ hv1).mono ?_
  rintro e w3 ⟨rfl, hg⟩
  have hP := CL.new w3 [.int .u32 P.src, .int .u32 P.dst, .int .i64 P.proto, .int .i64 P.flow, .int .i64 P.tag, .int .i64 P.ttl] 29 _ rfl
  have hg3 := Gr.alloc (Gr.refl w3) (.cells #[.int .u32 P.src, .int .u32 P.dst, .int .i64 P.proto, .int .i64 P.flow, .int .i64 P.tag, .int .i64 P.ttl] 29)
  simp only [List.toArray] at hP
  go_upto_region 5 with fail
  clear y0 y1 y2 y3 y4 y5 y6 y7 x0 x1 x2 hv1
  generalize w3.alloc (.cells #[.int .u32 P.src, .int .u32 P.dst, .int .i64 P.proto, .int .i64 P.flow, .int .i64 P.tag, .int .i64 P.ttl] 29) = w4 at hP hg3 ⊢
  generalize w3.heap.size = gp at hP ⊢
  replace hg3 := (hg.step hg3).step (Gr.drew (Gr.refl _))
  replace hR := hR.gr hg3
  replace hN := hN.gr hg3
  replace hG := hG.step hg3
  replace hP := hP.gr (Gr.drew (Gr.refl _))
  clear hg3 hg
  refine region_plain (Gr w4.drew) (by kernel_rfl) ?_
  generalize w4.drew = w5 at hP hN hR hG ⊢
  have hS : Gr w5 w5 := Gr.refl _
  have HP := Lib.hid hP
  have HR := Lib.hid hR
  refine take_at 0 (some 34) (v := ?vn0) rfl rfl (by kernel_rfl) (by kernel_rfl) (by kernel_rfl) (by rfl) ?yn0 hS ?tn0
  case yn0 =>
    intro w' hSw
    obtain - := hSw
    go_simp
    (try with_reducible rfl)
  simp only [Act.put, List.setIfInBounds_toArray, List.set_cons_zero, List.set_cons_succ]
  refine take_at 1 (some 35) (v := ?vn1) rfl rfl (by kernel_rfl) (by kernel_rfl) (by kernel_rfl) (by rfl) ?yn1 hS ?tn1
  case yn1 =>
    intro w' hSw
    obtain - := hSw
    go_simp
    (try with_reducible rfl)
  simp only [Act.put, List.setIfInBounds_toArray, List.set_cons_zero, List.set_cons_succ]
  refine take_at 2 (some 36) (v := ?vn2) rfl rfl (by kernel_rfl) (by kernel_rfl) (by kernel_rfl) (by rfl) ?yn2 hS ?tn2
  case yn2 =>
    intro w' hSw
    obtain - := hSw
    go_simp
    (try with_reducible rfl)
  simp only [Act.put, List.setIfInBounds_toArray, List.set_cons_zero, List.set_cons_succ]
  refine take_at 3 (some 37) (v := ?vn3) rfl rfl (by kernel_rfl) (by kernel_rfl) (by kernel_rfl) (by rfl) ?yn3 hS ?tn3
  case yn3 =>
    intro w' hSw
    obtain - := hSw
    go_simp
    (try with_reducible rfl)
  simp only [Act.put, List.setIfInBounds_toArray, List.set_cons_zero, List.set_cons_succ]
  refine take_at 4 (some 38) (v := ?vn4) rfl rfl (by kernel_rfl) (by kernel_rfl) (by kernel_rfl) (by rfl) ?yn4 hS ?tn4
  case yn4 =>
    intro w' hSw
    obtain ⟨⟨q0, q1, q2, q3, q4, q5⟩, -⟩ := CL.six (HP.out.gr hSw)
    go_simp
    (try with_reducible rfl)
  simp only [Act.put, List.setIfInBounds_toArray, List.set_cons_zero, List.set_cons_succ]
  refine take_at 5 (some 39) (v := ?vn5) rfl rfl (by kernel_rfl) (by kernel_rfl) (by kernel_rfl) (by rfl) ?yn5 hS ?tn5
  case yn5 =>
    intro w' hSw
    obtain - := hSw
    go_simp
    (try with_reducible rfl)
  simp only [Act.put, List.setIfInBounds_toArray, List.set_cons_zero, List.set_cons_succ]
  refine take_at 6 (some 40) (v := ?vn6) rfl rfl (by kernel_rfl) (by kernel_rfl) (by kernel_rfl) (by rfl) ?yn6 hS ?tn6
  case yn6 =>
    intro w' hSw
    obtain - := hSw
    go_simp
    (try with_reducible rfl)
  simp only [Act.put, List.setIfInBounds_toArray, List.set_cons_zero, List.set_cons_succ]
  refine take_at 7 (some 41) (v := ?vn7) rfl rfl (by kernel_rfl) (by kernel_rfl) (by kernel_rfl) (by rfl) ?yn7 hS ?tn7
  case yn7 =>
    intro w' hSw
    obtain - := hSw
    go_simp
    (try with_reducible rfl)
  simp only [Act.put, List.setIfInBounds_toArray, List.set_cons_zero, List.set_cons_succ]
  refine take_at 8 (some 42) (v := ?vn8) rfl rfl (by kernel_rfl) (by kernel_rfl) (by kernel_rfl) (by rfl) ?yn8 hS ?tn8
  case yn8 =>
    intro w' hSw
    obtain - := hSw
    go_simp
    (try with_reducible rfl)
  simp only [Act.put, List.setIfInBounds_toArray, List.set_cons_zero, List.set_cons_succ]
  refine take_at 9 (some 43) (v := ?vn9) rfl rfl (by kernel_rfl) (by kernel_rfl) (by kernel_rfl) (by rfl) ?yn9 hS ?tn9
  case yn9 =>
    intro w' hSw
    obtain - := hSw
    go_simp
    (try with_reducible rfl)
  simp only [Act.put, List.setIfInBounds_toArray, List.set_cons_zero, List.set_cons_succ]
  refine take_at 10 (some 44) (v := ?vn10) rfl rfl (by kernel_rfl) (by kernel_rfl) (by kernel_rfl) (by rfl) ?yn10 hS ?tn10
  case yn10 =>
    intro w' hSw
    obtain ⟨y0, y1, y2, y3, y4, y5, y6, y7⟩ := (HR.out.gr hSw).head
    go_simp
    (try with_reducible rfl)
  simp only [Act.put, List.setIfInBounds_toArray, List.set_cons_zero, List.set_cons_succ]
  have e3 : ((P.src : Int) != (h.dst : Int)) = false := by rw [bne_eq_false_iff_eq]; exact HDS.out.symm
  refine take_at 11 (some 45) (v := ?vn11) rfl rfl (by kernel_rfl) (by kernel_rfl) (by kernel_rfl) (by rfl) ?yn11 hS ?tn11
  case yn11 =>
    intro w' hSw
    obtain - := hSw
    go_simp
    (try with_reducible rfl)
  simp only [Act.put, List.setIfInBounds_toArray, List.set_cons_zero, List.set_cons_succ]
  refine take_at 12 (some 46) (v := ?vn12) rfl rfl (by kernel_rfl) (by kernel_rfl) (by kernel_rfl) (by rfl) ?yn12 hS ?tn12
  case yn12 =>
    intro w' hSw
    obtain - := hSw
    go_simp
    (try with_reducible rfl)
  simp only [Act.put, List.setIfInBounds_toArray, List.set_cons_zero, List.set_cons_succ]
  refine wpAnyH_done (by kernel_rfl) ?_ _
  refine qz_normal ?_
  clear hS HP HR e3
  obtain ⟨⟨x0, x1, x2⟩, -⟩ := CL.three hN
  obtain ⟨⟨q0, q1, q2, q3, q4, q5⟩, -⟩ := CL.six hP
  have hKK := HKK.out
  by_cases h11 : t = 11
  · have d3 : ((t : Int) == 11) = true := by rw [h11]; rfl
    rw [if_pos h11] at hKK
    subst hKK
    clear h11 ht HKK
    go_wp2_with fail
    refine (HKp.out _ hR).mono ?_
    rintro e w6 ⟨rfl, hR6, hx⟩
    replace hx := (Ex.ofGr (b := g) hG).trans hx
    go_wp2_with fail
    go_ret
    exact ⟨rfl, hR6, hx⟩
  · have d3 : ((t : Int) == 11) = false := by rw [beq_eq_false_iff_ne]; omega
    rw [if_neg h11] at hKK
    by_cases h3 : c = 3
    · have d4 : ((c : Int) == 3) = true := by rw [h3]; rfl
      rw [if_pos h3] at hKK
      subst hKK
      clear h11 ht HKK h3
      go_wp2_with fail
      refine (HKp.out _ hR).mono ?_
      rintro e w6 ⟨rfl, hR6, hx⟩
      replace hx := (Ex.ofGr (b := g) hG).trans hx
      go_wp2_with fail
      go_ret
      exact ⟨rfl, hR6, hx⟩
    · have d4 : ((c : Int) == 3) = false := by rw [beq_eq_false_iff_ne]; omega
      rw [if_neg h3] at hKK
      subst hKK
      clear h11 ht HKK h3
      go_wp2_with fail
      refine (HKp.out _ hR).mono ?_
      rintro e w6 ⟨rfl, hR6, hx⟩
      replace hx := (Ex.ofGr (b := g) hG).trans hx
      go_wp2_with fail
      go_ret
      exact ⟨rfl, hR6, hx⟩
end Go.Proofs.YtkpejaiigopmgaaGreatDoor
/- Reading answers: echo replies and resets. -/
namespace Go.Proofs.YtkpejaiigopmgaaGreatDoor
open Go Go.RowKit Go.Sort
set_option maxRecDepth 100000
set_option linter.unusedVariables false
set_option linter.unusedSimpArgs false
/-- the packet of a packet that is read -/
def Hed (w : World) (g : Nat) (h : Hd) (v : Value) : Prop := ∃ s d pr fl tg tt fr kd cd lf ii qd : Int, Rdg w g h v s d pr fl tg tt fr kd cd lf ii qd
theorem Rdg.hed {w : World} {g : Nat} {h : Hd} {v : Value} {s d pr fl tg tt fr kd cd lf ii qd : Int} (c : Rdg w g h v s d pr fl tg tt fr kd cd lf ii qd) : Hed w g h v := ⟨_, _, _, _, _, _, _, _, _, _, _, _, c⟩
theorem Hed.head {w : World} {g : Nat} {h : Hd} {v : Value} (c : Hed w g h v) :
    w.cell? ⟨g, 0, none⟩ = some (.int .i64 h.tos) ∧ w.cell? ⟨g, 1, none⟩ = some (.int .i64 h.id) ∧ w.cell? ⟨g, 2, none⟩ = some (.int .i64 h.ttl) ∧ w.cell? ⟨g, 3, none⟩ = some (.int .i64 h.proto) ∧ w.cell? ⟨g, 4, none⟩ = some (.bool h.keep) ∧ w.cell? ⟨g, 5, none⟩ = some (.int .u32 h.src) ∧ w.cell? ⟨g, 6, none⟩ = some (.int .u32 h.dst) ∧ w.cell? ⟨g, 7, none⟩ = some v := by
  obtain ⟨_, _, _, _, _, _, _, _, _, _, _, _, c⟩ := c
  exact c.head
set_option maxHeartbeats 1000000 in
theorem echo_yes {p : Nat → Prop} (g : Nat) (h : Hd) (v : Value) (t f : Nat) (w : World) (hR : Rdg w g h v 0 0 0 0 0 0 0 0 0 0 0 0) (ht : t ≤ 65534) (hf : f ≤ 1023) (hp : h.proto = 1) (hv : Rb p w v (erD t f)) :
    Calls Tryz.prog 30 #[.pointer (some ⟨g, 0, none⟩)] w fun e w' => e = .returned (.bool true) ∧ Rdg w' g h v h.dst h.src h.proto f t 0 h.src 2 0 h.ttl h.id 0 ∧ Ex g w w' := by
  have HD := Lib.hid (echo_dec (r := true) (a := 21075) (b := t) (d := bput (icN t f) 2) w hv (by decide) (by omega) (by rw [bput_len]; omega))
  have HGt := Lib.hid (fun w' (k : Gr w w') => qget_any 2 w' (hv.gr k) (by rw [er_len]; omega))
  rw [er_sum (by omega) hf] at HGt
  obtain ⟨A, hA⟩ : ∃ A, A = 18432 + f := ⟨_, rfl⟩
  rw [← hA] at HGt
  have eA : (A : Int) - 18432 = (f : Int) := by omega
  have eW : IntKind.i64.wrap (f : Int) = (f : Int) := by rw [IntWalk.i64_in _ (by omega)]
  have HRc := Lib.hid (fun w' (hR : Rdg w' g h v 0 0 0 0 0 0 0 0 0 0 0 0) => received_any g h v f t 2 w' hR (prbE_ok (by left; rw [hp]; rfl) ⟨by omega, by omega, by omega⟩))
  have d2 : ((h.proto : Int) != 1) = false := by rw [hp]; rfl
  obtain ⟨a, c', rfl, -, -⟩ := hv.form
  simp only [show ((2 : Nat) : Int) = 2 from rfl] at HGt
  rw [er_len] at HGt
  rw [show (erD t f).length = 10 from er_len t f] at hR HRc ⊢
  have hlen : (erD t f).length = 10 := er_len t f
  rw [hlen] at HD
  generalize hn2 : bput (icN t f) 2 = d2l at *
  have hl2 : d2l.length = 2 := by rw [← hn2, bput_len]
  clear hv hp hA hf ht hn2 hlen
  have hgl := hR.lt
  obtain ⟨y0, y1, y2, y3, y4, y5, y6, y7⟩ := hR.head
  go_enter Tryz.func30, Tryz.ntmps30
  go_wp2_with fail
  refine (HD.out).mono ?_
  rintro e w1 ⟨v1, rfl, ho, hg⟩
  obtain ⟨a1, c1, rfl, -, -⟩ := ho.rb.form
  rw [hl2]
  have hN := CL.new w1 [.bool true, .int .i64 (21075 : Nat), .int .i64 t, .slice a1 2 c1] 74 _ rfl
  have hg3 := Gr.alloc (Gr.refl w1) (.cells #[.bool true, .int .i64 (21075 : Nat), .int .i64 t, .slice a1 2 c1] 74)
  have hG := hg.step hg3
  have hgn : g < w1.heap.size := (hR.gr hg).lt
  replace hR := hR.gr hG
  clear y0 y1 y2 y3 y4 y5 y6 y7 ho hg3 hg
  simp only [List.toArray] at hN
  go_upto_region 2 with fail
  generalize w1.alloc (.cells #[.bool true, .int .i64 (21075 : Nat), .int .i64 t, .slice a1 2 c1] 74) = w2 at hR hG hN ⊢
  generalize w1.heap.size = gn at hN hgn ⊢
  simp only [show ((21075 : Nat) : Int) = 21075 from rfl] at hN
  obtain ⟨y0, y1, y2, y3, y4, y5, y6, y7⟩ := hR.head
  obtain ⟨⟨x0, x1, x2, x3⟩, -⟩ := CL.four hN
  go_upto_region 4 with fail
  clear y0 y1 y2 y3 y4 y5 y6 y7 x0 x1 x2 x3
  replace hR := hR.gr (Gr.drew (Gr.refl _))
  replace hN := hN.gr (Gr.drew (Gr.refl _))
  replace hG := hG.step (Gr.drew (Gr.refl _))
  have hne : gn ≠ g := by omega
  refine region_plain (fun W => Hed W g h (.slice a 10 c') ∧ Ex g w2.drew W) (by kernel_rfl) ?_
  generalize w2.drew = w5 at hN hR hG ⊢
  have hS : Hed w5 g h (.slice a 10 c') ∧ Ex g w5 w5 := ⟨hR.hed, Ex.refl _ _⟩
  have HN := Lib.hid hN
  refine take_at 0 (some 41) (v := ?vo0) rfl rfl (by kernel_rfl) (by kernel_rfl) (by kernel_rfl) (by rfl) ?yo0 hS ?to0
  case yo0 =>
    intro w' hSw
    obtain - := hSw
    go_simp
    (try with_reducible rfl)
  simp only [Act.put, List.setIfInBounds_toArray, List.set_cons_zero, List.set_cons_succ]
  refine take_at 1 (some 42) (v := ?vo1) rfl rfl (by kernel_rfl) (by kernel_rfl) (by kernel_rfl) (by rfl) ?yo1 hS ?to1
  case yo1 =>
    intro w' hSw
    obtain - := hSw
    go_simp
    (try with_reducible rfl)
  simp only [Act.put, List.setIfInBounds_toArray, List.set_cons_zero, List.set_cons_succ]
  refine take_at 2 (some 43) (v := ?vo2) rfl rfl (by kernel_rfl) (by kernel_rfl) (by kernel_rfl) (by rfl) ?yo2 hS ?to2
  case yo2 =>
    intro w' hSw
    obtain - := hSw
    go_simp
    (try with_reducible rfl)
  simp only [Act.put, List.setIfInBounds_toArray, List.set_cons_zero, List.set_cons_succ]
  refine take_at 3 (some 44) (v := ?vo3) rfl rfl (by kernel_rfl) (by kernel_rfl) (by kernel_rfl) (by rfl) ?yo3 hS ?to3
  case yo3 =>
    intro w' hSw
    obtain - := hSw
    go_simp
    (try with_reducible rfl)
  simp only [Act.put, List.setIfInBounds_toArray, List.set_cons_zero, List.set_cons_succ]
  refine take_at 4 (some 45) (v := ?vo4) rfl rfl (by kernel_rfl) (by kernel_rfl) (by kernel_rfl) (by rfl) ?yo4 hS ?to4
  case yo4 =>
    intro w' hSw
    obtain - := hSw
    go_simp
    (try with_reducible rfl)
  simp only [Act.put, List.setIfInBounds_toArray, List.set_cons_zero, List.set_cons_succ]
  refine take_at 5 (some 46) (v := ?vo5) rfl rfl (by kernel_rfl) (by kernel_rfl) (by kernel_rfl) (by rfl) ?yo5 hS ?to5
  case yo5 =>
    intro w' hSw
    obtain ⟨y0, y1, y2, y3, y4, y5, y6, y7⟩ := hSw.1.head
    go_simp
    (try with_reducible rfl)
  simp only [Act.put, List.setIfInBounds_toArray, List.set_cons_zero, List.set_cons_succ]
  refine take_at 8 (some 49) (v := ?vo8) rfl rfl (by kernel_rfl) (by kernel_rfl) (by kernel_rfl) (by rfl) ?yo8 hS ?to8
  case yo8 =>
    intro w' hSw
    obtain - := hSw
    go_simp
    (try with_reducible rfl)
  simp only [Act.put, List.setIfInBounds_toArray, List.set_cons_zero, List.set_cons_succ]
  refine take_at 9 (some 50) (v := ?vo9) rfl rfl (by kernel_rfl) (by kernel_rfl) (by kernel_rfl) (by rfl) ?yo9 hS ?to9
  case yo9 =>
    intro w' hSw
    obtain ⟨⟨x0, x1, x2, x3⟩, -⟩ := CL.four (HN.out.ex hSw.2 hne)
    go_simp
    (try with_reducible rfl)
  simp only [Act.put, List.setIfInBounds_toArray, List.set_cons_zero, List.set_cons_succ]
  refine next_at 6 rfl (by kernel_rfl) (by rfl) (fun K hK => ?_)
  go_simp
  refine (HGt.out _ hG).mono ?_
  rintro e w6 ⟨rfl, rfl⟩
  refine hK _ _ hS ?_
  clear hK K HGt
  refine take_at 7 (some 48) (v := ?vo7) rfl rfl (by kernel_rfl) (by kernel_rfl) (by kernel_rfl) (by rfl) ?yo7 hS ?to7
  case yo7 =>
    intro w' hSw
    obtain - := hSw
    go_simp
    (try with_reducible rfl)
  simp only [Act.put, List.setIfInBounds_toArray, List.set_cons_zero, List.set_cons_succ]
  refine next_at 10 rfl (by kernel_rfl) (by rfl) (fun K hK => ?_)
  go_simp
  refine (HRc.out _ hR).mono ?_
  rintro e w6 ⟨rfl, hR6, hx⟩
  have hS2 : Hed w6 g h (.slice a 10 c') ∧ Ex g w5 w6 := ⟨hR6.hed, hx⟩
  replace hx := (Ex.ofGr (b := g) hG).trans hx
  refine hK _ _ hS2 ?_
  clear hK K HRc hS
  have hS := hS2
  refine take_at 11 (some 2) (v := ?vo11) rfl rfl (by kernel_rfl) (by kernel_rfl) (by kernel_rfl) (by rfl) ?yo11 hS ?to11
  case yo11 =>
    intro w' hSw
    obtain - := hSw
    go_simp
    (try with_reducible rfl)
  simp only [Act.put, List.setIfInBounds_toArray, List.set_cons_zero, List.set_cons_succ]
  refine wpAnyH_done (by kernel_rfl) ?_ _
  refine qz_normal ?_
  clear hS hS2 hR hG
  go_wp2_with fail
  go_ret
  exact ⟨rfl, hR6, hx⟩
theorem region_cut3 {P : Program} {c : Code} {Q : Exit → Act → World → Prop} {a : Act} {w : World} (aF : Nat → Option Addr → Nat → Act) (R : Nat → Option Addr → Nat → World → Prop)
    (h : c.wp P (fun e a' w' => e = .normal ∧ ∃ x y z, a' = aF x y z ∧ R x y z w') a w) (k : ∀ x y z w', R x y z w' → Q .normal (aF x y z) w') : c.wp P Q a w := by
  refine Code.wp_mono (fun e a' w' h' => ?_) h
  obtain ⟨he, x, y, z, ha, hr⟩ := h'
  rw [he, ha]
  exact k _ _ _ _ hr
set_option maxHeartbeats 1000000 in
theorem reset_yes {p : Nat → Prop} (g : Nat) (h : Hd) (v : Value) (P : Pr) (w : World) (hR : Rdg w g h v 0 0 0 0 0 0 0 0 0 0 0 0) (k : P.ok) (hh : h.ok) (hp : h.proto = 6) (hd : h.dst = P.src) (hv : Rb p w v (rsD P h.src)) :
    Calls Tryz.prog 31 #[.pointer (some ⟨g, 0, none⟩)] w fun e w' => e = .returned (.bool true) ∧ Rdg w' g h v h.dst h.src h.proto P.flow P.tag 0 h.src 4 0 h.ttl h.id 0 ∧ Ex g w w' := by
  have hf := k.flow
  have ht := k.tag
  obtain ⟨D, hD⟩ : ∃ D, D = 20000 + P.flow := ⟨_, rfl⟩
  obtain ⟨K1, hK1⟩ : ∃ K, K = P.tag + 1 := ⟨_, rfl⟩
  have HD0 := Lib.hid (fun w' (g : Gr w w') => tcp_dec (src := h.src) (dst := h.dst) (sp := 80) (dp := D) (sq := 0) (ak := K1) (fl := 20) (wi := 0) (d := []) w' (by rw [hd, hD, hK1]; exact hv.gr g) hh.src hh.dst (by decide) (by omega) (by decide) (by omega) (by decide) (by decide) (by simp))
  have eD : (D : Int) - 20000 = (P.flow : Int) := by omega
  have eW : IntKind.i64.wrap (P.flow : Int) = (P.flow : Int) := by rw [IntWalk.i64_in _ (by omega)]
  have eK : (K1 : Int) - 1 = (P.tag : Int) := by omega
  have eV : IntKind.i64.wrap (P.tag : Int) = (P.tag : Int) := by rw [IntWalk.i64_in _ (by omega)]
  have HRc := Lib.hid (fun w' (hR : Rdg w' g h v 0 0 0 0 0 0 0 0 0 0 0 0) => received_any g h v P.flow P.tag 4 w' hR (prbE_ok (by right; right; rw [hp]; rfl) ⟨by omega, by omega, by omega⟩))
  have d2 : ((h.proto : Int) != 6) = false := by rw [hp]; rfl
  obtain ⟨a, c', rfl, -, -⟩ := hv.form
  generalize (rsD P h.src).length = N at *
  simp only [show ((0 : Nat) : Int) = 0 from rfl, show ((20 : Nat) : Int) = 20 from rfl, show ((80 : Nat) : Int) = 80 from rfl] at HD0
  clear hv hp hD hK1 hf ht hd hh k
  have hgl := hR.lt
  obtain ⟨y0, y1, y2, y3, y4, y5, y6, y7⟩ := hR.head
  have hC := CL.new w [.int .i64 h.tos, .int .i64 h.id, .int .i64 h.ttl, .int .i64 h.proto, .bool h.keep, .int .u32 h.src, .int .u32 h.dst] 52 _ rfl
  have hG := Gr.alloc (Gr.refl w) (.cells #[.int .i64 h.tos, .int .i64 h.id, .int .i64 h.ttl, .int .i64 h.proto, .bool h.keep, .int .u32 h.src, .int .u32 h.dst] 52)
  simp only [List.toArray] at hC
  go_enter Tryz.func31, Tryz.ntmps31
  go_upto_region 2 with fail
  clear y0 y1 y2 y3 y4 y5 y6 y7
  generalize w.alloc (.cells #[.int .i64 h.tos, .int .i64 h.id, .int .i64 h.ttl, .int .i64 h.proto, .bool h.keep, .int .u32 h.src, .int .u32 h.dst] 52) = w3 at hC hG ⊢
  generalize w.heap.size = gc at hC hgl ⊢
  have HC := Lib.hid hC
  have HD := Lib.hid (fun W (g : Gr w3 W) => HD0.out W (hG.step g))
  replace hR := hR.gr hG
  have HR := Lib.hid hR
  clear HD0 hC
  refine region_cut3 ?aF (fun ga a8 c8 W => CL W ga [.int .i64 80, .int .i64 D, .int .i64 0, .int .i64 K1, .int .i64 20, .int .i64 0, .slice a8 0 c8] ∧ Gr w3 W) ?h ?k
  case h =>
    have hS : Gr w3 w3.drew := Gr.drew (Gr.refl _)
    refine region_plain (Gr w3) (by kernel_rfl) ?_
    generalize w3.drew = w5 at hS ⊢
    refine take_at 0 (some 12) (v := ?vr0) rfl rfl (by kernel_rfl) (by kernel_rfl) (by kernel_rfl) (by rfl) ?yr0 hS ?tr0
    case yr0 =>
      intro w' hSw
      obtain - := hSw
      go_simp
      (try with_reducible rfl)
    simp only [Act.put, List.setIfInBounds_toArray, List.set_cons_zero, List.set_cons_succ]
    refine take_at 1 (some 13) (v := ?vr1) rfl rfl (by kernel_rfl) (by kernel_rfl) (by kernel_rfl) (by rfl) ?yr1 hS ?tr1
    case yr1 =>
      intro w' hSw
      obtain ⟨⟨q0, q1, q2, q3, q4, q5, q6⟩, -⟩ := (HC.out.gr hSw).seven
      go_simp
      (try with_reducible rfl)
    simp only [Act.put, List.setIfInBounds_toArray, List.set_cons_zero, List.set_cons_succ]
    refine take_at 2 (some 14) (v := ?vr2) rfl rfl (by kernel_rfl) (by kernel_rfl) (by kernel_rfl) (by rfl) ?yr2 hS ?tr2
    case yr2 =>
      intro w' hSw
      obtain - := hSw
      go_simp
      (try with_reducible rfl)
    simp only [Act.put, List.setIfInBounds_toArray, List.set_cons_zero, List.set_cons_succ]
    refine take_at 3 (some 15) (v := ?vr3) rfl rfl (by kernel_rfl) (by kernel_rfl) (by kernel_rfl) (by rfl) ?yr3 hS ?tr3
    case yr3 =>
      intro w' hSw
      obtain ⟨⟨q0, q1, q2, q3, q4, q5, q6⟩, -⟩ := (HC.out.gr hSw).seven
      go_simp
      (try with_reducible rfl)
    simp only [Act.put, List.setIfInBounds_toArray, List.set_cons_zero, List.set_cons_succ]
    refine take_at 4 (some 16) (v := ?vr4) rfl rfl (by kernel_rfl) (by kernel_rfl) (by kernel_rfl) (by rfl) ?yr4 hS ?tr4
    case yr4 =>
      intro w' hSw
      obtain - := hSw
      go_simp
      (try with_reducible rfl)
    simp only [Act.put, List.setIfInBounds_toArray, List.set_cons_zero, List.set_cons_succ]
    refine take_at 5 (some 17) (v := ?vr5) rfl rfl (by kernel_rfl) (by kernel_rfl) (by kernel_rfl) (by rfl) ?yr5 hS ?tr5
    case yr5 =>
      intro w' hSw
      obtain - := hSw
      go_simp
      (try with_reducible rfl)
    simp only [Act.put, List.setIfInBounds_toArray, List.set_cons_zero, List.set_cons_succ]
    refine take_at 6 (some 18) (v := ?vr6) rfl rfl (by kernel_rfl) (by kernel_rfl) (by kernel_rfl) (by rfl) ?yr6 hS ?tr6
    case yr6 =>
      intro w' hSw
      obtain - := hSw
      go_simp
      (try with_reducible rfl)
    simp only [Act.put, List.setIfInBounds_toArray, List.set_cons_zero, List.set_cons_succ]
    refine take_at 7 (some 19) (v := ?vr7) rfl rfl (by kernel_rfl) (by kernel_rfl) (by kernel_rfl) (by rfl) ?yr7 hS ?tr7
    case yr7 =>
      intro w' hSw
      obtain - := hSw
      go_simp
      (try with_reducible rfl)
    simp only [Act.put, List.setIfInBounds_toArray, List.set_cons_zero, List.set_cons_succ]
    refine take_at 8 (some 20) (v := ?vr8) rfl rfl (by kernel_rfl) (by kernel_rfl) (by kernel_rfl) (by rfl) ?yr8 hS ?tr8
    case yr8 =>
      intro w' hSw
      obtain ⟨y0, y1, y2, y3, y4, y5, y6, y7⟩ := (HR.out.gr hSw).head
      go_simp
      (try with_reducible rfl)
    simp only [Act.put, List.setIfInBounds_toArray, List.set_cons_zero, List.set_cons_succ]
    refine next_two 9 13 rfl rfl (by kernel_rfl) (by rfl) (by rfl) (fun K hK => ?_) (fun K hK => ?_)
    · skip
      go_simp
      refine (HD.out _ hS).mono ?_
      rintro e w8 ⟨v8, rfl, ho, hg⟩
      obtain ⟨a8, c8, rfl, -, -⟩ := ho.rb.form
      replace hS := hS.step hg
      refine hK _ _ hS ?_
      clear hK K ho
      refine take_at 10 (some 11) (v := ?vra10) rfl rfl (by kernel_rfl) (by kernel_rfl) (by kernel_rfl) (by rfl) ?yra10 hS ?tra10
      case yra10 =>
        intro w' hSw
        obtain - := hSw
        go_simp
        (try with_reducible rfl)
      simp only [Act.put, List.setIfInBounds_toArray, List.set_cons_zero, List.set_cons_succ]
      refine take_at 11 (some 22) (v := ?vra11) rfl rfl (by kernel_rfl) (by kernel_rfl) (by kernel_rfl) (by rfl) ?yra11 hS ?tra11
      case yra11 =>
        intro w' hSw
        obtain - := hSw
        go_simp
        (try with_reducible rfl)
      simp only [Act.put, List.setIfInBounds_toArray, List.set_cons_zero, List.set_cons_succ]
      refine take_at 12 (some 23) (v := ?vra12) rfl rfl (by kernel_rfl) (by kernel_rfl) (by kernel_rfl) (by rfl) ?yra12 hS ?tra12
      case yra12 =>
        intro w' hSw
        obtain - := hSw
        go_simp
        (try with_reducible rfl)
      simp only [Act.put, List.setIfInBounds_toArray, List.set_cons_zero, List.set_cons_succ]
      refine next_at 13 rfl (by kernel_rfl) (by rfl) (fun K hK => ?_)
      go_simp
      have hSn := hS.alloc (.cells #[.int .i64 0, .int .i64 0, .int .i64 0, .int .i64 0, .int .i64 0, .int .i64 0, .slice none 0 0] 80)
      have hA := CL.new w8 [.int .i64 0, .int .i64 0, .int .i64 0, .int .i64 0, .int .i64 0, .int .i64 0, .slice none 0 0] 80 _ rfl
      have hga := Gr.size hS
      simp only [List.toArray] at hA
      refine hK _ _ hSn ?_
      clear hK K hS
      have hS := hSn
      clear hSn
      generalize w8.alloc (.cells #[.int .i64 0, .int .i64 0, .int .i64 0, .int .i64 0, .int .i64 0, .int .i64 0, .slice none 0 0] 80) = w9 at hS hA ⊢
      generalize w8.heap.size = ga at hA hga ⊢
      have hcF := hA.fill [.int .i64 80, .int .i64 D, .int .i64 0, .int .i64 K1, .int .i64 20, .int .i64 0, .slice a8 0 c8] rfl
      have hsF := hS.fill hga [.int .i64 80, .int .i64 D, .int .i64 0, .int .i64 K1, .int .i64 20, .int .i64 0, .slice a8 0 c8] 0
      simp only [fillC, Nat.reduceAdd] at hcF hsF
      obtain ⟨⟨y0, y1, y2, y3, y4, y5, y6⟩, u0, u1, u2, u3, u4, u5, u6⟩ := hA.seven
      refine next_at 14 rfl (by kernel_rfl) (by rfl) (fun K hK => ?_)
      go_simp
      refine hK _ _ hsF ?_
      clear hK K y0 y1 y2 y3 y4 y5 y6 u0 u1 u2 u3 u4 u5 u6
      refine next_at 15 rfl (by kernel_rfl) (by rfl) (fun K hK => ?_)
      go_simp
      refine hK _ _ hsF ?_
      clear hK K
      refine wpAnyH_done (by kernel_rfl) ?_ _
      refine qz_normal ⟨rfl, ga, a8, c8, ?_, hcF, hsF⟩
      first | with_reducible rfl | exact rfl
    · skip
      go_simp
      have hSn := hS.alloc (.cells #[.int .i64 0, .int .i64 0, .int .i64 0, .int .i64 0, .int .i64 0, .int .i64 0, .slice none 0 0] 80)
      have hA := CL.new w5 [.int .i64 0, .int .i64 0, .int .i64 0, .int .i64 0, .int .i64 0, .int .i64 0, .slice none 0 0] 80 _ rfl
      have hga := Gr.size hS
      simp only [List.toArray] at hA
      refine hK _ _ hSn ?_
      clear hK K hS
      have hS := hSn
      clear hSn
      generalize w5.alloc (.cells #[.int .i64 0, .int .i64 0, .int .i64 0, .int .i64 0, .int .i64 0, .int .i64 0, .slice none 0 0] 80) = w6 at hS hA ⊢
      generalize w5.heap.size = ga at hA hga ⊢
      refine next_at 9 rfl (by kernel_rfl) (by rfl) (fun K hK => ?_)
      go_simp
      refine (HD.out _ hS).mono ?_
      rintro e w8 ⟨v8, rfl, ho, hg⟩
      obtain ⟨a8, c8, rfl, -, -⟩ := ho.rb.form
      replace hS := hS.step hg
      refine hK _ _ hS ?_
      clear hK K ho
      replace hA := hA.gr hg
      refine take_at 10 (some 11) (v := ?vrb10) rfl rfl (by kernel_rfl) (by kernel_rfl) (by kernel_rfl) (by rfl) ?yrb10 hS ?trb10
      case yrb10 =>
        intro w' hSw
        obtain - := hSw
        go_simp
        (try with_reducible rfl)
      simp only [Act.put, List.setIfInBounds_toArray, List.set_cons_zero, List.set_cons_succ]
      refine take_at 11 (some 22) (v := ?vrb11) rfl rfl (by kernel_rfl) (by kernel_rfl) (by kernel_rfl) (by rfl) ?yrb11 hS ?trb11
      case yrb11 =>
        intro w' hSw
        obtain - := hSw
        go_simp
        (try with_reducible rfl)
      simp only [Act.put, List.setIfInBounds_toArray, List.set_cons_zero, List.set_cons_succ]
      refine take_at 12 (some 23) (v := ?vrb12) rfl rfl (by kernel_rfl) (by kernel_rfl) (by kernel_rfl) (by rfl) ?yrb12 hS ?trb12
      case yrb12 =>
        intro w' hSw
        obtain - := hSw
        go_simp
        (try with_reducible rfl)
      simp only [Act.put, List.setIfInBounds_toArray, List.set_cons_zero, List.set_cons_succ]
      have hcF := hA.fill [.int .i64 80, .int .i64 D, .int .i64 0, .int .i64 K1, .int .i64 20, .int .i64 0, .slice a8 0 c8] rfl
      have hsF := hS.fill hga [.int .i64 80, .int .i64 D, .int .i64 0, .int .i64 K1, .int .i64 20, .int .i64 0, .slice a8 0 c8] 0
      simp only [fillC, Nat.reduceAdd] at hcF hsF
      obtain ⟨⟨y0, y1, y2, y3, y4, y5, y6⟩, u0, u1, u2, u3, u4, u5, u6⟩ := hA.seven
      refine next_at 14 rfl (by kernel_rfl) (by rfl) (fun K hK => ?_)
      go_simp
      refine hK _ _ hsF ?_
      clear hK K y0 y1 y2 y3 y4 y5 y6 u0 u1 u2 u3 u4 u5 u6
      refine next_at 15 rfl (by kernel_rfl) (by rfl) (fun K hK => ?_)
      go_simp
      refine hK _ _ hsF ?_
      clear hK K
      refine wpAnyH_done (by kernel_rfl) ?_ _
      refine qz_normal ⟨rfl, ga, a8, c8, ?_, hcF, hsF⟩
      first | with_reducible rfl | exact rfl
  case k =>
    intro ga a8 c8 W5 ⟨hA, hg⟩
    replace hG := hG.step hg
    replace hR := hR.gr hg
    obtain ⟨⟨x0, x1, x2, x3, x4, x5, x6⟩, -⟩ := hA.seven
    obtain ⟨⟨y0, y1, y2, y3, y4, y5, y6⟩, -⟩ := (HC.out.gr hg).seven
    clear hg HR HC HD
    go_wp2_with fail
    refine (HRc.out _ hR).mono ?_
    rintro e w6 ⟨rfl, hR6, hx⟩
    replace hx := (Ex.ofGr (b := g) hG).trans hx
    go_wp2_with fail
    go_ret
    exact ⟨rfl, hR6, hx⟩
end Go.Proofs.YtkpejaiigopmgaaGreatDoor
