/- Several texts in one. -/
import Derived.Test.YtkpejaiigopmgaaGreatDoorUcM
import Derived.Test.YtkpejaiigopmgaaGreatDoorGV
import Derived.WalkKit
import Derived.WalkSpells
import Derived.WalkLawsBesides
import Derived.WalkSmall
import Derived.Handy
import Derived.BigQuiet
import Derived.Deep.QuietTactic
import Derived.Deep.RegionHeld3
import Derived.Deep.DeepFit
import Derived.Below
import Derived.Lib.Hide
import Derived.Lib.QuietBelow
import Derived.Test.YtkpejaiigopmgaaGreatDoorGW
/- Probes from choices. -/
namespace Go.Proofs.YtkpejaiigopmgaaGreatDoor
open Go Go.RowKit Go.Sort
set_option maxRecDepth 100000
set_option linter.unusedVariables false
set_option linter.unusedSimpArgs false
theorem Cod.fillN {B b g : Nat} {w : World} (h : Cod B w b) (hg : b < g) (ws : List Value) (i : Nat) : Cod B (fillC w g i ws) b := by
  induction ws generalizing w i with
  | nil => exact h
  | cons v t ih => exact ih (h.set g i (by omega) (by have := h.base; omega) v) (i + 1)
theorem Ex.fillN {b g : Nat} {u v : World} (h : Ex b u v) (hg : u.heap.size ≤ g) (ws : List Value) (i : Nat) : Ex b u (fillC v g i ws) := by
  induction ws generalizing v i with
  | nil => exact h
  | cons x t ih => exact ih (h.setNew (p := ⟨g, i, none⟩) hg x) (i + 1)
def PtPost1 (B b : Nat) (w : World) (e : Ending) (w' : World) : Prop := ∃ x : Nat, e = .returned (.int .i64 x) ∧ (x = 1 ∨ x = 17 ∨ x = 6) ∧ Cod B w' b ∧ Ex b w w'
theorem proto_any {B : Nat} (b : Nat) (w : World) (h : Cod B w b) :
    Calls Tryz.prog 17 #[.pointer (some ⟨b, 0, none⟩)] w (PtPost1 B b w) := by
  have hbl := h.lt
  have hC := CL.new w [.int .i64 17, .int .i64 1, .int .i64 6] 3 _ rfl
  have hx := Ex.alloc (Ex.refl b w) (.cells #[.int .i64 17, .int .i64 1, .int .i64 6] 3)
  have hc := h.gr (Gr.alloc (Gr.refl w) (.cells #[.int .i64 17, .int .i64 1, .int .i64 6] 3))
  simp only [List.toArray] at hC
  go_enter Tryz.func17, Tryz.ntmps17
  go_wp2_with fail
  refine (next_nat b 3 _ (by omega) (by omega) hc).mono ?_
  rintro e w1 ⟨x, rfl, hx3, hc1, he1⟩
  replace hC := hC.ex he1 (by omega)
  replace hx := hx.trans he1
  obtain ⟨⟨c0, c1, c2⟩, -⟩ := hC.three
  have hx' : x = 0 ∨ x = 1 ∨ x = 2 := by omega
  clear he1 hC h hc hbl hx3
  rcases hx' with rfl | rfl | rfl
  · go_wp2_with fail
    go_ret
    exact ⟨17, rfl, by omega, hc1, hx⟩
  · go_wp2_with fail
    go_ret
    exact ⟨1, rfl, by omega, hc1, hx⟩
  · go_wp2_with fail
    go_ret
    exact ⟨6, rfl, by omega, hc1, hx⟩
def PxPost (B b : Nat) (w : World) (e : Ending) (w' : World) : Prop := ∃ (s d : Nat) (pr fl tg tt : Int), e = .returned (prV s d pr fl tg tt) ∧ s < 4294967296 ∧ d < 4294967296 ∧ Cod B w' b ∧ Ex b w w'
set_option maxHeartbeats 4000000 in
theorem probe_any {B : Nat} (b : Nat) (w : World) (h : Cod B w b) :
    Calls Tryz.prog 15 #[.pointer (some ⟨b, 0, none⟩)] w (PxPost B b w) := by
  have hbl := h.lt
  have hR := CL.new w [.int .u32 0, .int .u32 0, .int .i64 0, .int .i64 0, .int .i64 0, .int .i64 0] 29 _ rfl
  have hx := Ex.alloc (Ex.refl b w) (.cells #[.int .u32 0, .int .u32 0, .int .i64 0, .int .i64 0, .int .i64 0, .int .i64 0] 29)
  have hc := h.gr (Gr.alloc (Gr.refl w) (.cells #[.int .u32 0, .int .u32 0, .int .i64 0, .int .i64 0, .int .i64 0, .int .i64 0] 29))
  have hg1 := Nat.le_refl w.heap.size
  simp only [List.toArray] at hR
  clear h
  go_enter Tryz.func15, Tryz.ntmps15
  go_upto_region 1 with fail
  generalize w.alloc (.cells #[.int .u32 0, .int .u32 0, .int .i64 0, .int .i64 0, .int .i64 0, .int .i64 0] 29) = w1 at hR hx hc ⊢
  generalize hge : w.heap.size = g1 at hR ⊢
  rw [hge] at hg1 hbl
  replace hg1 : w.heap.size ≤ g1 := by omega
  have hrb : g1 ≠ b := by omega
  have hrl : b < g1 := hbl
  clear hge hbl
  go_wp2_with fail
  refine (address_any b _ hc).mono ?_
  rintro e w2 ⟨s, rfl, hs, hc', he⟩
  replace hx := hx.trans he
  replace hR := hR.ex he hrb
  replace hc := hc'
  clear he hc'
  go_wp2_with fail
  refine (address_any b _ hc).mono ?_
  rintro e w3 ⟨d, rfl, hd, hc', he⟩
  replace hx := hx.trans he
  replace hR := hR.ex he hrb
  replace hc := hc'
  clear he hc'
  go_wp2_with fail
  refine (proto_any b _ hc).mono ?_
  rintro e w4 ⟨pr, rfl, hpr, hc', he⟩
  replace hx := hx.trans he
  replace hR := hR.ex he hrb
  replace hc := hc'
  clear he hc'
  go_wp2_with fail
  refine (next_nat b 6 _ (by omega) (by omega) hc).mono ?_
  rintro e w5 ⟨fl, rfl, hfl, hc', he⟩
  replace hx := hx.trans he
  replace hR := hR.ex he hrb
  replace hc := hc'
  clear he hc'
  go_wp2_with fail
  refine (next_nat b 2000 _ (by omega) (by omega) hc).mono ?_
  rintro e w6 ⟨tg, rfl, htg, hc', he⟩
  replace hx := hx.trans he
  replace hR := hR.ex he hrb
  replace hc := hc'
  clear he hc'
  go_wp2_with fail
  refine (next_nat b 6 _ (by omega) (by omega) hc).mono ?_
  rintro e w7 ⟨t0, rfl, ht0, hc', he⟩
  obtain ⟨tt, htt⟩ : ∃ tt, tt = 1 + t0 := ⟨_, rfl⟩
  have eT : (1 : Int) + (t0 : Int) = (tt : Int) := by omega
  have eWT : IntKind.i64.wrap (tt : Int) = (tt : Int) := by rw [IntWalk.i64_in _ (by omega)]
  replace hx := hx.trans he
  replace hR := hR.ex he hrb
  replace hc := hc'
  clear he hc' htt ht0 htg hfl hpr
  have hP := CL.new w7 [.int .u32 s, .int .u32 d, .int .i64 pr, .int .i64 fl, .int .i64 tg, .int .i64 tt] 29 _ rfl
  have hgn := Gr.alloc (Gr.refl w7) (.cells #[.int .u32 s, .int .u32 d, .int .i64 pr, .int .i64 fl, .int .i64 tg, .int .i64 tt] 29)
  have hgp : g1 < w7.heap.size := hR.lt
  simp only [List.toArray] at hP
  go_upto_region 2 with fail
  generalize w7.alloc (.cells #[.int .u32 s, .int .u32 d, .int .i64 pr, .int .i64 fl, .int .i64 tg, .int .i64 tt] 29) = w8 at hP hgn ⊢
  generalize w7.heap.size = gp at hP hgp ⊢
  replace hR := hR.gr hgn
  replace hx := hx.trans (Ex.ofGr hgn)
  replace hc := hc.gr hgn
  clear hgn eT eWT
  have hpb : gp ≠ b := by omega
  go_wp2_with fail
  refine (next_nat b 12 _ (by omega) (by omega) hc).mono ?_
  rintro e w9 ⟨x, rfl, hx12, hc', he⟩
  replace hx := hx.trans he
  replace hR := hR.ex he hrb
  replace hP := hP.ex he hpb
  replace hc := hc'
  clear he hc' hx12
  by_cases x8 : x = 8
  · subst x8
    obtain ⟨⟨y0, y1, y2, y3, y4, y5⟩, u0, u1, u2, u3, u4, u5⟩ := CL.six hP
    go_upto_region 11 with fail
    clear y0 y1 y2 y3 y4 y5 u0 u1 u2 u3 u4 u5
    replace hP := hP.set 3 (.int .i64 1023) (by simp)
    replace hR := hR.other (s := gp) (o := 3) (.int .i64 1023) (by omega)
    replace hc := hc.set gp 3 (by omega) (by have := hc.base; omega) (.int .i64 1023)
    replace hx := hx.setNew (p := ⟨gp, 3, none⟩) (by show w.heap.size ≤ gp; omega) (.int .i64 1023)
    replace hP := hP.set 4 (.int .i64 65534) (by simp)
    replace hR := hR.other (s := gp) (o := 4) (.int .i64 65534) (by omega)
    replace hc := hc.set gp 4 (by omega) (by have := hc.base; omega) (.int .i64 65534)
    replace hx := hx.setNew (p := ⟨gp, 4, none⟩) (by show w.heap.size ≤ gp; omega) (.int .i64 65534)
    simp only [List.set_cons_succ, List.set_cons_zero] at hP
    generalize (w9.setCell ⟨gp, 3, none⟩ (.int .i64 1023)).setCell ⟨gp, 4, none⟩ (.int .i64 65534) = wA at hP hR hc hx ⊢
    obtain ⟨⟨y0, y1, y2, y3, y4, y5⟩, -⟩ := CL.six hP
    obtain ⟨⟨r0, r1, r2, r3, r4, r5⟩, s0, s1, s2, s3, s4, s5⟩ := CL.six hR
    go_wp2_with fail
    clear r0 r1 r2 r3 r4 r5 s0 s1 s2 s3 s4 s5 y0 y1 y2 y3 y4 y5 hP
    have hcF := hR.fill [.int .u32 s, .int .u32 d, .int .i64 pr, .int .i64 1023, .int .i64 65534, .int .i64 tt] rfl
    have hxF := hx.fillN hg1 [.int .u32 s, .int .u32 d, .int .i64 pr, .int .i64 1023, .int .i64 65534, .int .i64 tt] 0
    have hkF := hc.fillN hrl [.int .u32 s, .int .u32 d, .int .i64 pr, .int .i64 1023, .int .i64 65534, .int .i64 tt] 0
    simp only [fillC, Nat.reduceAdd] at hcF hxF hkF
    generalize (((((wA.setCell ⟨g1, 0, none⟩ (.int .u32 s)).setCell ⟨g1, 1, none⟩ (.int .u32 d)).setCell ⟨g1, 2, none⟩ (.int .i64 pr)).setCell ⟨g1, 3, none⟩ (.int .i64 1023)).setCell ⟨g1, 4, none⟩ (.int .i64 65534)).setCell ⟨g1, 5, none⟩ (.int .i64 tt) = wF at hcF hxF hkF ⊢
    obtain ⟨⟨c0, c1, c2, c3, c4, c5⟩, -⟩ := CL.six hcF
    exact bodyPost_ret (v := .agg #[.int .u32 s, .int .u32 d, .int .i64 pr, .int .i64 1023, .int .i64 65534, .int .i64 tt]) (by simp [results, Tryz.results15, go_sem, c0, c1, c2, c3, c4, c5]) rfl ⟨s, d, pr, 1023, 65534, tt, rfl, hs, hd, hkF, hxF⟩
  · skip
    by_cases x9 : x = 9
    · subst x9
      go_wp2_with fail
      refine (int_c b _ hc).mono ?_
      rintro e wa ⟨i, rfl, hi0, hi1, hc', he⟩
      replace hx := hx.trans he
      replace hR := hR.ex he hrb
      replace hP := hP.ex he hpb
      replace hc := hc'
      clear he hc' hi0 hi1
      go_wp2_with fail
      refine (int_c b _ hc).mono ?_
      rintro e wb ⟨j, rfl, hj0, hj1, hc', he⟩
      replace hx := hx.trans he
      replace hR := hR.ex he hrb
      replace hP := hP.ex he hpb
      replace hc := hc'
      clear he hc' hj0 hj1
      obtain ⟨⟨y0, y1, y2, y3, y4, y5⟩, u0, u1, u2, u3, u4, u5⟩ := CL.six hP
      go_upto_region 11 with fail
      clear y0 y1 y2 y3 y4 y5 u0 u1 u2 u3 u4 u5
      replace hP := hP.set 3 (.int .i64 i) (by simp)
      replace hR := hR.other (s := gp) (o := 3) (.int .i64 i) (by omega)
      replace hc := hc.set gp 3 (by omega) (by have := hc.base; omega) (.int .i64 i)
      replace hx := hx.setNew (p := ⟨gp, 3, none⟩) (by show w.heap.size ≤ gp; omega) (.int .i64 i)
      replace hP := hP.set 5 (.int .i64 j) (by simp)
      replace hR := hR.other (s := gp) (o := 5) (.int .i64 j) (by omega)
      replace hc := hc.set gp 5 (by omega) (by have := hc.base; omega) (.int .i64 j)
      replace hx := hx.setNew (p := ⟨gp, 5, none⟩) (by show w.heap.size ≤ gp; omega) (.int .i64 j)
      simp only [List.set_cons_succ, List.set_cons_zero] at hP
      generalize (wb.setCell ⟨gp, 3, none⟩ (.int .i64 i)).setCell ⟨gp, 5, none⟩ (.int .i64 j) = wA at hP hR hc hx ⊢
      obtain ⟨⟨y0, y1, y2, y3, y4, y5⟩, -⟩ := CL.six hP
      obtain ⟨⟨r0, r1, r2, r3, r4, r5⟩, s0, s1, s2, s3, s4, s5⟩ := CL.six hR
      go_wp2_with fail
      clear r0 r1 r2 r3 r4 r5 s0 s1 s2 s3 s4 s5 y0 y1 y2 y3 y4 y5 hP
      have hcF := hR.fill [.int .u32 s, .int .u32 d, .int .i64 pr, .int .i64 i, .int .i64 tg, .int .i64 j] rfl
      have hxF := hx.fillN hg1 [.int .u32 s, .int .u32 d, .int .i64 pr, .int .i64 i, .int .i64 tg, .int .i64 j] 0
      have hkF := hc.fillN hrl [.int .u32 s, .int .u32 d, .int .i64 pr, .int .i64 i, .int .i64 tg, .int .i64 j] 0
      simp only [fillC, Nat.reduceAdd] at hcF hxF hkF
      generalize (((((wA.setCell ⟨g1, 0, none⟩ (.int .u32 s)).setCell ⟨g1, 1, none⟩ (.int .u32 d)).setCell ⟨g1, 2, none⟩ (.int .i64 pr)).setCell ⟨g1, 3, none⟩ (.int .i64 i)).setCell ⟨g1, 4, none⟩ (.int .i64 tg)).setCell ⟨g1, 5, none⟩ (.int .i64 j) = wF at hcF hxF hkF ⊢
      obtain ⟨⟨c0, c1, c2, c3, c4, c5⟩, -⟩ := CL.six hcF
      exact bodyPost_ret (v := .agg #[.int .u32 s, .int .u32 d, .int .i64 pr, .int .i64 i, .int .i64 tg, .int .i64 j]) (by simp [results, Tryz.results15, go_sem, c0, c1, c2, c3, c4, c5]) rfl ⟨s, d, pr, i, tg, j, rfl, hs, hd, hkF, hxF⟩
    · skip
      by_cases x10 : x = 10
      · subst x10
        go_wp2_with fail
        refine (int_c b _ hc).mono ?_
        rintro e wa ⟨i, rfl, hi0, hi1, hc', he⟩
        replace hx := hx.trans he
        replace hR := hR.ex he hrb
        replace hP := hP.ex he hpb
        replace hc := hc'
        clear he hc' hi0 hi1
        obtain ⟨⟨y0, y1, y2, y3, y4, y5⟩, u0, u1, u2, u3, u4, u5⟩ := CL.six hP
        go_upto_region 11 with fail
        clear y0 y1 y2 y3 y4 y5 u0 u1 u2 u3 u4 u5
        replace hP := hP.set 4 (.int .i64 i) (by simp)
        replace hR := hR.other (s := gp) (o := 4) (.int .i64 i) (by omega)
        replace hc := hc.set gp 4 (by omega) (by have := hc.base; omega) (.int .i64 i)
        replace hx := hx.setNew (p := ⟨gp, 4, none⟩) (by show w.heap.size ≤ gp; omega) (.int .i64 i)
        simp only [List.set_cons_succ, List.set_cons_zero] at hP
        generalize wa.setCell ⟨gp, 4, none⟩ (.int .i64 i) = wA at hP hR hc hx ⊢
        obtain ⟨⟨y0, y1, y2, y3, y4, y5⟩, -⟩ := CL.six hP
        obtain ⟨⟨r0, r1, r2, r3, r4, r5⟩, s0, s1, s2, s3, s4, s5⟩ := CL.six hR
        go_wp2_with fail
        clear r0 r1 r2 r3 r4 r5 s0 s1 s2 s3 s4 s5 y0 y1 y2 y3 y4 y5 hP
        have hcF := hR.fill [.int .u32 s, .int .u32 d, .int .i64 pr, .int .i64 fl, .int .i64 i, .int .i64 tt] rfl
        have hxF := hx.fillN hg1 [.int .u32 s, .int .u32 d, .int .i64 pr, .int .i64 fl, .int .i64 i, .int .i64 tt] 0
        have hkF := hc.fillN hrl [.int .u32 s, .int .u32 d, .int .i64 pr, .int .i64 fl, .int .i64 i, .int .i64 tt] 0
        simp only [fillC, Nat.reduceAdd] at hcF hxF hkF
        generalize (((((wA.setCell ⟨g1, 0, none⟩ (.int .u32 s)).setCell ⟨g1, 1, none⟩ (.int .u32 d)).setCell ⟨g1, 2, none⟩ (.int .i64 pr)).setCell ⟨g1, 3, none⟩ (.int .i64 fl)).setCell ⟨g1, 4, none⟩ (.int .i64 i)).setCell ⟨g1, 5, none⟩ (.int .i64 tt) = wF at hcF hxF hkF ⊢
        obtain ⟨⟨c0, c1, c2, c3, c4, c5⟩, -⟩ := CL.six hcF
        exact bodyPost_ret (v := .agg #[.int .u32 s, .int .u32 d, .int .i64 pr, .int .i64 fl, .int .i64 i, .int .i64 tt]) (by simp [results, Tryz.results15, go_sem, c0, c1, c2, c3, c4, c5]) rfl ⟨s, d, pr, fl, i, tt, rfl, hs, hd, hkF, hxF⟩
      · skip
        by_cases x11 : x = 11
        · subst x11
          go_wp2_with fail
          refine (int_c b _ hc).mono ?_
          rintro e wa ⟨i, rfl, hi0, hi1, hc', he⟩
          replace hx := hx.trans he
          replace hR := hR.ex he hrb
          replace hP := hP.ex he hpb
          replace hc := hc'
          clear he hc' hi0 hi1
          obtain ⟨⟨y0, y1, y2, y3, y4, y5⟩, u0, u1, u2, u3, u4, u5⟩ := CL.six hP
          go_upto_region 11 with fail
          clear y0 y1 y2 y3 y4 y5 u0 u1 u2 u3 u4 u5
          replace hP := hP.set 2 (.int .i64 i) (by simp)
          replace hR := hR.other (s := gp) (o := 2) (.int .i64 i) (by omega)
          replace hc := hc.set gp 2 (by omega) (by have := hc.base; omega) (.int .i64 i)
          replace hx := hx.setNew (p := ⟨gp, 2, none⟩) (by show w.heap.size ≤ gp; omega) (.int .i64 i)
          simp only [List.set_cons_succ, List.set_cons_zero] at hP
          generalize wa.setCell ⟨gp, 2, none⟩ (.int .i64 i) = wA at hP hR hc hx ⊢
          obtain ⟨⟨y0, y1, y2, y3, y4, y5⟩, -⟩ := CL.six hP
          obtain ⟨⟨r0, r1, r2, r3, r4, r5⟩, s0, s1, s2, s3, s4, s5⟩ := CL.six hR
          go_wp2_with fail
          clear r0 r1 r2 r3 r4 r5 s0 s1 s2 s3 s4 s5 y0 y1 y2 y3 y4 y5 hP
          have hcF := hR.fill [.int .u32 s, .int .u32 d, .int .i64 i, .int .i64 fl, .int .i64 tg, .int .i64 tt] rfl
          have hxF := hx.fillN hg1 [.int .u32 s, .int .u32 d, .int .i64 i, .int .i64 fl, .int .i64 tg, .int .i64 tt] 0
          have hkF := hc.fillN hrl [.int .u32 s, .int .u32 d, .int .i64 i, .int .i64 fl, .int .i64 tg, .int .i64 tt] 0
          simp only [fillC, Nat.reduceAdd] at hcF hxF hkF
          generalize (((((wA.setCell ⟨g1, 0, none⟩ (.int .u32 s)).setCell ⟨g1, 1, none⟩ (.int .u32 d)).setCell ⟨g1, 2, none⟩ (.int .i64 i)).setCell ⟨g1, 3, none⟩ (.int .i64 fl)).setCell ⟨g1, 4, none⟩ (.int .i64 tg)).setCell ⟨g1, 5, none⟩ (.int .i64 tt) = wF at hcF hxF hkF ⊢
          obtain ⟨⟨c0, c1, c2, c3, c4, c5⟩, -⟩ := CL.six hcF
          exact bodyPost_ret (v := .agg #[.int .u32 s, .int .u32 d, .int .i64 i, .int .i64 fl, .int .i64 tg, .int .i64 tt]) (by simp [results, Tryz.results15, go_sem, c0, c1, c2, c3, c4, c5]) rfl ⟨s, d, i, fl, tg, tt, rfl, hs, hd, hkF, hxF⟩
        · skip
          have b8 : ((x : Int) == 8) = false := by simpa using (by omega : ¬ (x : Int) = 8)
          have b9 : ((x : Int) == 9) = false := by simpa using (by omega : ¬ (x : Int) = 9)
          have b10 : ((x : Int) == 10) = false := by simpa using (by omega : ¬ (x : Int) = 10)
          have b11 : ((x : Int) == 11) = false := by simpa using (by omega : ¬ (x : Int) = 11)
          clear x8 x9 x10 x11
          go_upto_region 11 with fail
          obtain ⟨⟨y0, y1, y2, y3, y4, y5⟩, -⟩ := CL.six hP
          obtain ⟨⟨r0, r1, r2, r3, r4, r5⟩, s0, s1, s2, s3, s4, s5⟩ := CL.six hR
          go_wp2_with fail
          clear r0 r1 r2 r3 r4 r5 s0 s1 s2 s3 s4 s5 y0 y1 y2 y3 y4 y5 hP
          have hcF := hR.fill [.int .u32 s, .int .u32 d, .int .i64 pr, .int .i64 fl, .int .i64 tg, .int .i64 tt] rfl
          have hxF := hx.fillN hg1 [.int .u32 s, .int .u32 d, .int .i64 pr, .int .i64 fl, .int .i64 tg, .int .i64 tt] 0
          have hkF := hc.fillN hrl [.int .u32 s, .int .u32 d, .int .i64 pr, .int .i64 fl, .int .i64 tg, .int .i64 tt] 0
          simp only [fillC, Nat.reduceAdd] at hcF hxF hkF
          generalize (((((w9.setCell ⟨g1, 0, none⟩ (.int .u32 s)).setCell ⟨g1, 1, none⟩ (.int .u32 d)).setCell ⟨g1, 2, none⟩ (.int .i64 pr)).setCell ⟨g1, 3, none⟩ (.int .i64 fl)).setCell ⟨g1, 4, none⟩ (.int .i64 tg)).setCell ⟨g1, 5, none⟩ (.int .i64 tt) = wF at hcF hxF hkF ⊢
          obtain ⟨⟨c0, c1, c2, c3, c4, c5⟩, -⟩ := CL.six hcF
          exact bodyPost_ret (v := .agg #[.int .u32 s, .int .u32 d, .int .i64 pr, .int .i64 fl, .int .i64 tg, .int .i64 tt]) (by simp [results, Tryz.results15, go_sem, c0, c1, c2, c3, c4, c5]) rfl ⟨s, d, pr, fl, tg, tt, rfl, hs, hd, hkF, hxF⟩
end Go.Proofs.YtkpejaiigopmgaaGreatDoor
/- Probes: Read. -/
namespace Go.Proofs.YtkpejaiigopmgaaGreatDoor
open Go Go.RowKit Go.Sort
set_option maxRecDepth 100000
set_option linter.unusedVariables false
set_option linter.unusedSimpArgs false
def prZ : Value := prV 0 0 0 0 0 0
/-- no other bytes are the packet of a probe -/
theorem Pr.of_pk {P : Pr} (k : P.ok) : prV (hdAt P.pk).src (hdAt P.pk).dst (hdAt P.pk).proto (flI (hdAt P.pk).proto (kA (hdAt P.pk).proto (P.pk.drop 20)) (kB (hdAt P.pk).proto (P.pk.drop 20))) (hdAt P.pk).id (hdAt P.pk).ttl = P.v := by
  rw [(Pr.pk_dc k).2.1, (Pr.pk_dc k).2.2]
  show prV P.src P.dst P.proto (flI P.proto (kA P.proto P.data) (kB P.proto P.data)) P.tag P.ttl = P.v
  rw [(Pr.key_at k).1, (Pr.key_at k).2, Pr.fl_at]
  rfl
theorem v_inj {P Q : Pr} (h : P.v = Q.v) : P = Q := by
  obtain ⟨a, b, c, d, e, f⟩ := P
  obtain ⟨a', b', c', d', e', f'⟩ := Q
  simp only [Pr.v, prV, Value.agg.injEq, Array.mk.injEq, List.cons.injEq, Value.int.injEq, true_and, and_true] at h
  obtain ⟨h1, h2, h3, h4, h5, h6⟩ := h
  congr <;> omega
end Go.Proofs.YtkpejaiigopmgaaGreatDoor
/- Right probes from choices; the sanity check. -/
namespace Go.Proofs.YtkpejaiigopmgaaGreatDoor
open Go Go.RowKit Go.Sort
set_option maxRecDepth 100000
set_option linter.unusedVariables false
set_option linter.unusedSimpArgs false
def RtPost (B b : Nat) (w : World) (e : Ending) (w' : World) : Prop := ∃ P : Pr, e = .returned P.v ∧ P.ok ∧ Cod B w' b ∧ Ex b w w'
theorem CL.fillO {w : World} {g s : Nat} {vs : List Value} (h : CL w g vs) (hn : g ≠ s) (ws : List Value) (i : Nat) : CL (fillC w s i ws) g vs := by
  induction ws generalizing w i with
  | nil => exact h
  | cons v t ih => exact ih (h.other v hn) (i + 1)
set_option maxHeartbeats 2000000 in
theorem right_any {B : Nat} (b : Nat) (w : World) (h : Cod B w b) :
    Calls Tryz.prog 7 #[.pointer (some ⟨b, 0, none⟩)] w (RtPost B b w) := by
  have hbl := h.lt
  have hR := CL.new w [.int .u32 0, .int .u32 0, .int .i64 0, .int .i64 0, .int .i64 0, .int .i64 0] 29 _ rfl
  have hx := Ex.alloc (Ex.refl b w) (.cells #[.int .u32 0, .int .u32 0, .int .i64 0, .int .i64 0, .int .i64 0, .int .i64 0] 29)
  have hc := h.gr (Gr.alloc (Gr.refl w) (.cells #[.int .u32 0, .int .u32 0, .int .i64 0, .int .i64 0, .int .i64 0, .int .i64 0] 29))
  have hg1 := Nat.le_refl w.heap.size
  simp only [List.toArray] at hR
  clear h
  go_enter Tryz.func7, Tryz.ntmps7
  go_upto_region 1 with fail
  generalize w.alloc (.cells #[.int .u32 0, .int .u32 0, .int .i64 0, .int .i64 0, .int .i64 0, .int .i64 0] 29) = w1 at hR hx hc ⊢
  generalize hge : w.heap.size = g1 at hR ⊢
  rw [hge] at hg1 hbl
  replace hg1 : w.heap.size ≤ g1 := by omega
  have hrb : g1 ≠ b := by omega
  have hrl : b < g1 := hbl
  clear hge hbl
  go_wp2_with fail
  refine (probe_any b _ hc).mono ?_
  rintro e w2 ⟨s, d, pr, fl, tg, tt, rfl, hs, hd, hc', he⟩
  replace hx := hx.trans he
  replace hR := hR.ex he hrb
  replace hc := hc'
  have hgp : g1 < w2.heap.size := hR.lt
  have hCK := Lib.hid (fun w => rchk_any s d pr fl tg tt w)
  unfold prV at *
  clear he hc' 
  have hP := CL.new w2 [.int .u32 s, .int .u32 d, .int .i64 pr, .int .i64 fl, .int .i64 tg, .int .i64 tt] 29 _ rfl
  have hgn := Gr.alloc (Gr.refl w2) (.cells #[.int .u32 s, .int .u32 d, .int .i64 pr, .int .i64 fl, .int .i64 tg, .int .i64 tt] 29)
  simp only [List.toArray] at hP
  go_upto_region 2 with fail
  generalize w2.alloc (.cells #[.int .u32 s, .int .u32 d, .int .i64 pr, .int .i64 fl, .int .i64 tg, .int .i64 tt] 29) = w3 at hP hgn ⊢
  generalize w2.heap.size = gp at hP hgp ⊢
  replace hR := hR.gr hgn
  replace hx := hx.trans (Ex.ofGr hgn)
  replace hc := hc.gr hgn
  clear hgn
  have hpb : gp ≠ b := by omega
  obtain ⟨⟨y0, y1, y2, y3, y4, y5⟩, -⟩ := CL.six hP
  go_wp2_with fail
  refine (hCK.out _).mono ?_
  rintro e w4 ⟨rfl, hgn⟩
  clear y0 y1 y2 y3 y4 y5 hCK
  replace hP := hP.gr hgn
  replace hR := hR.gr hgn
  replace hx := hx.trans (Ex.ofGr hgn)
  replace hc := hc.gr hgn
  clear hgn
  by_cases h0 : prbE pr fl tg tt = 0
  · obtain ⟨Q, hQ, hv, -⟩ := pr_of hs hd h0
    have HV := Lib.hid (And.intro hQ hv)
    rw [h0]
    clear h0 hQ hv
    obtain ⟨⟨y0, y1, y2, y3, y4, y5⟩, -⟩ := CL.six hP
    obtain ⟨⟨r0, r1, r2, r3, r4, r5⟩, s0, s1, s2, s3, s4, s5⟩ := CL.six hR
    go_wp2_with fail
    clear r0 r1 r2 r3 r4 r5 s0 s1 s2 s3 s4 s5 y0 y1 y2 y3 y4 y5 hP
    have hcF := hR.fill [.int .u32 s, .int .u32 d, .int .i64 pr, .int .i64 fl, .int .i64 tg, .int .i64 tt] rfl
    have hxF := hx.fillN hg1 [.int .u32 s, .int .u32 d, .int .i64 pr, .int .i64 fl, .int .i64 tg, .int .i64 tt] 0
    have hkF := hc.fillN hrl [.int .u32 s, .int .u32 d, .int .i64 pr, .int .i64 fl, .int .i64 tg, .int .i64 tt] 0
    simp only [fillC, Nat.reduceAdd] at hcF hxF hkF
    generalize (((((w4.setCell ⟨g1, 0, none⟩ (.int .u32 s)).setCell ⟨g1, 1, none⟩ (.int .u32 d)).setCell ⟨g1, 2, none⟩ (.int .i64 pr)).setCell ⟨g1, 3, none⟩ (.int .i64 fl)).setCell ⟨g1, 4, none⟩ (.int .i64 tg)).setCell ⟨g1, 5, none⟩ (.int .i64 tt) = wF at hcF hxF hkF ⊢
    obtain ⟨⟨c0, c1, c2, c3, c4, c5⟩, -⟩ := CL.six hcF
    exact bodyPost_ret (v := .agg #[.int .u32 s, .int .u32 d, .int .i64 pr, .int .i64 fl, .int .i64 tg, .int .i64 tt]) (by simp [results, Tryz.results7, go_sem, c0, c1, c2, c3, c4, c5]) rfl ⟨Q, by rw [← HV.out.2]; rfl, HV.out.1, hkF, hxF⟩
  · have d1 : ((prbE pr fl tg tt : Int) != 0) = true := by rw [bne_iff_ne]; omega
    generalize prbE pr fl tg tt = E at *
    clear h0
    go_wp2_with fail
    replace hx := hx.drew
    replace hc := hc.gr (Gr.drew (Gr.refl w4))
    replace hR := hR.gr (Gr.drew (Gr.refl w4))
    replace hP := hP.gr (Gr.drew (Gr.refl w4))
    refine region_plain (fun W => Ex b w W ∧ CL W gp [.int .u32 s, .int .u32 d, .int .i64 pr, .int .i64 fl, .int .i64 tg, .int .i64 tt]) (by kernel_rfl) ?_
    clear d1
    have hS := And.intro hx hP
    clear hP
    generalize w4.drew = w5 at hS hx hc hR ⊢
    refine take_at 0 (some 9) (v := ?vr0) rfl rfl (by kernel_rfl) (by kernel_rfl) (by kernel_rfl) (by rfl) ?yr0 hS ?tr0
    case yr0 =>
      intro w' hSw
      obtain - := hSw
      go_simp
      (try with_reducible rfl)
    simp only [Act.put, List.setIfInBounds_toArray, List.set_cons_zero, List.set_cons_succ]
    refine take_at 1 (some 10) (v := ?vr1) rfl rfl (by kernel_rfl) (by kernel_rfl) (by kernel_rfl) (by rfl) ?yr1 hS ?tr1
    case yr1 =>
      intro w' hSw
      obtain ⟨⟨q0, q1, q2, q3, q4, q5⟩, -⟩ := CL.six hSw.2
      go_simp
      (try with_reducible rfl)
    simp only [Act.put, List.setIfInBounds_toArray, List.set_cons_zero, List.set_cons_succ]
    refine take_at 2 (some 11) (v := ?vr2) rfl rfl (by kernel_rfl) (by kernel_rfl) (by kernel_rfl) (by rfl) ?yr2 hS ?tr2
    case yr2 =>
      intro w' hSw
      obtain - := hSw
      go_simp
      (try with_reducible rfl)
    simp only [Act.put, List.setIfInBounds_toArray, List.set_cons_zero, List.set_cons_succ]
    refine take_at 3 (some 12) (v := ?vr3) rfl rfl (by kernel_rfl) (by kernel_rfl) (by kernel_rfl) (by rfl) ?yr3 hS ?tr3
    case yr3 =>
      intro w' hSw
      obtain ⟨⟨q0, q1, q2, q3, q4, q5⟩, -⟩ := CL.six hSw.2
      go_simp
      (try with_reducible rfl)
    simp only [Act.put, List.setIfInBounds_toArray, List.set_cons_zero, List.set_cons_succ]
    refine take_at 4 (some 13) (v := ?vr4) rfl rfl (by kernel_rfl) (by kernel_rfl) (by kernel_rfl) (by rfl) ?yr4 hS ?tr4
    case yr4 =>
      intro w' hSw
      obtain - := hSw
      go_simp
      (try with_reducible rfl)
    simp only [Act.put, List.setIfInBounds_toArray, List.set_cons_zero, List.set_cons_succ]
    refine take_at 6 (some 15) (v := ?vr6) rfl rfl (by kernel_rfl) (by kernel_rfl) (by kernel_rfl) (by rfl) ?yr6 hS ?tr6
    case yr6 =>
      intro w' hSw
      obtain - := hSw
      go_simp
      (try with_reducible rfl)
    simp only [Act.put, List.setIfInBounds_toArray, List.set_cons_zero, List.set_cons_succ]
    refine take_at 8 (some 17) (v := ?vr8) rfl rfl (by kernel_rfl) (by kernel_rfl) (by kernel_rfl) (by rfl) ?yr8 hS ?tr8
    case yr8 =>
      intro w' hSw
      obtain - := hSw
      go_simp
      (try with_reducible rfl)
    simp only [Act.put, List.setIfInBounds_toArray, List.set_cons_zero, List.set_cons_succ]
    refine take_at 10 (some 19) (v := ?vr10) rfl rfl (by kernel_rfl) (by kernel_rfl) (by kernel_rfl) (by rfl) ?yr10 hS ?tr10
    case yr10 =>
      intro w' hSw
      obtain - := hSw
      go_simp
      (try with_reducible rfl)
    simp only [Act.put, List.setIfInBounds_toArray, List.set_cons_zero, List.set_cons_succ]
    refine next_at 5 rfl (by kernel_rfl) (by rfl) (fun K hK => ?_)
    go_simp
    refine (proto_any b _ hc).mono ?_
    rintro e w5 ⟨n, rfl, hn, hc', he⟩
    replace hS := And.intro (hS.1.trans he) (hS.2.ex he hpb)
    replace hx := hx.trans he
    replace hR := hR.ex he hrb
    replace hc := hc'
    refine hK _ _ hS ?_
    clear hK K he hc'
    refine next_at 7 rfl (by kernel_rfl) (by rfl) (fun K hK => ?_)
    go_simp
    refine (next_nat b 4 _ (by omega) (by omega) hc).mono ?_
    rintro e w7 ⟨f, rfl, hf, hc', he⟩
    replace hS := And.intro (hS.1.trans he) (hS.2.ex he hpb)
    replace hx := hx.trans he
    replace hR := hR.ex he hrb
    replace hc := hc'
    refine hK _ _ hS ?_
    clear hK K he hc'
    refine next_at 9 rfl (by kernel_rfl) (by rfl) (fun K hK => ?_)
    go_simp
    refine (next_nat b 100 _ (by omega) (by omega) hc).mono ?_
    rintro e w9 ⟨t, rfl, ht, hc', he⟩
    replace hS := And.intro (hS.1.trans he) (hS.2.ex he hpb)
    replace hx := hx.trans he
    replace hR := hR.ex he hrb
    replace hc := hc'
    refine hK _ _ hS ?_
    clear hK K he hc'
    refine next_at 11 rfl (by kernel_rfl) (by rfl) (fun K hK => ?_)
    go_simp
    refine (next_nat b 5 _ (by omega) (by omega) hc).mono ?_
    rintro e w11 ⟨l, rfl, hl, hc', he⟩
    replace hS := And.intro (hS.1.trans he) (hS.2.ex he hpb)
    replace hx := hx.trans he
    replace hR := hR.ex he hrb
    replace hc := hc'
    refine hK _ _ hS ?_
    clear hK K he hc'
    obtain ⟨T, hT⟩ : ∃ T, T = 1 + l := ⟨_, rfl⟩
    have HQ := Lib.hid (⟨hs, hd, hn, by show f ≤ 1023; omega, by show t ≤ 65534; omega, by show 1 ≤ T; omega, by show T ≤ 255; omega⟩ : Pr.ok ⟨s, d, n, f, t, T⟩)
    have eT : (1 : Int) + (l : Int) = (T : Int) := by omega
    have eWT : IntKind.i64.wrap (T : Int) = (T : Int) := by rw [IntWalk.i64_in _ (by omega)]
    clear hT hn hf ht hl hs hd
    refine take_at 12 (some 21) (v := .int .i64 T) rfl rfl (by kernel_rfl) (by kernel_rfl) (by kernel_rfl) (by rfl) ?yB hS ?tB
    case yB =>
      intro w' hSw
      go_simp
      (try rw [eT])
      (try rw [eWT])
    simp only [Act.put, List.setIfInBounds_toArray, List.set_cons_zero, List.set_cons_succ]
    refine take_at 13 (some 22) (v := ?vr13) rfl rfl (by kernel_rfl) (by kernel_rfl) (by kernel_rfl) (by rfl) ?yr13 hS ?tr13
    case yr13 =>
      intro w' hSw
      obtain - := hSw
      go_simp
      (try with_reducible rfl)
    simp only [Act.put, List.setIfInBounds_toArray, List.set_cons_zero, List.set_cons_succ]
    have hcF := hR.fill [.int .u32 s, .int .u32 d, .int .i64 n, .int .i64 f, .int .i64 t, .int .i64 T] rfl
    have hxF := hx.fillN hg1 [.int .u32 s, .int .u32 d, .int .i64 n, .int .i64 f, .int .i64 t, .int .i64 T] 0
    have hkF := hc.fillN hrl [.int .u32 s, .int .u32 d, .int .i64 n, .int .i64 f, .int .i64 t, .int .i64 T] 0
    simp only [fillC, Nat.reduceAdd] at hcF hxF hkF
    have hSF := And.intro hxF (hS.2.fillO (s := g1) (by omega) [.int .u32 s, .int .u32 d, .int .i64 n, .int .i64 f, .int .i64 t, .int .i64 T] 0)
    simp only [fillC, Nat.reduceAdd] at hSF
    obtain ⟨⟨r0, r1, r2, r3, r4, r5⟩, s0, s1, s2, s3, s4, s5⟩ := CL.six hR
    refine next_at 14 rfl (by kernel_rfl) (by rfl) (fun K hK => ?_)
    go_simp
    refine hK _ _ hSF ?_
    clear hK K hSF hS r0 r1 r2 r3 r4 r5 s0 s1 s2 s3 s4 s5
    generalize (((((w11.setCell ⟨g1, 0, none⟩ (.int .u32 s)).setCell ⟨g1, 1, none⟩ (.int .u32 d)).setCell ⟨g1, 2, none⟩ (.int .i64 n)).setCell ⟨g1, 3, none⟩ (.int .i64 f)).setCell ⟨g1, 4, none⟩ (.int .i64 t)).setCell ⟨g1, 5, none⟩ (.int .i64 T) = wF at hcF hxF hkF ⊢
    refine wpAnyH_done (by kernel_rfl) ?_ _
    refine qz_normal ?_
    obtain ⟨⟨c0, c1, c2, c3, c4, c5⟩, -⟩ := CL.six hcF
    go_wp2_with fail
    exact bodyPost_ret (v := .agg #[.int .u32 s, .int .u32 d, .int .i64 n, .int .i64 f, .int .i64 t, .int .i64 T]) (by simp [results, Tryz.results7, go_sem, c0, c1, c2, c3, c4, c5]) rfl ⟨⟨s, d, n, f, t, T⟩, rfl, HQ.out, hkF, hxF⟩
end Go.Proofs.YtkpejaiigopmgaaGreatDoor
