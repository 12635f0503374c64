/- Probes from choices. -/
import Derived.Test.YtlkhdbgknkjioaaUc
import Derived.Test.YtlkhdbgknkjioaaIa
import Derived.Test.YtlkhdbgknkjioaaWc
import Derived.WalkKit
import Derived.WalkSpells
import Derived.WalkLawsBesides
import Derived.WalkSmall
import Derived.Handy
import Derived.BigQuiet
import Derived.Deep.QuietTactic
import Derived.Deep.RegionHeld3
import Derived.Deep.DeepFit
import Derived.Below
import Derived.Lib.Hide
import Derived.Lib.QuietBelow
namespace Go.Proofs.Ytlkhdbgknkjioaa
open Go Go.RowKit Go.Sort
set_option maxRecDepth 100000
set_option linter.unusedVariables false
set_option linter.unusedSimpArgs false
theorem Cod.fillN {B b g : Nat} {w : World} (h : Cod B w b) (hg : b < g) (ws : List Value) (i : Nat) : Cod B (fillC w g i ws) b := by
  induction ws generalizing w i with
  | nil => exact h
  | cons v t ih => exact ih (h.set g i (by omega) (by have := h.base; omega) v) (i + 1)
theorem Ex.fillN {b g : Nat} {u v : World} (h : Ex b u v) (hg : u.heap.size ≤ g) (ws : List Value) (i : Nat) : Ex b u (fillC v g i ws) := by
  induction ws generalizing v i with
  | nil => exact h
  | cons x t ih => exact ih (h.setNew (p := ⟨g, i, none⟩) hg x) (i + 1)
def PtPost1 (B b : Nat) (w : World) (e : Ending) (w' : World) : Prop := ∃ x : Nat, e = .returned (.int .i64 x) ∧ (x = 1 ∨ x = 17 ∨ x = 6) ∧ Cod B w' b ∧ Ex b w w'
theorem proto_any {B : Nat} (b : Nat) (w : World) (h : Cod B w b) :
    Calls Try.prog 66 #[.pointer (some ⟨b, 0, none⟩)] w (PtPost1 B b w) := by
  have hbl := h.lt
  have hC := CL.new w [.int .i64 17, .int .i64 1, .int .i64 6] 3 _ rfl
  have hx := Ex.alloc (Ex.refl b w) (.cells #[.int .i64 17, .int .i64 1, .int .i64 6] 3)
  have hc := h.gr (Gr.alloc (Gr.refl w) (.cells #[.int .i64 17, .int .i64 1, .int .i64 6] 3))
  simp only [List.toArray] at hC
  go_enter Try.func66, Try.ntmps66
  go_wp2_with fail
  refine (next_nat b 3 _ (by omega) (by omega) hc).mono ?_
  rintro e w1 ⟨x, rfl, hx3, hc1, he1⟩
  replace hC := hC.ex he1 (by omega)
  replace hx := hx.trans he1
  obtain ⟨⟨c0, c1, c2⟩, -⟩ := hC.three
  have hx' : x = 0 ∨ x = 1 ∨ x = 2 := by omega
  clear he1 hC h hc hbl hx3
  rcases hx' with rfl | rfl | rfl
  · go_wp2_with fail
    go_ret
    exact ⟨17, rfl, by omega, hc1, hx⟩
  · go_wp2_with fail
    go_ret
    exact ⟨1, rfl, by omega, hc1, hx⟩
  · go_wp2_with fail
    go_ret
    exact ⟨6, rfl, by omega, hc1, hx⟩
def PxPost (B b : Nat) (w : World) (e : Ending) (w' : World) : Prop := ∃ (s d : Nat) (pr fl tg tt : Int), e = .returned (prV s d pr fl tg tt) ∧ s < 4294967296 ∧ d < 4294967296 ∧ Cod B w' b ∧ Ex b w w'
set_option maxHeartbeats 4000000 in
theorem probe_any {B : Nat} (b : Nat) (w : World) (h : Cod B w b) :
    Calls Try.prog 30 #[.pointer (some ⟨b, 0, none⟩)] w (PxPost B b w) := by
  have hbl := h.lt
  have hR := CL.new w [.int .u32 0, .int .u32 0, .int .i64 0, .int .i64 0, .int .i64 0, .int .i64 0] 65 _ rfl
  have hx := Ex.alloc (Ex.refl b w) (.cells #[.int .u32 0, .int .u32 0, .int .i64 0, .int .i64 0, .int .i64 0, .int .i64 0] 65)
  have hc := h.gr (Gr.alloc (Gr.refl w) (.cells #[.int .u32 0, .int .u32 0, .int .i64 0, .int .i64 0, .int .i64 0, .int .i64 0] 65))
  have hg1 := Nat.le_refl w.heap.size
  simp only [List.toArray] at hR
  clear h
  go_enter Try.func30, Try.ntmps30
  go_upto_region 1 with fail
  generalize w.alloc (.cells #[.int .u32 0, .int .u32 0, .int .i64 0, .int .i64 0, .int .i64 0, .int .i64 0] 65) = w1 at hR hx hc ⊢
  generalize hge : w.heap.size = g1 at hR ⊢
  rw [hge] at hg1 hbl
  replace hg1 : w.heap.size ≤ g1 := by omega
  have hrb : g1 ≠ b := by omega
  have hrl : b < g1 := hbl
  clear hge hbl
  go_wp2_with fail
  refine (address_any b _ hc).mono ?_
  rintro e w2 ⟨s, rfl, hs, hc', he⟩
  replace hx := hx.trans he
  replace hR := hR.ex he hrb
  replace hc := hc'
  clear he hc'
  go_wp2_with fail
  refine (address_any b _ hc).mono ?_
  rintro e w3 ⟨d, rfl, hd, hc', he⟩
  replace hx := hx.trans he
  replace hR := hR.ex he hrb
  replace hc := hc'
  clear he hc'
  go_wp2_with fail
  refine (proto_any b _ hc).mono ?_
  rintro e w4 ⟨pr, rfl, hpr, hc', he⟩
  replace hx := hx.trans he
  replace hR := hR.ex he hrb
  replace hc := hc'
  clear he hc'
  go_wp2_with fail
  refine (next_nat b 6 _ (by omega) (by omega) hc).mono ?_
  rintro e w5 ⟨fl, rfl, hfl, hc', he⟩
  replace hx := hx.trans he
  replace hR := hR.ex he hrb
  replace hc := hc'
  clear he hc'
  go_wp2_with fail
  refine (next_nat b 2000 _ (by omega) (by omega) hc).mono ?_
  rintro e w6 ⟨tg, rfl, htg, hc', he⟩
  replace hx := hx.trans he
  replace hR := hR.ex he hrb
  replace hc := hc'
  clear he hc'
  go_wp2_with fail
  refine (next_nat b 6 _ (by omega) (by omega) hc).mono ?_
  rintro e w7 ⟨t0, rfl, ht0, hc', he⟩
  obtain ⟨tt, htt⟩ : ∃ tt, tt = 1 + t0 := ⟨_, rfl⟩
  have eT : (1 : Int) + (t0 : Int) = (tt : Int) := by omega
  have eWT : IntKind.i64.wrap (tt : Int) = (tt : Int) := by rw [IntWalk.i64_in _ (by omega)]
  replace hx := hx.trans he
  replace hR := hR.ex he hrb
  replace hc := hc'
  clear he hc' htt ht0 htg hfl hpr
  have hP := CL.new w7 [.int .u32 s, .int .u32 d, .int .i64 pr, .int .i64 fl, .int .i64 tg, .int .i64 tt] 65 _ rfl
  have hgn := Gr.alloc (Gr.refl w7) (.cells #[.int .u32 s, .int .u32 d, .int .i64 pr, .int .i64 fl, .int .i64 tg, .int .i64 tt] 65)
  have hgp : g1 < w7.heap.size := hR.lt
  simp only [List.toArray] at hP
  go_upto_region 2 with fail
  generalize w7.alloc (.cells #[.int .u32 s, .int .u32 d, .int .i64 pr, .int .i64 fl, .int .i64 tg, .int .i64 tt] 65) = w8 at hP hgn ⊢
  generalize w7.heap.size = gp at hP hgp ⊢
  replace hR := hR.gr hgn
  replace hx := hx.trans (Ex.ofGr hgn)
  replace hc := hc.gr hgn
  clear hgn eT eWT
  have hpb : gp ≠ b := by omega
  go_wp2_with fail
  refine (next_nat b 12 _ (by omega) (by omega) hc).mono ?_
  rintro e w9 ⟨x, rfl, hx12, hc', he⟩
  replace hx := hx.trans he
  replace hR := hR.ex he hrb
  replace hP := hP.ex he hpb
  replace hc := hc'
  clear he hc' hx12
  by_cases x8 : x = 8
  · subst x8
    obtain ⟨⟨y0, y1, y2, y3, y4, y5⟩, u0, u1, u2, u3, u4, u5⟩ := CL.six hP
    go_upto_region 11 with fail
    clear y0 y1 y2 y3 y4 y5 u0 u1 u2 u3 u4 u5
    replace hP := hP.set 3 (.int .i64 1023) (by simp)
    replace hR := hR.other (s := gp) (o := 3) (.int .i64 1023) (by omega)
    replace hc := hc.set gp 3 (by omega) (by have := hc.base; omega) (.int .i64 1023)
    replace hx := hx.setNew (p := ⟨gp, 3, none⟩) (by show w.heap.size ≤ gp; omega) (.int .i64 1023)
    replace hP := hP.set 4 (.int .i64 65534) (by simp)
    replace hR := hR.other (s := gp) (o := 4) (.int .i64 65534) (by omega)
    replace hc := hc.set gp 4 (by omega) (by have := hc.base; omega) (.int .i64 65534)
    replace hx := hx.setNew (p := ⟨gp, 4, none⟩) (by show w.heap.size ≤ gp; omega) (.int .i64 65534)
    simp only [List.set_cons_succ, List.set_cons_zero] at hP
    generalize (w9.setCell ⟨gp, 3, none⟩ (.int .i64 1023)).setCell ⟨gp, 4, none⟩ (.int .i64 65534) = wA at hP hR hc hx ⊢
    obtain ⟨⟨y0, y1, y2, y3, y4, y5⟩, -⟩ := CL.six hP
    obtain ⟨⟨r0, r1, r2, r3, r4, r5⟩, s0, s1, s2, s3, s4, s5⟩ := CL.six hR
    go_wp2_with fail
    clear r0 r1 r2 r3 r4 r5 s0 s1 s2 s3 s4 s5 y0 y1 y2 y3 y4 y5 hP
    have hcF := hR.fill [.int .u32 s, .int .u32 d, .int .i64 pr, .int .i64 1023, .int .i64 65534, .int .i64 tt] rfl
    have hxF := hx.fillN hg1 [.int .u32 s, .int .u32 d, .int .i64 pr, .int .i64 1023, .int .i64 65534, .int .i64 tt] 0
    have hkF := hc.fillN hrl [.int .u32 s, .int .u32 d, .int .i64 pr, .int .i64 1023, .int .i64 65534, .int .i64 tt] 0
    simp only [fillC, Nat.reduceAdd] at hcF hxF hkF
    generalize (((((wA.setCell ⟨g1, 0, none⟩ (.int .u32 s)).setCell ⟨g1, 1, none⟩ (.int .u32 d)).setCell ⟨g1, 2, none⟩ (.int .i64 pr)).setCell ⟨g1, 3, none⟩ (.int .i64 1023)).setCell ⟨g1, 4, none⟩ (.int .i64 65534)).setCell ⟨g1, 5, none⟩ (.int .i64 tt) = wF at hcF hxF hkF ⊢
    obtain ⟨⟨c0, c1, c2, c3, c4, c5⟩, -⟩ := CL.six hcF
    exact bodyPost_ret (v := .agg #[.int .u32 s, .int .u32 d, .int .i64 pr, .int .i64 1023, .int .i64 65534, .int .i64 tt]) (by simp [results, Try.results30, go_sem, c0, c1, c2, c3, c4, c5]) rfl ⟨s, d, pr, 1023, 65534, tt, rfl, hs, hd, hkF, hxF⟩
  · skip
    by_cases x9 : x = 9
    · subst x9
      go_wp2_with fail
      refine (int_c b _ hc).mono ?_
      rintro e wa ⟨i, rfl, hi0, hi1, hc', he⟩
      replace hx := hx.trans he
      replace hR := hR.ex he hrb
      replace hP := hP.ex he hpb
      replace hc := hc'
      clear he hc' hi0 hi1
      go_wp2_with fail
      refine (int_c b _ hc).mono ?_
      rintro e wb ⟨j, rfl, hj0, hj1, hc', he⟩
      replace hx := hx.trans he
      replace hR := hR.ex he hrb
      replace hP := hP.ex he hpb
      replace hc := hc'
      clear he hc' hj0 hj1
      obtain ⟨⟨y0, y1, y2, y3, y4, y5⟩, u0, u1, u2, u3, u4, u5⟩ := CL.six hP
      go_upto_region 11 with fail
      clear y0 y1 y2 y3 y4 y5 u0 u1 u2 u3 u4 u5
      replace hP := hP.set 3 (.int .i64 i) (by simp)
      replace hR := hR.other (s := gp) (o := 3) (.int .i64 i) (by omega)
      replace hc := hc.set gp 3 (by omega) (by have := hc.base; omega) (.int .i64 i)
      replace hx := hx.setNew (p := ⟨gp, 3, none⟩) (by show w.heap.size ≤ gp; omega) (.int .i64 i)
      replace hP := hP.set 5 (.int .i64 j) (by simp)
      replace hR := hR.other (s := gp) (o := 5) (.int .i64 j) (by omega)
      replace hc := hc.set gp 5 (by omega) (by have := hc.base; omega) (.int .i64 j)
      replace hx := hx.setNew (p := ⟨gp, 5, none⟩) (by show w.heap.size ≤ gp; omega) (.int .i64 j)
      simp only [List.set_cons_succ, List.set_cons_zero] at hP
      generalize (wb.setCell ⟨gp, 3, none⟩ (.int .i64 i)).setCell ⟨gp, 5, none⟩ (.int .i64 j) = wA at hP hR hc hx ⊢
      obtain ⟨⟨y0, y1, y2, y3, y4, y5⟩, -⟩ := CL.six hP
      obtain ⟨⟨r0, r1, r2, r3, r4, r5⟩, s0, s1, s2, s3, s4, s5⟩ := CL.six hR
      go_wp2_with fail
      clear r0 r1 r2 r3 r4 r5 s0 s1 s2 s3 s4 s5 y0 y1 y2 y3 y4 y5 hP
      have hcF := hR.fill [.int .u32 s, .int .u32 d, .int .i64 pr, .int .i64 i, .int .i64 tg, .int .i64 j] rfl
      have hxF := hx.fillN hg1 [.int .u32 s, .int .u32 d, .int .i64 pr, .int .i64 i, .int .i64 tg, .int .i64 j] 0
      have hkF := hc.fillN hrl [.int .u32 s, .int .u32 d, .int .i64 pr, .int .i64 i, .int .i64 tg, .int .i64 j] 0
      simp only [fillC, Nat.reduceAdd] at hcF hxF hkF
      generalize (((((wA.setCell ⟨g1, 0, none⟩ (.int .u32 s)).setCell ⟨g1, 1, none⟩ (.int .u32 d)).setCell ⟨g1, 2, none⟩ (.int .i64 pr)).setCell ⟨g1, 3, none⟩ (.int .i64 i)).setCell ⟨g1, 4, none⟩ (.int .i64 tg)).setCell ⟨g1, 5, none⟩ (.int .i64 j) = wF at hcF hxF hkF ⊢
      obtain ⟨⟨c0, c1, c2, c3, c4, c5⟩, -⟩ := CL.six hcF
      exact bodyPost_ret (v := .agg #[.int .u32 s, .int .u32 d, .int .i64 pr, .int .i64 i, .int .i64 tg, .int .i64 j]) (by simp [results, Try.results30, go_sem, c0, c1, c2, c3, c4, c5]) rfl ⟨s, d, pr, i, tg, j, rfl, hs, hd, hkF, hxF⟩
    · skip
      by_cases x10 : x = 10
      · subst x10
        go_wp2_with fail
        refine (int_c b _ hc).mono ?_
        rintro e wa ⟨i, rfl, hi0, hi1, hc', he⟩
        replace hx := hx.trans he
        replace hR := hR.ex he hrb
        replace hP := hP.ex he hpb
        replace hc := hc'
        clear he hc' hi0 hi1
        obtain ⟨⟨y0, y1, y2, y3, y4, y5⟩, u0, u1, u2, u3, u4, u5⟩ := CL.six hP
        go_upto_region 11 with fail
        clear y0 y1 y2 y3 y4 y5 u0 u1 u2 u3 u4 u5
        replace hP := hP.set 4 (.int .i64 i) (by simp)
        replace hR := hR.other (s := gp) (o := 4) (.int .i64 i) (by omega)
        replace hc := hc.set gp 4 (by omega) (by have := hc.base; omega) (.int .i64 i)
        replace hx := hx.setNew (p := ⟨gp, 4, none⟩) (by show w.heap.size ≤ gp; omega) (.int .i64 i)
        simp only [List.set_cons_succ, List.set_cons_zero] at hP
        generalize wa.setCell ⟨gp, 4, none⟩ (.int .i64 i) = wA at hP hR hc hx ⊢
        obtain ⟨⟨y0, y1, y2, y3, y4, y5⟩, -⟩ := CL.six hP
        obtain ⟨⟨r0, r1, r2, r3, r4, r5⟩, s0, s1, s2, s3, s4, s5⟩ := CL.six hR
        go_wp2_with fail
        clear r0 r1 r2 r3 r4 r5 s0 s1 s2 s3 s4 s5 y0 y1 y2 y3 y4 y5 hP
        have hcF := hR.fill [.int .u32 s, .int .u32 d, .int .i64 pr, .int .i64 fl, .int .i64 i, .int .i64 tt] rfl
        have hxF := hx.fillN hg1 [.int .u32 s, .int .u32 d, .int .i64 pr, .int .i64 fl, .int .i64 i, .int .i64 tt] 0
        have hkF := hc.fillN hrl [.int .u32 s, .int .u32 d, .int .i64 pr, .int .i64 fl, .int .i64 i, .int .i64 tt] 0
        simp only [fillC, Nat.reduceAdd] at hcF hxF hkF
        generalize (((((wA.setCell ⟨g1, 0, none⟩ (.int .u32 s)).setCell ⟨g1, 1, none⟩ (.int .u32 d)).setCell ⟨g1, 2, none⟩ (.int .i64 pr)).setCell ⟨g1, 3, none⟩ (.int .i64 fl)).setCell ⟨g1, 4, none⟩ (.int .i64 i)).setCell ⟨g1, 5, none⟩ (.int .i64 tt) = wF at hcF hxF hkF ⊢
        obtain ⟨⟨c0, c1, c2, c3, c4, c5⟩, -⟩ := CL.six hcF
        exact bodyPost_ret (v := .agg #[.int .u32 s, .int .u32 d, .int .i64 pr, .int .i64 fl, .int .i64 i, .int .i64 tt]) (by simp [results, Try.results30, go_sem, c0, c1, c2, c3, c4, c5]) rfl ⟨s, d, pr, fl, i, tt, rfl, hs, hd, hkF, hxF⟩
      · skip
        by_cases x11 : x = 11
        · subst x11
          go_wp2_with fail
          refine (int_c b _ hc).mono ?_
          rintro e wa ⟨i, rfl, hi0, hi1, hc', he⟩
          replace hx := hx.trans he
          replace hR := hR.ex he hrb
          replace hP := hP.ex he hpb
          replace hc := hc'
          clear he hc' hi0 hi1
          obtain ⟨⟨y0, y1, y2, y3, y4, y5⟩, u0, u1, u2, u3, u4, u5⟩ := CL.six hP
          go_upto_region 11 with fail
          clear y0 y1 y2 y3 y4 y5 u0 u1 u2 u3 u4 u5
          replace hP := hP.set 2 (.int .i64 i) (by simp)
          replace hR := hR.other (s := gp) (o := 2) (.int .i64 i) (by omega)
          replace hc := hc.set gp 2 (by omega) (by have := hc.base; omega) (.int .i64 i)
          replace hx := hx.setNew (p := ⟨gp, 2, none⟩) (by show w.heap.size ≤ gp; omega) (.int .i64 i)
          simp only [List.set_cons_succ, List.set_cons_zero] at hP
          generalize wa.setCell ⟨gp, 2, none⟩ (.int .i64 i) = wA at hP hR hc hx ⊢
          obtain ⟨⟨y0, y1, y2, y3, y4, y5⟩, -⟩ := CL.six hP
          obtain ⟨⟨r0, r1, r2, r3, r4, r5⟩, s0, s1, s2, s3, s4, s5⟩ := CL.six hR
          go_wp2_with fail
          clear r0 r1 r2 r3 r4 r5 s0 s1 s2 s3 s4 s5 y0 y1 y2 y3 y4 y5 hP
          have hcF := hR.fill [.int .u32 s, .int .u32 d, .int .i64 i, .int .i64 fl, .int .i64 tg, .int .i64 tt] rfl
          have hxF := hx.fillN hg1 [.int .u32 s, .int .u32 d, .int .i64 i, .int .i64 fl, .int .i64 tg, .int .i64 tt] 0
          have hkF := hc.fillN hrl [.int .u32 s, .int .u32 d, .int .i64 i, .int .i64 fl, .int .i64 tg, .int .i64 tt] 0
          simp only [fillC, Nat.reduceAdd] at hcF hxF hkF
          generalize (((((wA.setCell ⟨g1, 0, none⟩ (.int .u32 s)).setCell ⟨g1, 1, none⟩ (.int .u32 d)).setCell ⟨g1, 2, none⟩ (.int .i64 i)).setCell ⟨g1, 3, none⟩ (.int .i64 fl)).setCell ⟨g1, 4, none⟩ (.int .i64 tg)).setCell ⟨g1, 5, none⟩ (.int .i64 tt) = wF at hcF hxF hkF ⊢
          obtain ⟨⟨c0, c1, c2, c3, c4, c5⟩, -⟩ := CL.six hcF
          exact bodyPost_ret (v := .agg #[.int .u32 s, .int .u32 d, .int .i64 i, .int .i64 fl, .int .i64 tg, .int .i64 tt]) (by simp [results, Try.results30, go_sem, c0, c1, c2, c3, c4, c5]) rfl ⟨s, d, i, fl, tg, tt, rfl, hs, hd, hkF, hxF⟩
        · skip
          have b8 : ((x : Int) == 8) = false := by simpa using (by omega : ¬ (x : Int) = 8)
          have b9 : ((x : Int) == 9) = false := by simpa using (by omega : ¬ (x : Int) = 9)
          have b10 : ((x : Int) == 10) = false := by simpa using (by omega : ¬ (x : Int) = 10)
          have b11 : ((x : Int) == 11) = false := by simpa using (by omega : ¬ (x : Int) = 11)
          clear x8 x9 x10 x11
          go_upto_region 11 with fail
          obtain ⟨⟨y0, y1, y2, y3, y4, y5⟩, -⟩ := CL.six hP
          obtain ⟨⟨r0, r1, r2, r3, r4, r5⟩, s0, s1, s2, s3, s4, s5⟩ := CL.six hR
          go_wp2_with fail
          clear r0 r1 r2 r3 r4 r5 s0 s1 s2 s3 s4 s5 y0 y1 y2 y3 y4 y5 hP
          have hcF := hR.fill [.int .u32 s, .int .u32 d, .int .i64 pr, .int .i64 fl, .int .i64 tg, .int .i64 tt] rfl
          have hxF := hx.fillN hg1 [.int .u32 s, .int .u32 d, .int .i64 pr, .int .i64 fl, .int .i64 tg, .int .i64 tt] 0
          have hkF := hc.fillN hrl [.int .u32 s, .int .u32 d, .int .i64 pr, .int .i64 fl, .int .i64 tg, .int .i64 tt] 0
          simp only [fillC, Nat.reduceAdd] at hcF hxF hkF
          generalize (((((w9.setCell ⟨g1, 0, none⟩ (.int .u32 s)).setCell ⟨g1, 1, none⟩ (.int .u32 d)).setCell ⟨g1, 2, none⟩ (.int .i64 pr)).setCell ⟨g1, 3, none⟩ (.int .i64 fl)).setCell ⟨g1, 4, none⟩ (.int .i64 tg)).setCell ⟨g1, 5, none⟩ (.int .i64 tt) = wF at hcF hxF hkF ⊢
          obtain ⟨⟨c0, c1, c2, c3, c4, c5⟩, -⟩ := CL.six hcF
          exact bodyPost_ret (v := .agg #[.int .u32 s, .int .u32 d, .int .i64 pr, .int .i64 fl, .int .i64 tg, .int .i64 tt]) (by simp [results, Try.results30, go_sem, c0, c1, c2, c3, c4, c5]) rfl ⟨s, d, pr, fl, tg, tt, rfl, hs, hd, hkF, hxF⟩
end Go.Proofs.Ytlkhdbgknkjioaa
