/- Several texts in one. -/
import Derived.Test.YtlkhdbgknkjioaaVBE
import Derived.Test.YtlkhdbgknkjioaaSPA
import Derived.WalkKit
import Derived.WalkSpells
import Derived.WalkLawsBesides
import Derived.WalkSmall
import Derived.Handy
import Derived.BigQuiet
import Derived.Deep.QuietTactic
import Derived.Deep.RegionHeld3
import Derived.Deep.DeepFit
import Derived.Below
import Derived.Lib.Hide
import Derived.Lib.QuietBelow
/- Both sides' answers to a probe, and to bytes. -/
namespace Go.Proofs.Ytlkhdbgknkjioaa
open Go Go.RowKit Go.Sort
set_option maxRecDepth 100000
set_option linter.unusedVariables false
def BdRes (w : World) (E : Nat) (L : List Nat) (e : Ending) (w' : World) : Prop := ∃ v', e = .returned (.tuple #[v', .int .i64 E]) ∧ OwB w.heap.size w' v' L ∧ Gr w w'
def CkRes (w : World) (E : Nat) (e : Ending) (w' : World) : Prop := e = .returned (.int .i64 E) ∧ Gr w w'
def KyRes (w : World) (k1 k2 k3 k4 k5 E : Nat) (e : Ending) (w' : World) : Prop := e = .returned (.tuple #[.agg #[.int .u32 k1, .int .u32 k2, .int .i64 k3, .int .i64 k4, .int .i64 k5], .int .i64 E]) ∧ Gr w w'
def RdRes (w : World) (a1 a2 a3 a4 a5 a6 : Int) (E : Nat) (e : Ending) (w' : World) : Prop := e = .returned (.tuple #[.agg #[.int .u32 a1, .int .u32 a2, .int .i64 a3, .int .i64 a4, .int .i64 a5, .int .i64 a6], .int .i64 E]) ∧ Gr w w'
structure BuildBoth (s d : Int) (pr fl tg tt : Int) (E : Nat) (L : List Nat) (k1 k2 k3 k4 k5 : Nat) : Prop where
  len : L.length ≤ 40
  pc : ∀ w, Calls Try.prog 35 #[.agg #[.int .u32 s, .int .u32 d, .int .i64 pr, .int .i64 fl, .int .i64 tg, .int .i64 tt]] w (CkRes w E)
  rc : ∀ w, Calls Try.prog 36 #[.agg #[.int .u32 s, .int .u32 d, .int .i64 pr, .int .i64 fl, .int .i64 tg, .int .i64 tt]] w (CkRes w E)
  pb : ∀ w, Calls Try.prog 31 #[.agg #[.int .u32 s, .int .u32 d, .int .i64 pr, .int .i64 fl, .int .i64 tg, .int .i64 tt]] w (BdRes w E L)
  rb : ∀ w, Calls Try.prog 32 #[.agg #[.int .u32 s, .int .u32 d, .int .i64 pr, .int .i64 fl, .int .i64 tg, .int .i64 tt]] w (BdRes w E L)
  pk : ∀ w, Calls Try.prog 33 #[.agg #[.int .u32 s, .int .u32 d, .int .i64 pr, .int .i64 fl, .int .i64 tg, .int .i64 tt]] w (KyRes w k1 k2 k3 k4 k5 E)
  rk : ∀ w, Calls Try.prog 34 #[.agg #[.int .u32 s, .int .u32 d, .int .i64 pr, .int .i64 fl, .int .i64 tg, .int .i64 tt]] w (KyRes w k1 k2 k3 k4 k5 E)
theorem build_both (s d : Nat) (pr fl tg tt : Int) (hs : s < 4294967296) (hd : d < 4294967296) : ∃ (E : Nat) (L : List Nat) (k1 k2 k3 k4 k5 : Nat), BuildBoth s d pr fl tg tt E L k1 k2 k3 k4 k5 := by
  by_cases h : prbE pr fl tg tt = 0
  · obtain ⟨P, k, hv, -⟩ := pr_of hs hd h
    refine ⟨0, P.pk, P.src, P.dst, P.proto, P.a, P.b, by have := (Pr.pk_len k).2; omega, ?_, ?_, ?_, ?_, ?_, ?_⟩
    · intro w; have := pchk_any s d pr fl tg tt w; rw [h] at this; exact this
    · intro w; have := rchk_any s d pr fl tg tt w; rw [h] at this; exact this
    · intro w; have := pbuild_ok P k w; rw [← hv] at this; exact this
    · intro w; have := rbuild_ok P k w; rw [← hv] at this; exact this
    · intro w; have := pKeyOf_ok P k w; rw [← hv] at this; exact this
    · intro w; have := rKeyOf_ok P k w; rw [← hv] at this; exact this
  · refine ⟨prbE pr fl tg tt, [], 0, 0, 0, 0, 0, by simp, ?_, ?_, ?_, ?_, ?_, ?_⟩
    · intro w; exact pchk_any s d pr fl tg tt w
    · intro w; exact rchk_any s d pr fl tg tt w
    · intro w
      refine (pbuild_bad s d pr fl tg tt w h).mono ?_
      rintro e w' ⟨rfl, hg⟩
      exact ⟨_, rfl, OwB.nil _ _, hg⟩
    · intro w
      refine (rbuild_bad s d pr fl tg tt w h).mono ?_
      rintro e w' ⟨rfl, hg⟩
      exact ⟨_, rfl, OwB.nil _ _, hg⟩
    · intro w; exact pKeyOf_bad s d pr fl tg tt w h
    · intro w; exact rKeyOf_bad s d pr fl tg tt w h
structure ReadBoth (l : List Nat) (a1 a2 a3 a4 a5 a6 : Int) (E k1 k2 k3 k4 k5 E2 : Nat) : Prop where
  pr : ∀ w v, Rb (fun _ => True) w v l → Calls Try.prog 38 #[v] w (RdRes w a1 a2 a3 a4 a5 a6 E)
  rr : ∀ w v, Rb (fun _ => True) w v l → Calls Try.prog 39 #[v] w (RdRes w a1 a2 a3 a4 a5 a6 E)
  pk : ∀ w v, Rb (fun _ => True) w v l → Calls Try.prog 40 #[v] w (KyRes w k1 k2 k3 k4 k5 E2)
  rk : ∀ w v, Rb (fun _ => True) w v l → Calls Try.prog 41 #[v] w (KyRes w k1 k2 k3 k4 k5 E2)
theorem read_both (l : List Nat) (hl : l.length ≤ 90000) : ∃ (a1 a2 a3 a4 a5 a6 : Int) (E k1 k2 k3 k4 k5 E2 : Nat), ReadBoth l a1 a2 a3 a4 a5 a6 E k1 k2 k3 k4 k5 E2 := by
  have hk : ∃ (k1 k2 k3 k4 k5 E2 : Nat), (∀ w v, Rb (fun _ => True) w v l → Calls Try.prog 40 #[v] w (KyRes w k1 k2 k3 k4 k5 E2)) ∧ (∀ w v, Rb (fun _ => True) w v l → Calls Try.prog 41 #[v] w (KyRes w k1 k2 k3 k4 k5 E2)) := by
    by_cases h : dcE l = 0
    · exact ⟨_, _, _, _, _, 0, fun w v hr => pKey_ok w hr hl h, fun w v hr => rKey_ok w hr hl h⟩
    · exact ⟨0, 0, 0, 0, 0, dcE l, fun w v hr => pKey_err w hr hl h, fun w v hr => rKey_err w hr hl h⟩
  obtain ⟨k1, k2, k3, k4, k5, E2, hk1, hk2⟩ := hk
  by_cases h : ∃ P : Pr, P.ok ∧ P.pk = l
  · obtain ⟨P, k, rfl⟩ := h
    exact ⟨P.src, P.dst, P.proto, P.flow, P.tag, P.ttl, 0, k1, k2, k3, k4, k5, E2, fun w v hr => pRead_ok P k w hr, fun w v hr => rRead_ok P k w hr, hk1, hk2⟩
  · exact ⟨0, 0, 0, 0, 0, 0, 17, k1, k2, k3, k4, k5, E2, fun w v hr => pRead_bad w hr hl h, fun w v hr => rRead_bad w hr hl h, hk1, hk2⟩
end Go.Proofs.Ytlkhdbgknkjioaa
/- The walk of the statement on any probes and any bytes. -/
namespace Go.Proofs.Ytlkhdbgknkjioaa
open Go Go.RowKit Go.Sort
set_option maxRecDepth 100000
set_option linter.unusedVariables false
set_option linter.unusedSimpArgs false
set_option linter.unusedVariables false
theorem row_at {s d s1 d1 s2 d2 gs : Nat} {pr fl tg tt pr1 fl1 tg1 tt1 pr2 fl2 tg2 tt2 : Int} (hs : s < 4294967296) (hd : d < 4294967296) (hs1 : s1 < 4294967296) (hd1 : d1 < 4294967296) (hs2 : s2 < 4294967296) (hd2 : d2 < 4294967296) :
    ∀ (t : Nat) (W : World), t < 3 → CL W gs [.int .u32 s, .int .u32 d, .int .i64 pr, .int .i64 fl, .int .i64 tg, .int .i64 tt, .int .u32 s1, .int .u32 d1, .int .i64 pr1, .int .i64 fl1, .int .i64 tg1, .int .i64 tt1, .int .u32 s2, .int .u32 d2, .int .i64 pr2, .int .i64 fl2, .int .i64 tg2, .int .i64 tt2] → ∃ (S D : Nat) (PR FL TG TT : Int), S < 4294967296 ∧ D < 4294967296 ∧ W.cell? ⟨gs, t * 6, none⟩ = some (.int .u32 S) ∧ W.cell? ⟨gs, t * 6 + 1, none⟩ = some (.int .u32 D) ∧ W.cell? ⟨gs, t * 6 + 2, none⟩ = some (.int .i64 PR) ∧ W.cell? ⟨gs, t * 6 + 3, none⟩ = some (.int .i64 FL) ∧ W.cell? ⟨gs, t * 6 + 4, none⟩ = some (.int .i64 TG) ∧ W.cell? ⟨gs, t * 6 + 5, none⟩ = some (.int .i64 TT) := by
  intro t W ht h
  have : t = 0 ∨ t = 1 ∨ t = 2 := by omega
  rcases this with rfl | rfl | rfl
  · exact ⟨s, d, pr, fl, tg, tt, hs, hd, (h.at' 0 _ rfl).1, (h.at' 1 _ rfl).1, (h.at' 2 _ rfl).1, (h.at' 3 _ rfl).1, (h.at' 4 _ rfl).1, (h.at' 5 _ rfl).1⟩
  · exact ⟨s1, d1, pr1, fl1, tg1, tt1, hs1, hd1, (h.at' 6 _ rfl).1, (h.at' 7 _ rfl).1, (h.at' 8 _ rfl).1, (h.at' 9 _ rfl).1, (h.at' 10 _ rfl).1, (h.at' 11 _ rfl).1⟩
  · exact ⟨s2, d2, pr2, fl2, tg2, tt2, hs2, hd2, (h.at' 12 _ rfl).1, (h.at' 13 _ rfl).1, (h.at' 14 _ rfl).1, (h.at' 15 _ rfl).1, (h.at' 16 _ rfl).1, (h.at' 17 _ rfl).1⟩
set_option maxHeartbeats 8000000 in
theorem exact_walk {q : Nat → Prop} (sv vb : Value) (len : Nat) (l : List Nat) (s d : Nat) (pr fl tg tt : Int) (w : World) (hl : len ≤ 9223372036854775807) (hb : BytesV w.heap.size w sv len) (hv : Rb q w vb l) (hs : s < 4294967296) (hd : d < 4294967296) :
    Calls Try.prog 5 #[sv, .agg #[.int .u32 s, .int .u32 d, .int .i64 pr, .int .i64 fl, .int .i64 tg, .int .i64 tt], vb] w fun e w' => e = .returned (.bool true) ∧ Gr w w' := by
  have HV := Lib.hid hv.any
  obtain ⟨av, cv, rfl, -, -⟩ := hv.form
  obtain ⟨N, hN⟩ : ∃ N, N = l.length := ⟨_, rfl⟩
  have HN := Lib.hid hN
  rw [← hN] at HV ⊢
  have hC := CL.new w [.int .u32 s, .int .u32 d, .int .i64 pr, .int .i64 fl, .int .i64 tg, .int .i64 tt] 65 _ rfl
  have hG := Gr.alloc (Gr.refl w) (.cells #[.int .u32 s, .int .u32 d, .int .i64 pr, .int .i64 fl, .int .i64 tg, .int .i64 tt] 65)
  simp only [List.toArray] at hC
  have HB := Lib.hid (hb.gr hG)
  clear hv hN hb
  by_cases h16 : 1600 < N
  · have d1 : decide ((1600 : Int) < (N : Int)) = true := by rw [decide_eq_true_eq]; omega
    clear h16
    go_enter Try.func5, Try.ntmps5
    go_wp2_with fail
    refine (pawake_any _).mono ?_
    rintro e w1 ⟨rfl, hg⟩
    go_wp2_with fail
    go_ret
    exact ⟨rfl, hG.step hg⟩
  have d1 : decide ((1600 : Int) < (N : Int)) = false := by rw [decide_eq_false_iff_not]; omega
  have hN2 : N ≤ 1600 := by omega
  have HN2 := Lib.hid hN2
  clear h16 hN2
  go_enter Try.func5, Try.ntmps5
  go_upto_region 1 with fail
  generalize w.alloc (.cells #[.int .u32 s, .int .u32 d, .int .i64 pr, .int .i64 fl, .int .i64 tg, .int .i64 tt] 65) = w0 at hC hG HB ⊢
  have hgl : w.heap.size ≤ w.heap.size := Nat.le_refl _
  have hgr := hC.lt
  generalize hge : w.heap.size = g0 at hC hgr ⊢
  go_wp2_with fail
  refine (pawake_any _).mono ?_
  rintro e w1 ⟨rfl, hg⟩
  replace hC := hC.gr hg
  replace hG := hG.step hg
  go_wp2_with fail
  refine (new_any sv len 80 _ (by omega) hl (HB.out.gr hg)).mono ?_
  rintro e w2 ⟨b, rfl, hbe, hc, hg2⟩
  have hbw : w.heap.size ≤ b := by have := Gr.size hG; omega
  have hgb : g0 ≠ b := by have := hC.lt; omega
  replace hC := hC.gr hg2
  replace hG := hG.step hg2
  clear hbe hg2 hg HB hl hgr hge hgl
  go_wp2_with fail
  replace hC := hC.gr (Gr.drew (Gr.refl w2))
  replace hG := hG.step (Gr.drew (Gr.refl w2))
  replace hc := hc.gr (Gr.drew (Gr.refl w2))
  have hS : CL w2.drew g0 [.int .u32 s, .int .u32 d, .int .i64 pr, .int .i64 fl, .int .i64 tg, .int .i64 tt] := hC
  refine region_plain (fun W => CL W g0 [.int .u32 s, .int .u32 d, .int .i64 pr, .int .i64 fl, .int .i64 tg, .int .i64 tt]) (by kernel_rfl) ?_
  clear hC
  generalize w2.drew = w3 at hS hG hc ⊢
  refine take_at 0 (some 40) (v := ?vs0) rfl rfl (by kernel_rfl) (by kernel_rfl) (by kernel_rfl) (by rfl) ?ys0 hS ?ts0
  case ys0 =>
    intro w' hSw
    obtain ⟨⟨q0, q1, q2, q3, q4, q5⟩, -⟩ := CL.six hSw
    go_simp
    (try with_reducible rfl)
  simp only [Act.put, List.setIfInBounds_toArray, List.set_cons_zero, List.set_cons_succ]
  refine take_at 1 (some 41) (v := ?vs1) rfl rfl (by kernel_rfl) (by kernel_rfl) (by kernel_rfl) (by rfl) ?ys1 hS ?ts1
  case ys1 =>
    intro w' hSw
    obtain - := hSw
    go_simp
    (try with_reducible rfl)
  simp only [Act.put, List.setIfInBounds_toArray, List.set_cons_zero, List.set_cons_succ]
  refine take_at 3 (some 43) (v := ?vs3) rfl rfl (by kernel_rfl) (by kernel_rfl) (by kernel_rfl) (by rfl) ?ys3 hS ?ts3
  case ys3 =>
    intro w' hSw
    obtain - := hSw
    go_simp
    (try with_reducible rfl)
  simp only [Act.put, List.setIfInBounds_toArray, List.set_cons_zero, List.set_cons_succ]
  refine take_at 7 (some 47) (v := ?vs7) rfl rfl (by kernel_rfl) (by kernel_rfl) (by kernel_rfl) (by rfl) ?ys7 hS ?ts7
  case ys7 =>
    intro w' hSw
    obtain - := hSw
    go_simp
    (try with_reducible rfl)
  simp only [Act.put, List.setIfInBounds_toArray, List.set_cons_zero, List.set_cons_succ]
  refine next_at 2 rfl (by kernel_rfl) (by rfl) (fun K hK => ?_)
  go_simp
  refine (probe_any b _ hc).mono ?_
  rintro e w4 ⟨s1, d1, pr1, fl1, tg1, tt1, rfl, hs1, hd1, hc', he⟩
  unfold prV
  replace hS := hS.ex he hgb
  replace hG := Ex.gr hG hbw he
  replace hc := hc'
  refine hK _ _ hS ?_
  clear hK K he hc' 
  refine next_at 4 rfl (by kernel_rfl) (by rfl) (fun K hK => ?_)
  go_simp
  refine (probe_any b _ hc).mono ?_
  rintro e w5 ⟨s2, d2, pr2, fl2, tg2, tt2, rfl, hs2, hd2, hc', he⟩
  unfold prV
  replace hS := hS.ex he hgb
  replace hG := Ex.gr hG hbw he
  replace hc := hc'
  refine hK _ _ hS ?_
  clear hK K he hc' 
  have hgs := Gr.alloc (Gr.refl w5) (.cells #[.int .u32 s, .int .u32 d, .int .i64 pr, .int .i64 fl, .int .i64 tg, .int .i64 tt, .int .u32 s1, .int .u32 d1, .int .i64 pr1, .int .i64 fl1, .int .i64 tg1, .int .i64 tt1, .int .u32 s2, .int .u32 d2, .int .i64 pr2, .int .i64 fl2, .int .i64 tg2, .int .i64 tt2] 65)
  have hgb2 : b < w5.heap.size := hc.lt
  have hA := CL.new w5 [.int .u32 s, .int .u32 d, .int .i64 pr, .int .i64 fl, .int .i64 tg, .int .i64 tt, .int .u32 s1, .int .u32 d1, .int .i64 pr1, .int .i64 fl1, .int .i64 tg1, .int .i64 tt1, .int .u32 s2, .int .u32 d2, .int .i64 pr2, .int .i64 fl2, .int .i64 tg2, .int .i64 tt2] 65 _ rfl
  simp only [List.toArray] at hA
  replace hS := hS.gr hgs
  replace hG := hG.step hgs
  replace hc := hc.gr hgs
  refine next_at 5 rfl (by kernel_rfl) (by rfl) (fun K hK => ?_)
  go_simp
  refine hK _ _ hS ?_
  clear hK K hgs
  generalize w5.alloc (.cells #[.int .u32 s, .int .u32 d, .int .i64 pr, .int .i64 fl, .int .i64 tg, .int .i64 tt, .int .u32 s1, .int .u32 d1, .int .i64 pr1, .int .i64 fl1, .int .i64 tg1, .int .i64 tt1, .int .u32 s2, .int .u32 d2, .int .i64 pr2, .int .i64 fl2, .int .i64 tg2, .int .i64 tt2] 65) = wz at hS hG hc hA ⊢
  generalize w5.heap.size = gs at hA hgb2 ⊢
  refine take_at 6 (some 46) (v := .int .i64 3) rfl rfl (by kernel_rfl) (by kernel_rfl) (by kernel_rfl) (by rfl) ?yL hS ?tL
  case yL =>
    intro w' hSw
    go_simp
  simp only [Act.put, List.setIfInBounds_toArray, List.set_cons_zero, List.set_cons_succ]
  refine wpAnyH_done (by kernel_rfl) ?_ _
  refine qz_normal ?_
  clear hS hgb
  have HPS := Lib.hid (And.intro (And.intro hs hd) (And.intro (And.intro hs1 hd1) (And.intro hs2 hd2)))
  clear hs hd hs1 hd1 hs2 hd2
  have HA := Lib.hid hA
  have HG := Lib.hid hG
  have HC := Lib.hid hc
  have HY := Lib.hid (row_at HPS.out.1.1 HPS.out.1.2 HPS.out.2.1.1 HPS.out.2.1.2 HPS.out.2.2.1 HPS.out.2.2.2 (gs := gs) (pr := pr) (fl := fl) (tg := tg) (tt := tt) (pr1 := pr1) (fl1 := fl1) (tg1 := tg1) (tt1 := tt1) (pr2 := pr2) (fl2 := fl2) (tg2 := tg2) (tt2 := tt2))
  clear hA hG hc HPS
  go_wp2_with fail
  go_loopw [47] (fun iv wr => ∃ t : Nat, t ≤ 3 ∧ iv = .int .i64 t ∧ Gr w wr ∧ Cod w.heap.size wr b ∧ CL wr gs [.int .u32 s, .int .u32 d, .int .i64 pr, .int .i64 fl, .int .i64 tg, .int .i64 tt, .int .u32 s1, .int .u32 d1, .int .i64 pr1, .int .i64 fl1, .int .i64 tg1, .int .i64 tt1, .int .u32 s2, .int .u32 d2, .int .i64 pr2, .int .i64 fl2, .int .i64 tg2, .int .i64 tt2]) (fun iv _ => 3 - (intOf iv).toNat)
  case atStart => exact ⟨0, by omega, rfl, HG.out, HC.out, HA.out⟩
  case round =>
    obtain ⟨t, ht, rfl, hG, hc, hA⟩ := hrel
    by_cases hlt : t < 3
    · have dt : (t : Int) < 3 := by omega

      obtain ⟨S, D, PR, FL, TG, TT, hSl, hDl, p0, p1, p2, p3, p4, p5⟩ := HY.out t wr hlt hA
      obtain ⟨E, LL, k1, k2, k3, k4, k5, BB⟩ := build_both S D PR FL TG TT hSl hDl
      have HBB := Lib.hid BB
      have HLL := Lib.hid (fun (m : List Nat) (hm : m = LL) => (by rw [hm]; exact BB.len : m.length ≤ 40))
      have hP := CL.new wr [.int .u32 S, .int .u32 D, .int .i64 PR, .int .i64 FL, .int .i64 TG, .int .i64 TT] 65 _ rfl
      have hgn := Gr.alloc (Gr.refl wr) (.cells #[.int .u32 S, .int .u32 D, .int .i64 PR, .int .i64 FL, .int .i64 TG, .int .i64 TT] 65)
      have hbr : b < wr.heap.size := hc.lt
      simp only [List.toArray] at hP
      clear BB hSl hDl
      go_upto_region 7 with fail
      clear p0 p1 p2 p3 p4 p5
      generalize wr.alloc (.cells #[.int .u32 S, .int .u32 D, .int .i64 PR, .int .i64 FL, .int .i64 TG, .int .i64 TT] 65) = v1 at hP hgn ⊢
      generalize wr.heap.size = gp at hP hbr ⊢
      replace hG := hG.step hgn
      replace hc := hc.gr hgn
      replace hA := hA.gr hgn
      clear hgn
      obtain ⟨⟨y0, y1, y2, y3, y4, y5⟩, -⟩ := CL.six hP
      go_wp2_with fail
      refine (HBB.out.pb _).mono ?_
      rintro e v2 ⟨x2, rfl, ho1, hg⟩
      clear y0 y1 y2 y3 y4 y5
      replace hG := hG.step hg
      replace hc := hc.gr hg
      replace hP := hP.gr hg
      replace hA := hA.gr hg
      clear hg
      obtain ⟨b1, e1, rfl, -, -⟩ := ho1.rb.form
      generalize LL.length = N1 at *
      obtain ⟨⟨y0, y1, y2, y3, y4, y5⟩, -⟩ := CL.six hP
      go_wp2_with fail
      refine (HBB.out.rb _).mono ?_
      rintro e v3 ⟨x3, rfl, ho2, hg⟩
      clear y0 y1 y2 y3 y4 y5
      have hb2 : b < v2.heap.size := hc.lt
      replace hG := hG.step hg
      replace hc := hc.gr hg
      replace hP := hP.gr hg
      replace hA := hA.gr hg
      replace ho1 := ho1.gr hg
      clear hg
      obtain ⟨b2, e2, rfl, -, -⟩ := ho2.rb.form
      generalize LL.length = N2 at *
      obtain ⟨⟨y0, y1, y2, y3, y4, y5⟩, -⟩ := CL.six hP
      go_wp2_with fail
      refine (HBB.out.pk _).mono ?_
      rintro e v4 ⟨rfl, hg⟩
      clear y0 y1 y2 y3 y4 y5
      replace hG := hG.step hg
      replace hc := hc.gr hg
      replace hP := hP.gr hg
      replace hA := hA.gr hg
      replace ho1 := ho1.gr hg
      replace ho2 := ho2.gr hg
      clear hg
      have hK1 := CL.new v4 [.int .u32 k1, .int .u32 k2, .int .i64 k3, .int .i64 k4, .int .i64 k5] 70 _ rfl
      have hgn := Gr.alloc (Gr.refl v4) (.cells #[.int .u32 k1, .int .u32 k2, .int .i64 k3, .int .i64 k4, .int .i64 k5] 70)
      simp only [List.toArray] at hK1
      go_upto_region 10 with fail
      generalize v4.alloc (.cells #[.int .u32 k1, .int .u32 k2, .int .i64 k3, .int .i64 k4, .int .i64 k5] 70) = v5 at hK1 hgn ⊢
      generalize v4.heap.size = ga at hK1 ⊢
      replace hG := hG.step hgn
      replace hc := hc.gr hgn
      replace hP := hP.gr hgn
      replace hA := hA.gr hgn
      replace ho1 := ho1.gr hgn
      replace ho2 := ho2.gr hgn
      clear hgn
      obtain ⟨⟨y0, y1, y2, y3, y4, y5⟩, -⟩ := CL.six hP
      go_wp2_with fail
      refine (HBB.out.rk _).mono ?_
      rintro e v6 ⟨rfl, hg⟩
      clear y0 y1 y2 y3 y4 y5
      replace hG := hG.step hg
      replace hc := hc.gr hg
      replace hP := hP.gr hg
      replace hA := hA.gr hg
      replace hK1 := hK1.gr hg
      replace ho1 := ho1.gr hg
      replace ho2 := ho2.gr hg
      clear hg
      have hK2 := CL.new v6 [.int .u32 k1, .int .u32 k2, .int .i64 k3, .int .i64 k4, .int .i64 k5] 70 _ rfl
      have hgn := Gr.alloc (Gr.refl v6) (.cells #[.int .u32 k1, .int .u32 k2, .int .i64 k3, .int .i64 k4, .int .i64 k5] 70)
      simp only [List.toArray] at hK2
      go_upto_region 11 with fail
      generalize v6.alloc (.cells #[.int .u32 k1, .int .u32 k2, .int .i64 k3, .int .i64 k4, .int .i64 k5] 70) = v7 at hK2 hgn ⊢
      generalize v6.heap.size = gb at hK2 ⊢
      replace hG := hG.step hgn
      replace hc := hc.gr hgn
      replace hP := hP.gr hgn
      replace hA := hA.gr hgn
      replace hK1 := hK1.gr hgn
      replace ho1 := ho1.gr hgn
      replace ho2 := ho2.gr hgn
      clear hgn
      have HP := Lib.hid hP
      have HK1 := Lib.hid hK1
      have HK2 := Lib.hid hK2
      have HO1 := Lib.hid ho1
      have HO2 := Lib.hid ho2
      clear hP hK1 hK2
      have hS : Gr v7 v7.drew := Gr.drew (Gr.refl _)
      refine region_plain (Gr v7) (by kernel_rfl) ?_
      generalize v7.drew = v8 at hS ⊢
      refine take_at 0 (some 71) (v := ?vr0) rfl rfl (by kernel_rfl) (by kernel_rfl) (by kernel_rfl) (by rfl) ?yr0 hS ?tr0
      case yr0 =>
        intro w' hSw
        obtain ⟨⟨q0, q1, q2, q3, q4, q5⟩, -⟩ := CL.six (HP.out.gr hSw)
        go_simp
        (try with_reducible rfl)
      simp only [Act.put, List.setIfInBounds_toArray, List.set_cons_zero, List.set_cons_succ]
      refine take_at 2 (some 73) (v := ?vr2) rfl rfl (by kernel_rfl) (by kernel_rfl) (by kernel_rfl) (by rfl) ?yr2 hS ?tr2
      case yr2 =>
        intro w' hSw
        obtain ⟨⟨q0, q1, q2, q3, q4, q5⟩, -⟩ := CL.six (HP.out.gr hSw)
        go_simp
        (try with_reducible rfl)
      simp only [Act.put, List.setIfInBounds_toArray, List.set_cons_zero, List.set_cons_succ]
      refine next_at 1 rfl (by kernel_rfl) (by rfl) (fun K hK => ?_)
      go_simp
      refine (HBB.out.pc _).mono ?_
      rintro e u1 ⟨rfl, hg⟩
      replace hS := hS.step hg
      refine hK _ _ hS ?_
      clear hK K hg
      refine next_at 3 rfl (by kernel_rfl) (by rfl) (fun K hK => ?_)
      go_simp
      refine (HBB.out.rc _).mono ?_
      rintro e u3 ⟨rfl, hg⟩
      replace hS := hS.step hg
      refine hK _ _ hS ?_
      clear hK K hg
      refine take_at 4 (some 75) (v := ?vr4) rfl rfl (by kernel_rfl) (by kernel_rfl) (by kernel_rfl) (by rfl) ?yr4 hS ?tr4
      case yr4 =>
        intro w' hSw
        obtain - := hSw
        go_simp
        (try with_reducible rfl)
      simp only [Act.put, List.setIfInBounds_toArray, List.set_cons_zero, List.set_cons_succ]
      refine take_at 5 (some 76) (v := ?vr5) rfl rfl (by kernel_rfl) (by kernel_rfl) (by kernel_rfl) (by rfl) ?yr5 hS ?tr5
      case yr5 =>
        intro w' hSw
        obtain - := hSw
        go_simp
        (try with_reducible rfl)
      simp only [Act.put, List.setIfInBounds_toArray, List.set_cons_zero, List.set_cons_succ]
      refine take_at 6 (some 77) (v := ?vr6) rfl rfl (by kernel_rfl) (by kernel_rfl) (by kernel_rfl) (by rfl) ?yr6 hS ?tr6
      case yr6 =>
        intro w' hSw
        obtain - := hSw
        go_simp
        (try with_reducible rfl)
      simp only [Act.put, List.setIfInBounds_toArray, List.set_cons_zero, List.set_cons_succ]
      refine take_at 7 (some 78) (v := ?vr7) rfl rfl (by kernel_rfl) (by kernel_rfl) (by kernel_rfl) (by rfl) ?yr7 hS ?tr7
      case yr7 =>
        intro w' hSw
        obtain - := hSw
        go_simp
        (try with_reducible rfl)
      simp only [Act.put, List.setIfInBounds_toArray, List.set_cons_zero, List.set_cons_succ]
      refine take_at 8 (some 79) (v := ?vr8) rfl rfl (by kernel_rfl) (by kernel_rfl) (by kernel_rfl) (by rfl) ?yr8 hS ?tr8
      case yr8 =>
        intro w' hSw
        obtain - := hSw
        go_simp
        (try with_reducible rfl)
      simp only [Act.put, List.setIfInBounds_toArray, List.set_cons_zero, List.set_cons_succ]
      refine take_at 9 (some 80) (v := ?vr9) rfl rfl (by kernel_rfl) (by kernel_rfl) (by kernel_rfl) (by rfl) ?yr9 hS ?tr9
      case yr9 =>
        intro w' hSw
        obtain - := hSw
        go_simp
        (try with_reducible rfl)
      simp only [Act.put, List.setIfInBounds_toArray, List.set_cons_zero, List.set_cons_succ]
      refine take_at 10 (some 81) (v := ?vr10) rfl rfl (by kernel_rfl) (by kernel_rfl) (by kernel_rfl) (by rfl) ?yr10 hS ?tr10
      case yr10 =>
        intro w' hSw
        obtain - := hSw
        go_simp
        (try with_reducible rfl)
      simp only [Act.put, List.setIfInBounds_toArray, List.set_cons_zero, List.set_cons_succ]
      refine take_at 11 (some 82) (v := ?vr11) rfl rfl (by kernel_rfl) (by kernel_rfl) (by kernel_rfl) (by rfl) ?yr11 hS ?tr11
      case yr11 =>
        intro w' hSw
        obtain - := hSw
        go_simp
        (try with_reducible rfl)
      simp only [Act.put, List.setIfInBounds_toArray, List.set_cons_zero, List.set_cons_succ]
      refine take_at 12 (some 83) (v := ?vr12) rfl rfl (by kernel_rfl) (by kernel_rfl) (by kernel_rfl) (by rfl) ?yr12 hS ?tr12
      case yr12 =>
        intro w' hSw
        obtain - := hSw
        go_simp
        (try with_reducible rfl)
      simp only [Act.put, List.setIfInBounds_toArray, List.set_cons_zero, List.set_cons_succ]
      refine next_at 13 rfl (by kernel_rfl) (by rfl) (fun K hK => ?_)
      go_simp
      refine (rweq_c _ (HO1.out.rb.gr hS) (HO2.out.rb.gr hS) (by have := HLL.out _ rfl; omega) (by have := HLL.out _ rfl; omega) true (by simp)).mono ?_
      rintro e u13 ⟨rfl, hg⟩
      replace hS := hS.step hg
      refine hK _ _ hS ?_
      clear hK K hg
      refine take_at 14 (some 85) (v := ?vr14) rfl rfl (by kernel_rfl) (by kernel_rfl) (by kernel_rfl) (by rfl) ?yr14 hS ?tr14
      case yr14 =>
        intro w' hSw
        obtain - := hSw
        go_simp
        (try with_reducible rfl)
      simp only [Act.put, List.setIfInBounds_toArray, List.set_cons_zero, List.set_cons_succ]
      refine take_at 15 (some 86) (v := ?vr15) rfl rfl (by kernel_rfl) (by kernel_rfl) (by kernel_rfl) (by rfl) ?yr15 hS ?tr15
      case yr15 =>
        intro w' hSw
        obtain - := hSw
        go_simp
        (try with_reducible rfl)
      simp only [Act.put, List.setIfInBounds_toArray, List.set_cons_zero, List.set_cons_succ]
      refine take_at 16 (some 87) (v := ?vr16) rfl rfl (by kernel_rfl) (by kernel_rfl) (by kernel_rfl) (by rfl) ?yr16 hS ?tr16
      case yr16 =>
        intro w' hSw
        obtain - := hSw
        go_simp
        (try with_reducible rfl)
      simp only [Act.put, List.setIfInBounds_toArray, List.set_cons_zero, List.set_cons_succ]
      refine take_at 17 (some 88) (v := ?vr17) rfl rfl (by kernel_rfl) (by kernel_rfl) (by kernel_rfl) (by rfl) ?yr17 hS ?tr17
      case yr17 =>
        intro w' hSw
        obtain ⟨⟨q0, q1, q2, q3, q4⟩, -⟩ := CL.five (HK1.out.gr hSw)
        go_simp
        (try with_reducible rfl)
      simp only [Act.put, List.setIfInBounds_toArray, List.set_cons_zero, List.set_cons_succ]
      refine take_at 18 (some 89) (v := ?vr18) rfl rfl (by kernel_rfl) (by kernel_rfl) (by kernel_rfl) (by rfl) ?yr18 hS ?tr18
      case yr18 =>
        intro w' hSw
        obtain ⟨⟨q0, q1, q2, q3, q4⟩, -⟩ := CL.five (HK2.out.gr hSw)
        go_simp
        (try with_reducible rfl)
      simp only [Act.put, List.setIfInBounds_toArray, List.set_cons_zero, List.set_cons_succ]
      refine take_at 19 (some 90) (v := ?vr19) rfl rfl (by kernel_rfl) (by kernel_rfl) (by kernel_rfl) (by rfl) ?yr19 hS ?tr19
      case yr19 =>
        intro w' hSw
        obtain - := hSw
        go_simp
        (try with_reducible rfl)
      simp only [Act.put, List.setIfInBounds_toArray, List.set_cons_zero, List.set_cons_succ]
      refine take_at 20 (some 91) (v := ?vr20) rfl rfl (by kernel_rfl) (by kernel_rfl) (by kernel_rfl) (by rfl) ?yr20 hS ?tr20
      case yr20 =>
        intro w' hSw
        obtain - := hSw
        go_simp
        (try with_reducible rfl)
      simp only [Act.put, List.setIfInBounds_toArray, List.set_cons_zero, List.set_cons_succ]
      refine take_at 21 (some 92) (v := ?vr21) rfl rfl (by kernel_rfl) (by kernel_rfl) (by kernel_rfl) (by rfl) ?yr21 hS ?tr21
      case yr21 =>
        intro w' hSw
        obtain - := hSw
        go_simp
        (try with_reducible rfl)
      simp only [Act.put, List.setIfInBounds_toArray, List.set_cons_zero, List.set_cons_succ]
      refine take_at 22 (some 93) (v := ?vr22) rfl rfl (by kernel_rfl) (by kernel_rfl) (by kernel_rfl) (by rfl) ?yr22 hS ?tr22
      case yr22 =>
        intro w' hSw
        obtain - := hSw
        go_simp
        (try with_reducible rfl)
      simp only [Act.put, List.setIfInBounds_toArray, List.set_cons_zero, List.set_cons_succ]
      refine take_at 23 (some 94) (v := ?vr23) rfl rfl (by kernel_rfl) (by kernel_rfl) (by kernel_rfl) (by rfl) ?yr23 hS ?tr23
      case yr23 =>
        intro w' hSw
        obtain - := hSw
        go_simp
        (try with_reducible rfl)
      simp only [Act.put, List.setIfInBounds_toArray, List.set_cons_zero, List.set_cons_succ]
      refine take_at 24 (some 95) (v := ?vr24) rfl rfl (by kernel_rfl) (by kernel_rfl) (by kernel_rfl) (by rfl) ?yr24 hS ?tr24
      case yr24 =>
        intro w' hSw
        obtain - := hSw
        go_simp
        (try with_reducible rfl)
      simp only [Act.put, List.setIfInBounds_toArray, List.set_cons_zero, List.set_cons_succ]
      refine take_at 25 (some 96) (v := ?vr25) rfl rfl (by kernel_rfl) (by kernel_rfl) (by kernel_rfl) (by rfl) ?yr25 hS ?tr25
      case yr25 =>
        intro w' hSw
        obtain - := hSw
        go_simp
        (try with_reducible rfl)
      simp only [Act.put, List.setIfInBounds_toArray, List.set_cons_zero, List.set_cons_succ]
      refine wpAnyH_done (by kernel_rfl) ?_ _
      refine qz_normal ?_
      replace hG := hG.step hS
      replace hc := hc.gr hS
      replace hA := hA.gr hS
      have ho2 := HO2.out.gr hS
      clear hS HP HK1 HK2 HO1 HO2 HBB ho1
      go_wp2_with fail
      refine (spoilt_res (base := v2.heap.size) b (.slice b2 N2 e2) LL _ hc ho2 (by have := HLL.out _ rfl; omega) (fun k hk => by have := ho2.above k hk; omega)).mono ?_
      rintro e v9 ⟨xs, ls, rfl, hrs, hls, he, hc'⟩
      have hy := ((ho2.rb.imp (q := fun k => k ≠ b) (fun k _ hk => by omega)).ex he (fun k hk => hk)).any
      have hLL40 := HLL.out LL rfl
      replace hG := Ex.gr hG hbw he
      replace hA := hA.ex he (by omega)
      replace hc := hc'
      have hx := hrs.any
      obtain ⟨a9, c9, rfl, -, -⟩ := hrs.form
      have hvb := HV.out.gr hG
      clear hc' he ho2 hrs hb2 HLL
      have HLS := Lib.hid (fun (m : List Nat) (hm : m = ls) => (by rw [hm]; omega : m.length ≤ 3000))
      clear hls
      generalize ls.length = n9 at *
      have hcl := CL.new v9 [.slice b2 N2 e2, .slice a9 n9 c9, .slice av N cv] 22 _ rfl
      have hga := Gr.alloc (Gr.refl v9) (.cells #[.slice b2 N2 e2, .slice a9 n9 c9, .slice av N cv] 22)
      simp only [List.toArray] at hcl
      go_wp2_with fail
      generalize v9.alloc (.cells #[.slice b2 N2 e2, .slice a9 n9 c9, .slice av N cv] 22) = vz at hcl hga ⊢
      generalize v9.heap.size = gz at hcl ⊢
      replace hG := hG.step hga
      replace hc := hc.gr hga
      replace hA := hA.gr hga
      have HZ : Hid (∀ t, t < 3 → ∃ (ya : Option Addr) (yn yc : Nat) (m : List Nat), vz.cell? ⟨gz, t, none⟩ = some (.slice ya yn yc) ∧ Rb (fun _ => True) vz (.slice ya yn yc) m ∧ m.length ≤ 4000) := Lib.hid (by
        intro t ht
        have h0 := (hcl.at' 0 _ rfl).1
        have h1 := (hcl.at' 1 _ rfl).1
        have h2 := (hcl.at' 2 _ rfl).1
        have := HN.out
        have := HN2.out
        have := HLS.out _ rfl
        have : t = 0 ∨ t = 1 ∨ t = 2 := by omega
        rcases this with rfl | rfl | rfl
        · exact ⟨_, _, _, _, h0, hy.gr hga, by omega⟩
        · exact ⟨_, _, _, _, h1, hx.gr hga, by omega⟩
        · exact ⟨_, _, _, _, h2, hvb.gr hga, by omega⟩)
      have hzl := hcl.lt
      have HGZ := Lib.hid (And.intro hG (And.intro hc hA))
      clear hcl hga hy hx hvb hG hc hA HLS hLL40
      go_loopw [104] (fun iv wr2 => ∃ t2 : Nat, t2 ≤ 3 ∧ iv = .int .i64 t2 ∧ Gr vz wr2) (fun iv _ => 3 - (intOf iv).toNat)
      case atStart => exact ⟨0, by omega, rfl, Gr.refl _⟩
      case round =>
        obtain ⟨t2, ht2, rfl, hgr⟩ := hrel
        by_cases hlt2 : t2 < 3
        · have dt2 : (t2 : Int) < 3 := by omega
          obtain ⟨ya, yn, yc, m, hyc, hyr, hyl⟩ := HZ.out t2 hlt2
          have hcell := ((Gr.cells hgr).1 gz t2 hzl).trans hyc
          have HYR := Lib.hid (hyr.gr hgr)
          obtain ⟨a1, a2, a3, a4, a5, a6, E1, m1, m2, m3, m4, m5, E2, RB⟩ := read_both m (by omega)
          have HRB := Lib.hid RB
          clear hyr hyc RB hyl
          go_wp2_with fail
          have hGi := Gr.refl wr
          refine (HRB.out.pr _ _ (HYR.out.gr hGi)).mono ?_
          rintro e n1 ⟨rfl, hg⟩
          replace hGi := hGi.step hg
          clear hg
          have J10 := CL.new n1 [.int .u32 a1, .int .u32 a2, .int .i64 a3, .int .i64 a4, .int .i64 a5, .int .i64 a6] 65 _ rfl
          have hgn := Gr.alloc (Gr.refl n1) (.cells #[.int .u32 a1, .int .u32 a2, .int .i64 a3, .int .i64 a4, .int .i64 a5, .int .i64 a6] 65)
          simp only [List.toArray] at J10
          go_wp2_with fail
          generalize n1.alloc (.cells #[.int .u32 a1, .int .u32 a2, .int .i64 a3, .int .i64 a4, .int .i64 a5, .int .i64 a6] 65) = n2 at J10 hgn ⊢
          generalize n1.heap.size = j1 at J10 ⊢
          have J1 := Lib.hid J10
          clear J10
          replace hGi := hGi.step hgn
          clear hgn
          refine (HRB.out.rr _ _ (HYR.out.gr hGi)).mono ?_
          rintro e n3 ⟨rfl, hg⟩
          replace hGi := hGi.step hg
          replace J1 := Lib.hid (J1.out.gr hg)
          clear hg
          have J20 := CL.new n3 [.int .u32 a1, .int .u32 a2, .int .i64 a3, .int .i64 a4, .int .i64 a5, .int .i64 a6] 65 _ rfl
          have hgn := Gr.alloc (Gr.refl n3) (.cells #[.int .u32 a1, .int .u32 a2, .int .i64 a3, .int .i64 a4, .int .i64 a5, .int .i64 a6] 65)
          simp only [List.toArray] at J20
          go_wp2_with fail
          generalize n3.alloc (.cells #[.int .u32 a1, .int .u32 a2, .int .i64 a3, .int .i64 a4, .int .i64 a5, .int .i64 a6] 65) = n4 at J20 hgn ⊢
          generalize n3.heap.size = j2 at J20 ⊢
          have J2 := Lib.hid J20
          clear J20
          replace hGi := hGi.step hgn
          replace J1 := Lib.hid (J1.out.gr hgn)
          clear hgn
          refine (HRB.out.pk _ _ (HYR.out.gr hGi)).mono ?_
          rintro e n5 ⟨rfl, hg⟩
          replace hGi := hGi.step hg
          replace J1 := Lib.hid (J1.out.gr hg)
          replace J2 := Lib.hid (J2.out.gr hg)
          clear hg
          have J30 := CL.new n5 [.int .u32 m1, .int .u32 m2, .int .i64 m3, .int .i64 m4, .int .i64 m5] 70 _ rfl
          have hgn := Gr.alloc (Gr.refl n5) (.cells #[.int .u32 m1, .int .u32 m2, .int .i64 m3, .int .i64 m4, .int .i64 m5] 70)
          simp only [List.toArray] at J30
          go_wp2_with fail
          generalize n5.alloc (.cells #[.int .u32 m1, .int .u32 m2, .int .i64 m3, .int .i64 m4, .int .i64 m5] 70) = n6 at J30 hgn ⊢
          generalize n5.heap.size = j3 at J30 ⊢
          have J3 := Lib.hid J30
          clear J30
          replace hGi := hGi.step hgn
          replace J1 := Lib.hid (J1.out.gr hgn)
          replace J2 := Lib.hid (J2.out.gr hgn)
          clear hgn
          refine (HRB.out.rk _ _ (HYR.out.gr hGi)).mono ?_
          rintro e n7 ⟨rfl, hg⟩
          replace hGi := hGi.step hg
          replace J1 := Lib.hid (J1.out.gr hg)
          replace J2 := Lib.hid (J2.out.gr hg)
          replace J3 := Lib.hid (J3.out.gr hg)
          clear hg
          have J40 := CL.new n7 [.int .u32 m1, .int .u32 m2, .int .i64 m3, .int .i64 m4, .int .i64 m5] 70 _ rfl
          have hgn := Gr.alloc (Gr.refl n7) (.cells #[.int .u32 m1, .int .u32 m2, .int .i64 m3, .int .i64 m4, .int .i64 m5] 70)
          simp only [List.toArray] at J40
          go_upto_region 20 with fail
          generalize n7.alloc (.cells #[.int .u32 m1, .int .u32 m2, .int .i64 m3, .int .i64 m4, .int .i64 m5] 70) = n8 at J40 hgn ⊢
          generalize n7.heap.size = j4 at J40 ⊢
          replace hGi := hGi.step hgn
          replace J1 := Lib.hid (J1.out.gr hgn)
          replace J2 := Lib.hid (J2.out.gr hgn)
          replace J3 := Lib.hid (J3.out.gr hgn)
          clear hgn
          obtain ⟨⟨y0, y1, y2, y3, y4, y5⟩, -⟩ := CL.six J1.out
          obtain ⟨⟨z0, z1, z2, z3, z4, z5⟩, -⟩ := CL.six J2.out
          obtain ⟨⟨r0, r1, r2, r3, r4⟩, -⟩ := CL.five J3.out
          obtain ⟨⟨s0', s1', s2', s3', s4'⟩, -⟩ := CL.five J40
          clear hcell
          go_wp2_with fail
          case roundEnd => exact ⟨⟨t2 + 1, by omega, by simp, hgr.step hGi⟩, by simp [intOf]; omega⟩
        · obtain rfl : t2 = 3 := by omega
          go_wp2_with fail
          case roundEnd => exact ⟨⟨t + 1, by omega, by simp, HGZ.out.1.step hgr, HGZ.out.2.1.gr hgr, HGZ.out.2.2.gr hgr⟩, by simp [intOf]; omega⟩
    · obtain rfl : t = 3 := by omega
      go_wp2_with fail
      go_ret
      exact ⟨rfl, hG⟩
end Go.Proofs.Ytlkhdbgknkjioaa
