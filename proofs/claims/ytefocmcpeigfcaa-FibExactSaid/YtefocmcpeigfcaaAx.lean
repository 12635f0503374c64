/- The walk of FibPuts. -/
import Derived.Test.YtefocmcpeigfcaaAq
import Derived.Test.YtefocmcpeigfcaaAv
import Derived.WalkKit
import Derived.WalkSpells
import Derived.WalkLawsBesides
import Derived.WalkSmall
import Derived.Handy
import Derived.BigQuiet
import Derived.Deep.QuietTactic
import Derived.Deep.RegionHeld3
import Derived.Deep.DeepFit
import Derived.Below
import Derived.Lib.Hide
import Derived.Lib.QuietBelow
import Derived.Deep.DeepCutAuto
namespace Go.Proofs.Ytefocmcpeigfcaa
open Go Go.RowKit Go.Sort
set_option maxRecDepth 100000
set_option linter.unusedVariables false
def six : List Int := [0, 1, 2, 3, 4, 5]
theorem nx_all {nx : List Int} (h : NxOk 6 nx) (hl : nx.length ≤ 6) : NxAll nx six := by
  refine ⟨by omega, fun j hj => ?_⟩
  unfold stp
  rw [Bool.and_eq_true]
  constructor
  · cases j with
    | zero => rfl
    | succ i =>
      rw [Bool.or_eq_true]
      right
      rw [decide_eq_true_eq, Nat.add_sub_cancel, List.getD_eq_getElem?_getD, List.getD_eq_getElem?_getD, List.getElem?_eq_getElem (by omega), List.getElem?_eq_getElem hj]
      exact (List.pairwise_iff_getElem.1 h.1) i (i + 1) (by omega) hj (by omega)
  · have hm : nx.getD j 0 ∈ nx := by rw [List.getD_eq_getElem?_getD, List.getElem?_eq_getElem hj]; exact List.getElem_mem _
    have := h.2 _ hm
    rw [List.contains_iff_mem]
    generalize nx.getD j 0 = x at *
    unfold six
    simp only [List.mem_cons, List.not_mem_nil, or_false]
    omega
theorem chk_ok {l : List Rt} (h : TabOk l) (hl : l.length ≤ 64) : Chk l six 0 := by
  refine .inr ⟨hl, .inr ⟨fun j hj => ?_, rfl⟩⟩
  have hr : l[j]? = some l[j] := List.getElem?_eq_getElem hj
  have hm : l[j] ∈ l := List.getElem_mem _
  obtain ⟨h1, h2, h3, h4, h5⟩ := h.2 _ hm
  refine ⟨_, hr, .inr (.inr (.inr ⟨h1, ?_, ⟨nx_all h4 h5, h2, h3⟩, rfl⟩))⟩
  cases j with
  | zero => rfl
  | succ i =>
    rw [ordBad, List.getElem?_eq_getElem (by omega)]
    dsimp only
    have := (List.pairwise_iff_getElem.1 h.1) i (i + 1) (by omega) hj (by omega)
    exact decide_eq_false (by omega)
theorem put_swap {r s : Rt} {l : List Rt} (h : Asc l) (hne : cmr r s ≠ 0) : putP s (putP r l) = putP r (putP s l) := by
  refine asc_ext (asc_putP (asc_putP h)) (asc_putP (asc_putP h)) fun y => ?_
  rw [mem_putP, mem_putP, mem_putP, mem_putP]
  have h2 : cmr s r ≠ 0 := fun e => hne (by rw [cmr_zero] at *; omega)
  constructor
  · rintro (rfl | ⟨rfl | ⟨h3, h4⟩, h5⟩)
    · exact .inr ⟨.inl rfl, h2⟩
    · exact .inl rfl
    · exact .inr ⟨.inr ⟨h3, h5⟩, h4⟩
  · rintro (rfl | ⟨rfl | ⟨h3, h4⟩, h5⟩)
    · exact .inr ⟨.inl rfl, hne⟩
    · exact .inl rfl
    · exact .inr ⟨.inr ⟨h3, h5⟩, h4⟩
theorem ri_six (w : World) : Ri (fun _ => True) (w.alloc (.cells #[.int .i64 0, .int .i64 1, .int .i64 2, .int .i64 3, .int .i64 4, .int .i64 5] 3)) (.slice (some ⟨w.heap.size, 0, none⟩) 6 6) six := by
  refine ⟨_, 6, rfl, by decide, by omega, (fun h => by cases h), fun i hi => ⟨w.heap.size, 0, rfl, trivial, ?_⟩⟩
  have hk : CL (w.alloc (.cells #[.int .i64 0, .int .i64 1, .int .i64 2, .int .i64 3, .int .i64 4, .int .i64 5] 3)) w.heap.size [.int .i64 0, .int .i64 1, .int .i64 2, .int .i64 3, .int .i64 4, .int .i64 5] := CL.new _ _ _ _ rfl
  rw [Nat.zero_add]
  have hi6 : i < 6 := hi
  have : i = 0 ∨ i = 1 ∨ i = 2 ∨ i = 3 ∨ i = 4 ∨ i = 5 := by omega
  rcases this with rfl | rfl | rfl | rfl | rfl | rfl
  · exact (hk.at' 0 _ rfl).1
  · exact (hk.at' 1 _ rfl).1
  · exact (hk.at' 2 _ rfl).1
  · exact (hk.at' 3 _ rfl).1
  · exact (hk.at' 4 _ rfl).1
  · exact (hk.at' 5 _ rfl).1
theorem ctn_self {s : Rt} (h : vld s.a s.n = true) : ctn s.a s.n s.a = true := ctn_iff.2 ⟨h, by omega, by have := sz_pos s.n; omega⟩
set_option maxHeartbeats 4000000 in
theorem puts_walk (sv : Value) (len : Nat) (w : World) (hl : len ≤ 9223372036854775807) (hb : BytesV w.heap.size w sv len) :
    Calls Try.prog 5 #[sv] w fun e w' => e = .returned (.bool true) ∧ Gr w w' := by
  have HB := Lib.hid hb
  clear hb
  go_enter Try.func5, Try.ntmps5
  go_wp2_with fail
  refine (awake_any _).mono ?_
  rintro e w1 ⟨rfl, hg⟩
  go_wp2_with fail
  refine (new_any sv len 200 _ (by omega) hl (HB.out.gr hg)).mono ?_
  rintro e w2 ⟨b, rfl, hbe, hc, hg2⟩
  have hbw : w.heap.size ≤ b := by have := Gr.size hg; omega
  have hG2 := hg.step hg2
  have hs2 : w.heap.size ≤ w2.heap.size := Gr.size hG2
  clear hbe hg2 hg HB hl
  go_wp2_with fail
  refine (table_any b _ hc hs2).mono ?_
  rintro e w3 ⟨tv, l, rfl, hT, hP, hok, hl8, hc3, he3⟩
  have HT := Lib.hid hT
  have HP := Lib.hid hP
  have HOK := Lib.hid hok
  have hs3 := he3.size
  have hblt := hc.lt
  clear hT hP hok
  go_wp2_with fail
  refine (route_any b _ hc3 (by omega)).mono ?_
  rintro e w4 ⟨rv, r, rfl, hrv, hrk, hc4, he4⟩
  have hs4 := he4.size
  go_wp2_with fail
  refine (route_any b _ hc4 (by omega)).mono ?_
  rintro e w5 ⟨zv, s, rfl, hzv, hsk, hc5, he5⟩
  have HRK := Lib.hid hrk
  have HSK := Lib.hid hsk
  have HT5 := Lib.hid ((HT.out.ex he4 (fun k hk => by omega)).ex he5 (fun k hk => by omega))
  have hG5 : Gr w w5 := Ex.gr hG2 hbw ((he3.trans he4).trans he5)
  have HFW := Lib.hid (HOK.out.few (by omega))
  have hrv5 := hrv.ex he5 (fun k hk => by omega)
  obtain ⟨nr, rfl, hro, hrn⟩ := hrv5
  obtain ⟨ns, rfl, hso, hsn⟩ := hzv
  obtain ⟨ar, cr, rfl⟩ := hrn.form
  obtain ⟨az, cz, rfl⟩ := hsn.form
  have HRN := Lib.hid hrn
  have HRO := Lib.hid hro
  have HSN := Lib.hid hsn
  have HSO := Lib.hid hso
  have hrl6 := hrk.2.2.2.2
  have hsl6 := hsk.2.2.2.2
  clear hrk hsk hc hc3 hc4 hc5 he3 he4 he5 HT hrn hro hsn hso hrv
  generalize hrlen : r.nx.length = rl at *
  generalize hslen : s.nx.length = sl at *
  have HRL := Lib.hid hrlen
  have HSL := Lib.hid hslen
  clear hrlen hslen
  dsimp only [rtv]
  go_wp2_with fail
  have k5 : CL ((w5.alloc (.cells #[.int .u32 r.a, .int .i64 r.n, .slice ar rl cr, .int .i64 r.bal] 34)).alloc (.cells #[.int .u32 s.a, .int .i64 s.n, .slice az sl cz, .int .i64 s.bal] 34)) w5.heap.size [.int .u32 r.a, .int .i64 r.n, .slice ar rl cr, .int .i64 r.bal] := (CL.new _ _ _ _ rfl).gr ((Gr.refl _).alloc _)
  have k6 : CL ((w5.alloc (.cells #[.int .u32 r.a, .int .i64 r.n, .slice ar rl cr, .int .i64 r.bal] 34)).alloc (.cells #[.int .u32 s.a, .int .i64 s.n, .slice az sl cz, .int .i64 s.bal] 34)) (w5.heap.size + 1) [.int .u32 s.a, .int .i64 s.n, .slice az sl cz, .int .i64 s.bal] := CL.new _ _ _ _ (by simp)
  have g6 : Gr w5 ((w5.alloc (.cells #[.int .u32 r.a, .int .i64 r.n, .slice ar rl cr, .int .i64 r.bal] 34)).alloc (.cells #[.int .u32 s.a, .int .i64 s.n, .slice az sl cz, .int .i64 s.bal] 34)) := ((Gr.refl _).alloc _).alloc _
  generalize ((w5.alloc (.cells #[.int .u32 r.a, .int .i64 r.n, .slice ar rl cr, .int .i64 r.bal] 34)).alloc (.cells #[.int .u32 s.a, .int .i64 s.n, .slice az sl cz, .int .i64 s.bal] 34)) = w6 at *
  have KR := Lib.hid k5
  have KS := Lib.hid k6
  have HT6 := Lib.hid (HT5.out.gr g6)
  have HRN6 := Lib.hid (HRN.out.gr g6)
  have HSN6 := Lib.hid (HSN.out.gr g6)
  have hG6 := hG5.step g6
  clear k5 k6 HT5 HRN HSN g6
  have hS : Gr w6 w6.drew := Gr.drew (Gr.refl _)
  refine region_plain (Gr w6) (by kernel_rfl) ?_
  refine take_at 0 (some 24) (v := ?va0) rfl rfl (by kernel_rfl) (by kernel_rfl) (by kernel_rfl) (by rfl) ?ya0 hS ?ta0
  case ya0 =>
    intro w' hSw
    skip
    go_simp
    (try rw [if_pos (by omega)])
    (try with_reducible rfl)
  simp only [Act.put, List.setIfInBounds_toArray, List.set_cons_zero, List.set_cons_succ]
  refine take_at 1 (some 25) (v := ?va1) rfl rfl (by kernel_rfl) (by kernel_rfl) (by kernel_rfl) (by rfl) ?ya1 hS ?ta1
  case ya1 =>
    intro w' hSw
    obtain ⟨⟨a0, a1, a2, a3⟩, -⟩ := (KR.out.gr hSw).four
    go_simp
    (try rw [if_pos (by omega)])
    (try with_reducible rfl)
  simp only [Act.put, List.setIfInBounds_toArray, List.set_cons_zero, List.set_cons_succ]
  refine take_at 3 (some 27) (v := ?va3) rfl rfl (by kernel_rfl) (by kernel_rfl) (by kernel_rfl) (by rfl) ?ya3 hS ?ta3
  case ya3 =>
    intro w' hSw
    obtain ⟨⟨a0, a1, a2, a3⟩, -⟩ := (KS.out.gr hSw).four
    go_simp
    (try rw [if_pos (by omega)])
    (try with_reducible rfl)
  simp only [Act.put, List.setIfInBounds_toArray, List.set_cons_zero, List.set_cons_succ]
  refine next_at 2 rfl (by kernel_rfl) (by rfl) (fun K hK => ?_)
  go_simp
  refine (sput _ l _ r _ (HT6.out.gr hS) HP.out HFW.out HOK.out.1 ⟨_, rfl, HRO.out, HRN6.out.gr hS⟩ (by rw [HRL.out]; omega)).mono ?_
  rintro e w6a ⟨p1, rfl, ho1, hg1⟩
  have hS1 := hS.step hg1
  have HO1 := Lib.hid ho1
  refine hK _ _ hS1 ?_
  clear hK K ho1
  refine next_at 4 rfl (by kernel_rfl) (by rfl) (fun K hK => ?_)
  go_simp
  have HOKP := Lib.hid (HOK.out.put HRK.out)
  refine (sput _ (putP r l) _ s _ HO1.out.tb HO1.out.pln (HOKP.out.few (by have := put_len r l; omega)) HOKP.out.1 ⟨_, rfl, HSO.out, HSN6.out.gr hS1⟩ (by rw [HSL.out]; omega)).mono ?_
  rintro e w6b ⟨xv, rfl, ho2, hg2⟩
  have hS2 := hS1.step hg2
  have Hxv := Lib.hid (ho2.tb.imp (q := fun _ => True) fun _ _ _ => trivial)
  have HPxv := Lib.hid ho2.pln
  refine hK _ _ hS2 ?_
  clear hK K ho2 HO1 HOKP
  refine next_at 5 rfl (by kernel_rfl) (by rfl) (fun K hK => ?_)
  go_simp
  refine hK _ _ hS2 ?_
  clear hK K
  refine wpAnyH_done (by kernel_rfl) ?_ _
  refine qz_normal ?_
  have gq : Gr w6 w6b := hS2
  have hG7 := hG6.step gq
  have KR7 := Lib.hid (KR.out.gr gq)
  have KS7 := Lib.hid (KS.out.gr gq)
  have HT7 := Lib.hid (HT6.out.gr gq)
  have HRN7 := Lib.hid (HRN6.out.gr gq)
  have HSN7 := Lib.hid (HSN6.out.gr gq)
  clear KR KS HT6 HRN6 HSN6 hS hS1 hS2 hg1 hg2
  go_wp2_with fail
  have hS : Gr w6b w6b.drew := Gr.drew (Gr.refl _)
  refine region_plain (Gr w6b) (by kernel_rfl) ?_
  refine take_at 0 (some 29) (v := ?vb0) rfl rfl (by kernel_rfl) (by kernel_rfl) (by kernel_rfl) (by rfl) ?yb0 hS ?tb0
  case yb0 =>
    intro w' hSw
    skip
    go_simp
    (try rw [if_pos (by omega)])
    (try with_reducible rfl)
  simp only [Act.put, List.setIfInBounds_toArray, List.set_cons_zero, List.set_cons_succ]
  refine take_at 1 (some 30) (v := ?vb1) rfl rfl (by kernel_rfl) (by kernel_rfl) (by kernel_rfl) (by rfl) ?yb1 hS ?tb1
  case yb1 =>
    intro w' hSw
    obtain ⟨⟨a0, a1, a2, a3⟩, -⟩ := (KS7.out.gr hSw).four
    go_simp
    (try rw [if_pos (by omega)])
    (try with_reducible rfl)
  simp only [Act.put, List.setIfInBounds_toArray, List.set_cons_zero, List.set_cons_succ]
  refine take_at 3 (some 32) (v := ?vb3) rfl rfl (by kernel_rfl) (by kernel_rfl) (by kernel_rfl) (by rfl) ?yb3 hS ?tb3
  case yb3 =>
    intro w' hSw
    obtain ⟨⟨a0, a1, a2, a3⟩, -⟩ := (KR7.out.gr hSw).four
    go_simp
    (try rw [if_pos (by omega)])
    (try with_reducible rfl)
  simp only [Act.put, List.setIfInBounds_toArray, List.set_cons_zero, List.set_cons_succ]
  refine next_at 2 rfl (by kernel_rfl) (by rfl) (fun K hK => ?_)
  go_simp
  refine (sput _ l _ s _ (HT7.out.gr hS) HP.out HFW.out HOK.out.1 ⟨_, rfl, HSO.out, HSN7.out.gr hS⟩ (by rw [HSL.out]; omega)).mono ?_
  rintro e w6ba ⟨p2, rfl, ho1, hg1⟩
  have hS1 := hS.step hg1
  have HO1 := Lib.hid ho1
  refine hK _ _ hS1 ?_
  clear hK K ho1
  refine next_at 4 rfl (by kernel_rfl) (by rfl) (fun K hK => ?_)
  go_simp
  have HOKP := Lib.hid (HOK.out.put HSK.out)
  refine (sput _ (putP s l) _ r _ HO1.out.tb HO1.out.pln (HOKP.out.few (by have := put_len s l; omega)) HOKP.out.1 ⟨_, rfl, HRO.out, HRN7.out.gr hS1⟩ (by rw [HRL.out]; omega)).mono ?_
  rintro e w6bb ⟨yv, rfl, ho2, hg2⟩
  have hS2 := hS1.step hg2
  have Hyv := Lib.hid (ho2.tb.imp (q := fun _ => True) fun _ _ _ => trivial)
  have HPyv := Lib.hid ho2.pln
  refine hK _ _ hS2 ?_
  clear hK K ho2 HO1 HOKP
  refine next_at 5 rfl (by kernel_rfl) (by rfl) (fun K hK => ?_)
  go_simp
  refine hK _ _ hS2 ?_
  clear hK K
  refine wpAnyH_done (by kernel_rfl) ?_ _
  refine qz_normal ?_
  have gq2 : Gr w6b w6bb := hS2
  have hG8 := hG7.step gq2
  have KR8 := Lib.hid (KR7.out.gr gq2)
  have KS8 := Lib.hid (KS7.out.gr gq2)
  have HX8 := Lib.hid (Hxv.out.gr gq2)
  have HSN8 := Lib.hid (HSN7.out.gr gq2)
  clear KR7 KS7 HT7 HRN7 HSN7 hS hS1 hS2 hg1 hg2 Hxv
  go_wp2_with fail
  have hsx := ri_six w6bb
  have g9 : Gr w6bb (w6bb.alloc (.cells #[.int .i64 0, .int .i64 1, .int .i64 2, .int .i64 3, .int .i64 4, .int .i64 5] 3)) := (Gr.refl _).alloc _
  generalize (w6bb.alloc (.cells #[.int .i64 0, .int .i64 1, .int .i64 2, .int .i64 3, .int .i64 4, .int .i64 5] 3)) = w9 at *
  have HSX := Lib.hid hsx
  have hG9 := hG8.step g9
  have KR9 := Lib.hid (KR8.out.gr g9)
  have KS9 := Lib.hid (KS8.out.gr g9)
  have HX9 := Lib.hid (HX8.out.gr g9)
  have HY9 := Lib.hid (Hyv.out.gr g9)
  have HSN9 := Lib.hid (HSN8.out.gr g9)
  have HKX := Lib.hid ((HOK.out.put HRK.out).put HSK.out)
  have HKY := Lib.hid ((HOK.out.put HSK.out).put HRK.out)
  have hlX : (putP s (putP r l)).length ≤ 10 := by have := put_len s (putP r l); have := put_len r l; omega
  have hlY : (putP r (putP s l)).length ≤ 10 := by have := put_len r (putP s l); have := put_len s l; omega
  clear hsx KR8 KS8 HX8 Hyv HSN8 g9
  refine (check_any _ _ (putP s (putP r l)) six w9 HX9.out HSX.out (by decide)).mono ?_
  rintro e w10 ⟨c1, rfl, hc1, hg10⟩
  obtain rfl := chk_one hc1 (chk_ok HKX.out (by omega))
  have hG10 := hG9.step hg10
  clear hc1
  go_wp2_with fail
  refine (check_any _ _ (putP r (putP s l)) six w10 (HY9.out.gr hg10) (HSX.out.gr hg10) (by decide)).mono ?_
  rintro e w11 ⟨c2, rfl, hc2, hg11⟩
  obtain rfl := chk_one hc2 (chk_ok HKY.out (by omega))
  have hG11 := hG10.step hg11
  have g911 := hg10.step hg11
  obtain ⟨⟨a0, a1, a2, a3⟩, -⟩ := (KR9.out.gr g911).four
  obtain ⟨⟨b0, b1, b2, b3⟩, -⟩ := (KS9.out.gr g911).four
  have hne := fun w => ne_pref w r.a r.n s.a s.n
  have hgd := guard_pref
  clear hc2
  generalize hq : (r.a == s.a && r.n == s.n) = q at hne
  have HQ := Lib.hid hq
  clear hq
  cases q
  · have hsw : putP r (putP s l) = putP s (putP r l) := (put_swap HOK.out.1 (fun e => by
      have := cmr_zero.1 e
      have h := HQ.out
      rw [this.1, this.2] at h; simp at h)).symm
    have HSW := Lib.hid hsw
    clear hsw
    go_wp2_with fail
    refine (same_any _ _ (putP s (putP r l)) (putP r (putP s l)) w11 (HX9.out.gr g911) (HY9.out.gr g911) (HKX.out.few (by omega))).mono ?_
    rintro e w12 ⟨rfl, hg12⟩
    rw [HSW.out, sameL_refl]
    have g912 := g911.step hg12
    have hG12 := hG11.step hg12
    clear a0 a1 a2 a3 b0 b1 b2 b3
    obtain ⟨⟨b0, b1, b2, b3⟩, -⟩ := (KS9.out.gr g912).four
    go_wp2_with fail
    refine (rbounds_yes s.a s.n w12 HSO.out.1 HSO.out.2 HSK.out.1).mono ?_
    rintro e w13 ⟨rfl, hg13⟩
    have g913 := g912.step hg13
    have hG13 := hG12.step hg13
    go_wp2_with fail
    have g14 : Gr w13 (w13.alloc (.cells #[.int .u32 s.a, .int .u32 (s.a + (sz s.n - 1))] 53)) := (Gr.refl _).alloc _
    generalize w13.alloc (.cells #[.int .u32 s.a, .int .u32 (s.a + (sz s.n - 1))] 53) = w14 at *
    refine (slook _ (putP s (putP r l)) s.a w14 (HX9.out.gr (g913.step g14)) (HKX.out.few (by omega)) HKX.out.1 HSO.out.1 HSO.out.2).mono ?_
    rintro e w15 ⟨v, rfl, hrv, hg15⟩
    have g915 := (g913.step g14).step hg15
    have hG15 := (hG13.step g14).step hg15
    have hbest := best_ref (putP s (putP r l)) s.a
    have hsm : s ∈ putP s (putP r l) := mem_putP.2 (.inl rfl)
    have hsc := ctn_self HSK.out.1
    obtain ⟨z, hz⟩ : ∃ z, lookR (putP s (putP r l)) s.a = some z := by
      cases ho : lookR (putP s (putP r l)) s.a with
      | none =>
        rw [ho] at hbest
        have hb : ∀ y ∈ putP s (putP r l), ctn y.a y.n s.a = false := hbest
        have := hb s hsm
        rw [hsc] at this; cases this
      | some z => exact ⟨z, rfl⟩
    rw [hz] at hrv hbest ⊢
    obtain ⟨hzm, hzc, hzl⟩ := hbest
    have hzn := hzl s hsm hsc
    have hone : cmr z s = 0 → z = s := asc_one HKX.out.1 hzm hsm
    have HONE := Lib.hid hone
    obtain ⟨nz, rfl, hzo, hzr⟩ := hrv
    dsimp only [Option.getD_some] at hzo hzr
    obtain ⟨zd, zp, rfl⟩ := hzr.form
    have HZR := Lib.hid hzr
    have HZO := Lib.hid hzo
    clear hzm hzc hzl hone hzr hzo hz hsm hsc hne
    simp only [Option.isSome_some, Option.getD_some, rtv]
    generalize hzlen : z.nx.length = zl at *
    have HZL := Lib.hid hzlen
    clear hzlen
    have hd : decide (z.n ≥ s.n) = true := decide_eq_true hzn
    have hne2 := fun w => ne_pref w z.a z.n s.a s.n
    generalize hq2 : (z.a == s.a && z.n == s.n) = q2 at hne2
    have HQ2 := Lib.hid hq2
    have g16 : Gr w15 (w15.alloc (.cells #[.int .u32 z.a, .int .i64 z.n, .slice zd zl zp, .int .i64 z.bal] 34)) := (Gr.refl _).alloc _
    clear hq2 b0 b1 b2 b3
    obtain ⟨⟨b0, b1, b2, b3⟩, -⟩ := (KS9.out.gr (g915.step g16)).four
    cases q2
    · go_wp2_with fail
      go_ret
      exact ⟨rfl, hG15.step g16⟩
    · have hzs : z = s := HONE.out (cmr_zero.2 (by have h := HQ2.out; simp only [Bool.and_eq_true, beq_iff_eq] at h; exact h))
      have HZS := Lib.hid hzs
      clear hzs
      go_wp2_with fail
      refine (sameR_any _ _ z s _ ⟨_, rfl, HZO.out, HZR.out.gr g16⟩ ⟨_, rfl, HSO.out, HSN9.out.gr (g915.step g16)⟩ (by rw [HZS.out, HSL.out]; omega)).mono ?_
      rintro e w17 ⟨rfl, hg17⟩
      rw [HZS.out, sameR_refl]
      go_wp2_with fail
      go_ret
      exact ⟨rfl, (hG15.step g16).step hg17⟩
  · skip
    go_wp2_with fail
    refine (rbounds_yes s.a s.n w11 HSO.out.1 HSO.out.2 HSK.out.1).mono ?_
    rintro e w13 ⟨rfl, hg13⟩
    have g913 := g911.step hg13
    have hG13 := hG11.step hg13
    go_wp2_with fail
    have g14 : Gr w13 (w13.alloc (.cells #[.int .u32 s.a, .int .u32 (s.a + (sz s.n - 1))] 53)) := (Gr.refl _).alloc _
    generalize w13.alloc (.cells #[.int .u32 s.a, .int .u32 (s.a + (sz s.n - 1))] 53) = w14 at *
    refine (slook _ (putP s (putP r l)) s.a w14 (HX9.out.gr (g913.step g14)) (HKX.out.few (by omega)) HKX.out.1 HSO.out.1 HSO.out.2).mono ?_
    rintro e w15 ⟨v, rfl, hrv, hg15⟩
    have g915 := (g913.step g14).step hg15
    have hG15 := (hG13.step g14).step hg15
    have hbest := best_ref (putP s (putP r l)) s.a
    have hsm : s ∈ putP s (putP r l) := mem_putP.2 (.inl rfl)
    have hsc := ctn_self HSK.out.1
    obtain ⟨z, hz⟩ : ∃ z, lookR (putP s (putP r l)) s.a = some z := by
      cases ho : lookR (putP s (putP r l)) s.a with
      | none =>
        rw [ho] at hbest
        have hb : ∀ y ∈ putP s (putP r l), ctn y.a y.n s.a = false := hbest
        have := hb s hsm
        rw [hsc] at this; cases this
      | some z => exact ⟨z, rfl⟩
    rw [hz] at hrv hbest ⊢
    obtain ⟨hzm, hzc, hzl⟩ := hbest
    have hzn := hzl s hsm hsc
    have hone : cmr z s = 0 → z = s := asc_one HKX.out.1 hzm hsm
    have HONE := Lib.hid hone
    obtain ⟨nz, rfl, hzo, hzr⟩ := hrv
    dsimp only [Option.getD_some] at hzo hzr
    obtain ⟨zd, zp, rfl⟩ := hzr.form
    have HZR := Lib.hid hzr
    have HZO := Lib.hid hzo
    clear hzm hzc hzl hone hzr hzo hz hsm hsc hne
    simp only [Option.isSome_some, Option.getD_some, rtv]
    generalize hzlen : z.nx.length = zl at *
    have HZL := Lib.hid hzlen
    clear hzlen
    have hd : decide (z.n ≥ s.n) = true := decide_eq_true hzn
    have hne2 := fun w => ne_pref w z.a z.n s.a s.n
    generalize hq2 : (z.a == s.a && z.n == s.n) = q2 at hne2
    have HQ2 := Lib.hid hq2
    have g16 : Gr w15 (w15.alloc (.cells #[.int .u32 z.a, .int .i64 z.n, .slice zd zl zp, .int .i64 z.bal] 34)) := (Gr.refl _).alloc _
    clear hq2 b0 b1 b2 b3
    obtain ⟨⟨b0, b1, b2, b3⟩, -⟩ := (KS9.out.gr (g915.step g16)).four
    cases q2
    · go_wp2_with fail
      go_ret
      exact ⟨rfl, hG15.step g16⟩
    · have hzs : z = s := HONE.out (cmr_zero.2 (by have h := HQ2.out; simp only [Bool.and_eq_true, beq_iff_eq] at h; exact h))
      have HZS := Lib.hid hzs
      clear hzs
      go_wp2_with fail
      refine (sameR_any _ _ z s _ ⟨_, rfl, HZO.out, HZR.out.gr g16⟩ ⟨_, rfl, HSO.out, HSN9.out.gr (g915.step g16)⟩ (by rw [HZS.out, HSL.out]; omega)).mono ?_
      rintro e w17 ⟨rfl, hg17⟩
      rw [HZS.out, sameR_refl]
      go_wp2_with fail
      go_ret
      exact ⟨rfl, (hG15.step g16).step hg17⟩
end Go.Proofs.Ytefocmcpeigfcaa
