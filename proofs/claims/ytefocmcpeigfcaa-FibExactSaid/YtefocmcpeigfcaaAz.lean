/- The walk of FibExact. -/
import Derived.Test.YtefocmcpeigfcaaAy
import Derived.Test.YtefocmcpeigfcaaAx
import Derived.WalkKit
import Derived.WalkSpells
import Derived.WalkLawsBesides
import Derived.WalkSmall
import Derived.Handy
import Derived.BigQuiet
import Derived.Deep.QuietTactic
import Derived.Deep.RegionHeld3
import Derived.Deep.DeepFit
import Derived.Below
import Derived.Lib.Hide
import Derived.Lib.QuietBelow
import Derived.Deep.DeepCutAuto
namespace Go.Proofs.Ytefocmcpeigfcaa
open Go Go.RowKit Go.Sort
set_option maxRecDepth 100000
set_option linter.unusedVariables false
set_option linter.unusedSimpArgs false
theorem six_ge (w : World) : Ri (fun k => w.heap.size ≤ k) (w.alloc (.cells #[.int .i64 0, .int .i64 1, .int .i64 2, .int .i64 3, .int .i64 4, .int .i64 5] 3)) (.slice (some ⟨w.heap.size, 0, none⟩) 6 6) six := by
  refine ⟨_, 6, rfl, by decide, by omega, (fun h => by cases h), fun i hi => ⟨w.heap.size, 0, rfl, Nat.le_refl _, ?_⟩⟩
  obtain ⟨a', cap', e, -, -, -, H⟩ := ri_six w
  obtain ⟨b, off, e2, -, hc⟩ := H i hi
  cases e; cases e2
  exact hc
theorem ri_two (w : World) (x y : Int) : Ri (fun k => w.heap.size ≤ k) (w.alloc (.cells #[.int .i64 x, .int .i64 y] 3)) (.slice (some ⟨w.heap.size, 0, none⟩) 2 2) [x, y] := by
  refine ⟨_, 2, rfl, Nat.le_refl _, by omega, (fun h => by cases h), fun i hi => ⟨w.heap.size, 0, rfl, Nat.le_refl _, ?_⟩⟩
  have hk : CL (w.alloc (.cells #[.int .i64 x, .int .i64 y] 3)) w.heap.size [.int .i64 x, .int .i64 y] := CL.new _ _ _ _ rfl
  rw [Nat.zero_add]
  have hi2 : i < 2 := hi
  have : i = 0 ∨ i = 1 := by omega
  rcases this with rfl | rfl
  · exact (hk.at' 0 _ rfl).1
  · exact (hk.at' 1 _ rfl).1
theorem look_few {l : List Rt} (h : Few l) (y : Int) : ((lookR l y).getD zeroR).nx.length ≤ 1000 := by
  have hb := best_ref l y
  cases ho : lookR l y with
  | none => simp [zeroR]
  | some r => rw [ho] at hb; exact h.2 r hb.1
theorem OwT.ex {base b : Nat} {w w' : World} {v : Value} {l : List Rt} (h : OwT base w v l) (g : Ex b w w') (hb : b < base) : OwT base w' v l := by
  obtain ⟨ys, e, ho, hy⟩ := h
  refine ⟨ys, e, ho.kept (Ex.grownBy g) (.inr fun e => ?_), fun y hm => ⟨(hy y hm).1, (hy y hm).2.ex g fun k hk => by omega⟩⟩
  have := (ho.lt b e).1
  omega
theorem OwT.cell2 {base g n cap : Nat} {w : World} {l : List Rt} (h : OwT base w (.slice (some ⟨g, 0, none⟩) n cap) l) {i : Nat} (hi : i < l.length) : (∃ u, w.cell? ⟨g, i * 4 + 2, none⟩ = some u) ∧ w.frozen? ⟨g, i * 4 + 2, none⟩ = false := by
  obtain ⟨ys, rfl, ho, hy⟩ := h
  rw [List.length_map] at hi
  have hn : n = ys.length := by
    rcases ho.2 with ⟨e, _⟩ | ⟨g', cap', cur, e, _⟩
    · cases e
    · cases e; rfl
  subst hn
  have hy : ys[i]? = some ys[i] := List.getElem?_eq_getElem hi
  exact ⟨⟨_, (ho.cellAt (i * 4 + 2) (by omega)).trans (rcl_at ys i _ hy 2 (by omega))⟩, ho.frozenAt _⟩
set_option maxHeartbeats 1000000 in
theorem exact_walk (sv lv kv : Value) (len : Nat) (raw : List Rt) (ks : List Int) (a pa pn : Int) (w : World) (hl : len ≤ 9223372036854775807) (hb : BytesV w.heap.size w sv len)
    (hr : Tb (fun k => k < w.heap.size) w lv raw) (hk : Ri (fun k => k < w.heap.size) w kv ks) (ha0 : 0 ≤ a) (ha1 : a < 4294967296) :
    Calls Try.prog 3 #[sv, lv, kv, .int .u32 a, .agg #[.int .u32 pa, .int .i64 pn]] w fun e w' => e = .returned (.bool true) ∧ Gr w w' := by
  have HB := Lib.hid hb
  have HRW := Lib.hid hr
  have HKS := Lib.hid hk
  obtain ⟨la, lc, rfl, -, -⟩ := hr.form
  obtain ⟨ka, kc, rfl⟩ := hk.form
  clear hb hr hk
  generalize hrl : raw.length = rl at *
  generalize hkl : ks.length = kl at *
  have HRL := Lib.hid hrl
  have HKL := Lib.hid hkl
  clear hrl hkl
  go_enter Try.func3, Try.ntmps3
  go_wp2_with fail
  have gp : Gr w (w.alloc (.cells #[.int .u32 pa, .int .i64 pn] 28)) := (Gr.refl _).alloc _
  have kp : CL (w.alloc (.cells #[.int .u32 pa, .int .i64 pn] 28)) w.heap.size [.int .u32 pa, .int .i64 pn] := CL.new _ _ _ _ rfl
  generalize w.alloc (.cells #[.int .u32 pa, .int .i64 pn] 28) = w0 at *
  refine (awake_any _).mono ?_
  rintro e w1 ⟨rfl, hg⟩
  have hG1 := gp.step hg
  have KP1 := Lib.hid (kp.gr hg)
  clear gp kp hg
  by_cases h100 : (rl : Int) > 100
  · go_wp2_with fail
    go_ret
    exact ⟨rfl, hG1⟩
  by_cases k100 : (kl : Int) > 100
  · go_wp2_with fail
    go_ret
    exact ⟨rfl, hG1⟩
  go_wp2_with fail
  refine (new_any sv len 200 _ (by omega) hl (HB.out.gr hG1)).mono ?_
  rintro e w2 ⟨b, rfl, hbe, hc, hg2⟩
  have hbw : w.heap.size ≤ b := by have := Gr.size hG1; omega
  have hG2 := hG1.step hg2
  have hs2 : w.heap.size ≤ w2.heap.size := Gr.size hG2
  have hblt := hc.lt
  have hpb : w.heap.size < b := by have := KP1.out.lt; omega
  have KP2 := Lib.hid (KP1.out.gr hg2)
  clear hbe hg2 HB hl KP1 hG1
  go_wp2_with fail
  refine (table_any b _ hc hs2).mono ?_
  rintro e w3 ⟨tv, l, rfl, hT, hP, hok, hl8, hc3, he3⟩
  obtain ⟨ta, tc, rfl, -, -⟩ := hT.form
  have HT := Lib.hid hT
  have HP := Lib.hid hP
  have HOK := Lib.hid hok
  have hs3 := he3.size
  clear hT hP hok
  go_wp2_with fail
  refine (route_any b _ hc3 (by omega)).mono ?_
  rintro e w4 ⟨rv, r, rfl, hrv, hrk, hc4, he4⟩
  have hs4 := he4.size
  have HRK := Lib.hid hrk
  have HT4 := Lib.hid (HT.out.ex he4 (fun k hk => by omega))
  have HFW := Lib.hid (HOK.out.few (by omega))
  have hE4 := he3.trans he4
  have HC4 := Lib.hid hc4
  obtain ⟨nr, rfl, hro, hrn⟩ := hrv
  obtain ⟨ar, cr, rfl⟩ := hrn.form
  have HRN := Lib.hid hrn
  have HRO := Lib.hid hro
  have hr6 := hrk.2.2.2.2
  clear hrk hc hc3 hc4 he3 he4 HT hrn hro
  generalize hrlen : r.nx.length = rn at *
  have HRLN := Lib.hid hrlen
  clear hrlen
  dsimp only [rtv]
  go_wp2_with fail
  have k5 : CL ((w4.alloc (.cells #[.int .u32 r.a, .int .i64 r.n, .slice ar rn cr, .int .i64 r.bal] 34)).alloc (.cells #[.int .i64 0, .int .i64 1, .int .i64 2, .int .i64 3, .int .i64 4, .int .i64 5] 3)) w4.heap.size [.int .u32 r.a, .int .i64 r.n, .slice ar rn cr, .int .i64 r.bal] := (CL.new _ _ _ _ rfl).gr ((Gr.refl _).alloc _)
  have hsx := six_ge (w4.alloc (.cells #[.int .u32 r.a, .int .i64 r.n, .slice ar rn cr, .int .i64 r.bal] 34))
  rw [World.size_alloc] at hsx
  have g6 : Gr w4 ((w4.alloc (.cells #[.int .u32 r.a, .int .i64 r.n, .slice ar rn cr, .int .i64 r.bal] 34)).alloc (.cells #[.int .i64 0, .int .i64 1, .int .i64 2, .int .i64 3, .int .i64 4, .int .i64 5] 3)) := ((Gr.refl _).alloc _).alloc _
  generalize ((w4.alloc (.cells #[.int .u32 r.a, .int .i64 r.n, .slice ar rn cr, .int .i64 r.bal] 34)).alloc (.cells #[.int .i64 0, .int .i64 1, .int .i64 2, .int .i64 3, .int .i64 4, .int .i64 5] 3)) = w6 at *
  have KR := Lib.hid k5
  have HSX := Lib.hid hsx
  have HT6 := Lib.hid (HT4.out.gr g6)
  have HRN6 := Lib.hid ((HRN.out.imp (q := fun k => w2.heap.size ≤ k ∧ k < w4.heap.size) fun k h1 h2 => ⟨by omega, h1⟩).gr g6)
  have KP6 := Lib.hid ((KP2.out.ex hE4 (by omega)).gr g6)
  have HC6 := Lib.hid (HC4.out.gr g6)
  have hE6 := hE4.trans (Ex.ofGr g6)
  have hs6 : w4.heap.size + 1 < w6.heap.size := by
    obtain ⟨_, _, e, _, _, _, H⟩ := HSX.out
    obtain ⟨b', off', e', -, hcell⟩ := H 0 (by decide)
    cases e; cases e'
    exact World.block_lt_of_cell? _ _ hcell
  clear k5 hsx HT4 HRN KP2 HC4 hE4 g6
  refine region_cut3v ?aF (fun z W' => Gr w6 W' ∧ OwT w2.heap.size W' z (l ++ [r]) ∧ ∀ k, z.ownBlock = some k → w6.heap.size ≤ k) ?h ?k
  case h =>
    have hS : Gr w6 w6.drew := Gr.drew (Gr.refl _)
    refine region_plain (Gr w6) (by kernel_rfl) ?_
    refine take_at 0 (some 51) (v := ?va0) rfl rfl (by kernel_rfl) (by kernel_rfl) (by kernel_rfl) (by rfl) ?ya0 hS ?ta0
    case ya0 =>
      intro w' hSw
      skip
      go_simp
      (try rw [if_pos (by omega)])
      (try with_reducible rfl)
    simp only [Act.put, List.setIfInBounds_toArray, List.set_cons_zero, List.set_cons_succ]
    refine take_at 2 (some 53) (v := ?va2) rfl rfl (by kernel_rfl) (by kernel_rfl) (by kernel_rfl) (by rfl) ?ya2 hS ?ta2
    case ya2 =>
      intro w' hSw
      obtain ⟨⟨a0, a1, a2, a3⟩, -⟩ := (KR.out.gr hSw).four
      go_simp
      (try rw [if_pos (by omega)])
      (try with_reducible rfl)
    simp only [Act.put, List.setIfInBounds_toArray, List.set_cons_zero, List.set_cons_succ]
    refine next_two 1 3 rfl rfl (by kernel_rfl) (by rfl) (by rfl) (fun K hK => ?o1) (fun K hK => ?o3)
    case o1 =>
      refine oper_addT (base := w2.heap.size) (.const (.slice none 0 0)) (.tmp 51) rfl rfl (OwT.nil _ _) rfl (HT6.out.gr hS) (fun b hb => ⟨hb, fun e => by cases e⟩) (by simp; omega) (by have := Gr.size hS; omega) ?_
      intro va wa hoa ga h5
      rw [List.nil_append] at hoa
      have hSa := hS.grown ga (fun k hk => by cases hk)
      have h5' : ∀ k, va.ownBlock = some k → k = w6.heap.size := fun k hk => by
        rcases h5 with h | h
        · rw [h] at hk; cases hk
        · rw [h] at hk; cases hk; rfl
      have H5 := Lib.hid h5'
      clear h5 h5'
      have HOA := Lib.hid hoa
      have hsa := Gr.size hSa
      refine hK _ _ hSa ?_
      clear hK K ga
      simp only [Act.put, List.setIfInBounds_toArray, List.set_cons_zero, List.set_cons_succ]
      refine next_at 3 rfl (by kernel_rfl) (by rfl) (fun K hK => ?_)
      go_simp
      have HO1 : Tb (fun k => w2.heap.size ≤ k ∧ va.ownBlock ≠ some k) (wa.alloc (.cells #[.int .u32 r.a, .int .i64 r.n, .slice ar rn cr, .int .i64 r.bal] 34)) (.slice (some ⟨wa.heap.size, 0, none⟩) 1 1) [r] :=
        Tb.one (rc_new wa r (.slice ar rn cr) 34) ⟨by omega, fun e => by have := (hoa.lt _ e).2; omega⟩ HRO.out ((HRN6.out.gr (hSa.alloc _)).imp fun k _ hk => ⟨hk.1, fun e => by have := H5.out k e; have := hk.2; omega⟩)
      have HOA2 := Lib.hid (hoa.gr ((Gr.refl _).alloc (.cells #[.int .u32 r.a, .int .i64 r.n, .slice ar rn cr, .int .i64 r.bal] 34)))
      have hS3 := hSa.alloc (.cells #[.int .u32 r.a, .int .i64 r.n, .slice ar rn cr, .int .i64 r.bal] 34)
      refine hK _ _ hS3 ?_
      clear hK K hoa
      generalize wa.alloc (.cells #[.int .u32 r.a, .int .i64 r.n, .slice ar rn cr, .int .i64 r.bal] 34) = wc at *
      generalize Value.slice (some ⟨wa.heap.size, 0, none⟩) 1 1 = x54 at *
      refine next_at 4 rfl (by kernel_rfl) (by rfl) (fun K hK => ?_)
      refine oper_addT (base := w2.heap.size) (.tmp 52) (.tmp 54) rfl rfl HOA2.out rfl HO1 (fun b hb => hb) (by simp; omega) (by have := Gr.size hS3; omega) ?_
      intro vz wz hoz gz h5z
      have hown : ∀ k, vz.ownBlock = some k → w6.heap.size ≤ k := fun k hk => by
        rcases h5z with h | h
        · rw [h] at hk; have := H5.out k hk; omega
        · rw [h] at hk; cases hk; exact Gr.size hS3
      have HOWN := Lib.hid hown
      clear h5z hown
      have hSz := hS3.grown gz (fun k hk => by have := H5.out k hk; omega)
      refine hK _ _ hSz ?_
      clear hK K gz
      simp only [Act.put, List.setIfInBounds_toArray, List.set_cons_zero, List.set_cons_succ]
      refine next_at 5 rfl (by kernel_rfl) (by rfl) (fun K hK => ?_)
      go_simp
      refine hK _ _ hSz ?_
      clear hK K
      refine wpAnyH_done (by kernel_rfl) ?_ _
      refine qz_normal ?_
      exact ⟨rfl, va, x54, vz, by with_reducible rfl, hSz, hoz, HOWN.out⟩
    case o3 =>
      go_simp
      have hS1 := hS.alloc (.cells #[.int .u32 r.a, .int .i64 r.n, .slice ar rn cr, .int .i64 r.bal] 34)
      have hsb := Gr.size hS1
      have HO0 : Tb (fun k => w2.heap.size ≤ k ∧ k ≤ w6.heap.size) (w6.alloc (.cells #[.int .u32 r.a, .int .i64 r.n, .slice ar rn cr, .int .i64 r.bal] 34)) (.slice (some ⟨w6.heap.size, 0, none⟩) 1 1) [r] :=
        Tb.one (rc_new w6 r (.slice ar rn cr) 34) ⟨by omega, by omega⟩ HRO.out ((HRN6.out.gr ((Gr.refl _).alloc _)).imp fun k _ hk => ⟨hk.1, by have := hk.2; omega⟩)
      have HO1 : Tb (fun k => w2.heap.size ≤ k ∧ k ≤ w6.heap.size) (w6.alloc (.cells #[.int .u32 r.a, .int .i64 r.n, .slice ar rn cr, .int .i64 r.bal] 34)).drew (.slice (some ⟨w6.heap.size, 0, none⟩) 1 1) [r] := HO0
      have HOA0 := Lib.hid HO1
      refine hK _ _ hS1 ?_
      clear hK K HO0 HO1
      have hsz1 : (w6.alloc (.cells #[.int .u32 r.a, .int .i64 r.n, .slice ar rn cr, .int .i64 r.bal] 34)).drew.heap.size = w6.heap.size + 1 := by simp
      have hS1 : Gr w6 (w6.alloc (.cells #[.int .u32 r.a, .int .i64 r.n, .slice ar rn cr, .int .i64 r.bal] 34)).drew := hS1
      generalize (w6.alloc (.cells #[.int .u32 r.a, .int .i64 r.n, .slice ar rn cr, .int .i64 r.bal] 34)).drew = wc at *
      generalize Value.slice (some ⟨w6.heap.size, 0, none⟩) 1 1 = x54 at *
      refine next_at 1 rfl (by kernel_rfl) (by rfl) (fun K hK => ?_)
      refine oper_addT (base := w2.heap.size) (.const (.slice none 0 0)) (.tmp 51) rfl rfl (OwT.nil _ _) rfl (HT6.out.gr hS1) (fun b hb => ⟨hb, fun e => by cases e⟩) (by simp; omega) (by omega) ?_
      intro va wa hoa ga h5
      rw [List.nil_append] at hoa
      have gca : Gr wc wa := (Gr.refl wc).grown ga (fun k hk => by cases hk)
      have hSa := hS1.step gca
      have h5' : ∀ k, va.ownBlock = some k → k = w6.heap.size + 1 := fun k hk => by
        rcases h5 with h | h
        · rw [h] at hk; cases hk
        · rw [h] at hk; cases hk; exact hsz1
      have H5 := Lib.hid h5'
      clear h5 h5'
      have HO2 := (HOA0.out.gr gca).imp (q := fun k => w2.heap.size ≤ k ∧ va.ownBlock ≠ some k) fun k _ hk => ⟨hk.1, fun e => by have := H5.out k e; have := hk.2; omega⟩
      refine hK _ _ hSa ?_
      clear hK K ga
      simp only [Act.put, List.setIfInBounds_toArray, List.set_cons_zero, List.set_cons_succ]
      refine next_at 4 rfl (by kernel_rfl) (by rfl) (fun K hK => ?_)
      refine oper_addT (base := w2.heap.size) (.tmp 52) (.tmp 54) rfl rfl hoa rfl HO2 (fun b hb => hb) (by simp; omega) (by have := Gr.size hSa; omega) ?_
      intro vz wz hoz gz h5z
      have hown : ∀ k, vz.ownBlock = some k → w6.heap.size ≤ k := fun k hk => by
        rcases h5z with h | h
        · rw [h] at hk; have := H5.out k hk; omega
        · rw [h] at hk; cases hk; exact Gr.size hSa
      have HOWN := Lib.hid hown
      clear h5z hown
      have hSz := hSa.grown gz (fun k hk => by have := H5.out k hk; omega)
      refine hK _ _ hSz ?_
      clear hK K gz
      simp only [Act.put, List.setIfInBounds_toArray, List.set_cons_zero, List.set_cons_succ]
      refine next_at 5 rfl (by kernel_rfl) (by rfl) (fun K hK => ?_)
      go_simp
      refine hK _ _ hSz ?_
      clear hK K
      refine wpAnyH_done (by kernel_rfl) ?_ _
      refine qz_normal ?_
      exact ⟨rfl, va, x54, vz, by with_reducible rfl, hSz, hoz, HOWN.out⟩
  case k =>
    intro x52 x54 ov w7 hR7
    obtain ⟨hg7, hov, hown⟩ := hR7
    obtain ⟨g, oc, rfl, -, hgl, hoc⟩ := hov.row (by simp)
    have hg6 : w6.heap.size ≤ g := hown g rfl
    have hon1 : (l ++ [r]).length = l.length + 1 := by simp
    generalize hon : (l ++ [r]).length = on at *
    have HOV := Lib.hid hov
    have HON := Lib.hid hon
    have HON1 := Lib.hid hon1
    have on9 : on ≤ 9 := by omega
    have on1 : 1 ≤ on := by omega
    clear hon1
    have HC7 := Lib.hid (HC6.out.gr hg7)
    have hE7 : Ex b w6 w7 := Ex.ofGr hg7
    clear hov hown hon HC6 hg7
    go_wp2_with fail
    refine (next_nat b on w7 (by omega) (by omega) HC7.out).mono ?_
    rintro e w8 ⟨x, rfl, hxn, hc8, he8⟩
    go_wp2_with fail
    refine (next_any b 8 w8 (by omega) (by omega) hc8).mono ?_
    rintro e w9 ⟨c1, rfl, c10, c11, hc9, he9⟩
    go_wp2_with fail
    refine (next_any b 8 w9 (by omega) (by omega) hc9).mono ?_
    rintro e w10 ⟨c2, rfl, c20, c21, hc10, he10⟩
    have hov10 := ((HOV.out.ex he8 hblt).ex he9 hblt).ex he10 hblt
    have hE10 := ((hE7.trans he8).trans he9).trans he10
    have hc11 := hc10.gr ((Gr.refl w10).alloc (.cells #[.int .i64 c1, .int .i64 c2] 3))
    have hE11 := hE10.trans (Ex.ofGr ((Gr.refl w10).alloc (.cells #[.int .i64 c1, .int .i64 c2] 3)))
    have hov11 := hov10.gr ((Gr.refl w10).alloc (.cells #[.int .i64 c1, .int .i64 c2] 3))
    obtain ⟨⟨u, hu⟩, hfu⟩ := hov11.cell2 (i := x) (by rw [HON.out]; exact hxn)
    have hgs : g < w10.heap.size := by have := he8.size; have := he9.size; have := he10.size; omega
    have hri2 := ri_two w10 c1 c2
    have hRi2 : Ri (fun k => k ≠ g) (w10.alloc (.cells #[.int .i64 c1, .int .i64 c2] 3)) (.slice (some ⟨w10.heap.size, 0, none⟩) 2 2) [c1, c2] := hri2.imp fun k _ hk => by omega
    obtain ⟨ro, hro⟩ : ∃ ro, (l ++ [r])[x]? = some ro := ⟨_, List.getElem?_eq_getElem (by rw [HON.out]; exact hxn)⟩
    have hodd := hov11.setNx hro (.slice (some ⟨w10.heap.size, 0, none⟩) 2 2) [c1, c2] hRi2
    have hE12 : Ex b w6 ((w10.alloc (.cells #[.int .i64 c1, .int .i64 c2] 3)).setCell ⟨g, x * 4 + 2, none⟩ (.slice (some ⟨w10.heap.size, 0, none⟩) 2 2)) := hE11.setNew (p := ⟨g, x * 4 + 2, none⟩) hg6 _
    have hc12 := hc11.set g (x * 4 + 2) (by omega) (by omega) (.slice (some ⟨w10.heap.size, 0, none⟩) 2 2)
    rw [World.setCell_alloc_past _ _ _ _ hgs] at hodd hE12 hc12
    have HODD := Lib.hid hodd
    have HE12 := Lib.hid hE12
    have HC12 := Lib.hid hc12
    have xon : (x : Int) < (on : Int) := by omega
    clear hodd hE12 hc12 hov10 hov11 hE10 hE11 hc8 hc9 hc10 hc11 he8 he9 he10 hri2 hRi2 HOV HC7 hE7
    go_wp2_with fail
    clear hu hfu
    have hsz12 : ((w10.setCell ⟨g, x * 4 + 2, none⟩ (.slice (some ⟨w10.heap.size, 0, none⟩) 2 2)).alloc (.cells #[.int .i64 c1, .int .i64 c2] 3)).heap.size = w10.heap.size + 1 := by simp
    generalize ((w10.setCell ⟨g, x * 4 + 2, none⟩ (.slice (some ⟨w10.heap.size, 0, none⟩) 2 2)).alloc (.cells #[.int .i64 c1, .int .i64 c2] 3)) = w12 at *
    have hGw12 : Gr w w12 := Ex.gr hG2 hbw (hE6.trans HE12.out)
    have HT12 := Lib.hid (HT6.out.ex HE12.out (fun k hk => by omega))
    have HRW12 := Lib.hid (HRW.out.gr hGw12)
    have HKS12 := Lib.hid (HKS.out.gr hGw12)
    have HSX12 := Lib.hid (HSX.out.ex HE12.out (fun k hk => by have := hs4; omega))
    have HRN12 := Lib.hid (HRN6.out.ex HE12.out (fun k hk => by omega))
    have HKR12 := Lib.hid (KR.out.ex HE12.out (by omega))
    have HKP12 := Lib.hid (KP6.out.ex HE12.out (by omega))
    have g13 : Gr w12 (w12.alloc (.cells #[.slice ta l.length tc, .slice la rl lc, .slice (some ⟨g, 0, none⟩) on oc] 23)) := (Gr.refl _).alloc _
    obtain ⟨L', hL'⟩ : ∃ L', L' = (l ++ [r]).set x ⟨ro.a, ro.n, [c1, c2], ro.bal⟩ := ⟨_, rfl⟩
    rw [← hL'] at HODD
    have HPT : ∀ (i : Nat) (m : List Rt), [l, raw, L'][i]? = some m → ∃ v', (w12.alloc (.cells #[.slice ta l.length tc, .slice la rl lc, .slice (some ⟨g, 0, none⟩) on oc] 23)).cell? ⟨w10.heap.size + 1, 0 + i, none⟩ = some v' ∧ Tb (fun _ => True) (w12.alloc (.cells #[.slice ta l.length tc, .slice la rl lc, .slice (some ⟨g, 0, none⟩) on oc] 23)) v' m := by
      intro i m hi
      rw [← hsz12]
      match i, hi with
      | 0, hi => cases hi; exact ⟨_, by simp, (HT12.out.gr g13).any⟩
      | 1, hi => cases hi; exact ⟨_, by simp, (HRW12.out.gr g13).any⟩
      | 2, hi => cases hi; exact ⟨_, by simp, (HODD.out.gr g13).any⟩
    have HPTT := Lib.hid HPT
    clear HPT HODD hL'
    generalize w12.alloc (.cells #[.slice ta l.length tc, .slice la rl lc, .slice (some ⟨g, 0, none⟩) on oc] 23) = w13 at *
    clear hsz12
    have hG13 : Gr w w13 := hGw12.step g13
    go_loopw [73] (fun i wr => ∃ k : Nat, i = .int .i64 k ∧ k ≤ 3 ∧ Gr w13 wr)
      (fun i _ => 3 - (intOf i).toNat)
    case atStart => exact ⟨0, rfl, by omega, Gr.refl _⟩
    case round =>
      obtain ⟨k, rfl, hk, hG⟩ := hrel
      by_cases hlt : k < 3
      · have k3 : (k : Int) < 3 := by omega
        obtain ⟨m, hm⟩ : ∃ m, [l, raw, L'][k]? = some m := ⟨_, List.getElem?_eq_getElem (by simpa using hlt)⟩
        obtain ⟨v', hcell, hTm⟩ := HPTT.out k m hm
        obtain ⟨ma, mc, rfl, -, -⟩ := hTm.form
        have hcell2 := ((Gr.cells hG).1 _ _ (World.block_lt_of_cell? _ _ hcell)).trans hcell
        rw [Nat.zero_add] at hcell2
        have HTm := Lib.hid (hTm.gr hG)
        have HK := Lib.hid ((HKS12.out.gr g13).gr hG)
        have HS := Lib.hid ((HSX12.out.gr g13).gr hG)
        generalize hml : m.length = ml at *
        clear hTm hcell hm hml
        go_wp2_with fail
        refine (check_any _ _ m ks wr HTm.out HK.out (by rw [HKL.out]; omega)).mono ?_
        rintro e w14 ⟨e1, rfl, hc1, hg14⟩
        have HC1 := Lib.hid hc1
        clear hc1 hcell2
        go_wp2_with fail
        refine (rcheck_any _ _ m ks w14 (HTm.out.gr hg14) (HK.out.gr hg14) (by rw [HKL.out]; omega)).mono ?_
        rintro e w15 ⟨e2, rfl, hc2, hg15⟩
        obtain rfl := chk_one HC1.out hc2
        have hne : (e1 != e1) = false := by simp
        have g15 := hg14.step hg15
        clear hc2
        go_wp2_with fail
        refine (check_any _ _ m six w15 (HTm.out.gr g15) (HS.out.gr g15) (by decide)).mono ?_
        rintro e w16 ⟨e3, rfl, hc3, hg16⟩
        have HC3 := Lib.hid hc3
        clear hc3
        go_wp2_with fail
        refine (rcheck_any _ _ m six w16 (HTm.out.gr (g15.step hg16)) (HS.out.gr (g15.step hg16)) (by decide)).mono ?_
        rintro e w17 ⟨e4, rfl, hc4, hg17⟩
        obtain rfl := chk_one HC3.out hc4
        have hne2 : (e3 != e3) = false := by simp
        clear hc4
        go_wp2_with fail
        case roundEnd =>
          exact ⟨⟨k + 1, rfl, by omega, hG.step ((g15.step hg16).step hg17)⟩, by simp only [intOf]; omega⟩
      · obtain rfl : k = 3 := by omega
        have hGr : Gr w wr := hG13.step hG
        have HTr := Lib.hid ((HT12.out.gr g13).gr hG)
        have HRNr := Lib.hid ((HRN12.out.gr g13).gr hG)
        have HKRr := Lib.hid ((HKR12.out.gr g13).gr hG)
        have HKPr := Lib.hid ((HKP12.out.gr g13).gr hG)
        have HCr := Lib.hid ((HC12.out.gr g13).gr hG)
        clear HT12 HRN12 HKR12 HKP12 HC12 HPTT HKS12 HSX12 HRW12
        go_wp2_with fail
        refine (address_i b wr HCr.out).mono ?_
        rintro e w20 ⟨x1, rfl, x10, x11, hc20, he20⟩
        go_wp2_with fail
        refine (address_i b w20 hc20).mono ?_
        rintro e w21 ⟨x2, rfl, x20, x21, hc21, he21⟩
        have hE21 := he20.trans he21
        have hG21 : Gr w w21 := Ex.gr hGr hbw hE21
        have HT21 := Lib.hid (HTr.out.ex hE21 (fun k hk => by omega))
        have HRN21 := Lib.hid (HRNr.out.ex hE21 (fun k hk => by omega))
        have HKR21 := Lib.hid (HKRr.out.ex hE21 (by omega))
        have HKP21 := Lib.hid (HKPr.out.ex hE21 (by omega))
        clear hc20 he20 hc21 he21 hE21 HTr HRNr HKRr HKPr HCr
        go_wp2_with fail
        have kA : CL (w21.alloc (.cells #[.int .u32 a, .int .u32 x1, .int .u32 x2] 26)) w21.heap.size [.int .u32 a, .int .u32 x1, .int .u32 x2] := CL.new _ _ _ _ rfl
        have gA : Gr w21 (w21.alloc (.cells #[.int .u32 a, .int .u32 x1, .int .u32 x2] 26)) := (Gr.refl _).alloc _
        generalize w21.alloc (.cells #[.int .u32 a, .int .u32 x1, .int .u32 x2] 26) = w22 at *
        have hG22 := hG21.step gA
        go_loopw [101] (fun i wv => ∃ k : Nat, i = .int .i64 k ∧ k ≤ 3 ∧ Gr w22 wv)
          (fun i _ => 3 - (intOf i).toNat)
        case atStart => exact ⟨0, rfl, by omega, Gr.refl _⟩
        case round =>
          obtain ⟨k, rfl, hk, hG⟩ := hrel
          by_cases hlt : k < 3
          · have k3 : (k : Int) < 3 := by omega
            obtain ⟨y, hy, y0, y1⟩ : ∃ y : Int, [(Value.int .u32 a), .int .u32 x1, .int .u32 x2][k]? = some (.int .u32 y) ∧ 0 ≤ y ∧ y < 4294967296 := by
              have : k = 0 ∨ k = 1 ∨ k = 2 := by omega
              rcases this with rfl | rfl | rfl
              · exact ⟨a, rfl, ha0, ha1⟩
              · exact ⟨x1, rfl, x10, x11⟩
              · exact ⟨x2, rfl, x20, x21⟩
            have hcell := ((kA.gr hG).at' k _ hy).1
            have HTv := Lib.hid ((HT21.out.gr gA).gr hG)
            clear hy
            go_wp2_with fail
            refine (slook _ l y wr HTv.out HFW.out HOK.out.1 y0 y1).mono ?_
            rintro e w23 ⟨v1, rfl, hv1, hg23⟩
            have hzf := look_few HFW.out y
            generalize ho : lookR l y = o at *
            have HO := Lib.hid ho
            clear ho hcell
            obtain ⟨n1, rfl, hk1, hn1⟩ := hv1
            obtain ⟨d1, p1, rfl⟩ := hn1.form
            have HN1 := Lib.hid hn1
            have HK1 := Lib.hid hk1
            generalize hz1 : o.getD zeroR = z1 at *
            have HZ1 := Lib.hid hz1
            have HZF := Lib.hid hzf
            clear hn1 hk1 hz1 hzf
            dsimp only [rtv]
            generalize hzl : z1.nx.length = zl at *
            have HZL := Lib.hid hzl
            clear hzl
            go_wp2_with fail
            have kB : CL (w23.alloc (.cells #[.int .u32 z1.a, .int .i64 z1.n, .slice d1 zl p1, .int .i64 z1.bal] 34)) w23.heap.size [.int .u32 z1.a, .int .i64 z1.n, .slice d1 zl p1, .int .i64 z1.bal] := CL.new _ _ _ _ rfl
            have gB : Gr w23 (w23.alloc (.cells #[.int .u32 z1.a, .int .i64 z1.n, .slice d1 zl p1, .int .i64 z1.bal] 34)) := (Gr.refl _).alloc _
            generalize w23.alloc (.cells #[.int .u32 z1.a, .int .i64 z1.n, .slice d1 zl p1, .int .i64 z1.bal] 34) = w24 at *
            have g24 := hg23.step gB
            refine (rlook_any _ l y w24 (HTv.out.gr g24) HFW.out y0 y1).mono ?_
            rintro e w25 ⟨v2, rfl, hv2, hg25⟩
            rw [HO.out, HZ1.out] at hv2
            rw [HO.out]
            obtain ⟨n2, rfl, hk2, hn2⟩ := hv2
            obtain ⟨d2, p2, rfl⟩ := hn2.form
            have HN2 := Lib.hid hn2
            have HK2 := Lib.hid hk2
            clear hn2 hk2
            dsimp only [rtv]
            rw [HZL.out]
            have HN2' := Lib.hid (show Ri (fun b => w24.heap.size ≤ b) w25 (.slice d2 zl p2) z1.nx by have := HN2.out; rw [HZL.out] at this; exact this)
            obtain ⟨⟨c0, c1', c2', c3⟩, -⟩ := (kB.gr (hg25.step ((Gr.refl _).alloc (.cells #[.int .u32 z1.a, .int .i64 z1.n, .slice d2 zl p2, .int .i64 z1.bal] 34)))).four
            have hne : (o.isSome != o.isSome) = false := by simp
            generalize hob : o.isSome = ob at *
            clear HN2
            go_wp2_with fail
            refine (sameR_any _ _ z1 z1 _ ⟨.slice d1 zl p1, rfl, HK1.out, HN1.out.gr (gB.step (hg25.step ((Gr.refl _).alloc _)))⟩ ⟨.slice d2 zl p2, rfl, HK2.out, HN2'.out.gr ((Gr.refl _).alloc _)⟩ (by rw [HZL.out]; exact HZF.out)).mono ?_
            rintro e w26 ⟨rfl, hg26⟩
            rw [sameR_refl]
            go_wp2_with fail
            case roundEnd =>
              exact ⟨⟨k + 1, rfl, by omega, hG.step (g24.step (hg25.step (Gr.step ((Gr.refl _).alloc _) hg26)))⟩, by simp only [intOf]; omega⟩
          · obtain rfl : k = 3 := by omega
            have hGe := hG22.step hG
            have HTe := Lib.hid ((HT21.out.gr gA).gr hG)
            have HRNe := Lib.hid ((HRN21.out.gr gA).gr hG)
            have HKRe := Lib.hid ((HKR21.out.gr gA).gr hG)
            have HKPe := Lib.hid ((HKP21.out.gr gA).gr hG)
            have HOKX := Lib.hid (HOK.out.put HRK.out)
            have hpl := put_len r l
            have HFX := Lib.hid (HOKX.out.few (by omega))
            have HFR := Lib.hid ((HOK.out.rem r.a r.n).few (by have := remL_len r.a r.n l; omega))
            have HFP := Lib.hid ((HOK.out.rem pa pn).few (by have := remL_len pa pn l; omega))
            have HPL := Lib.hid hpl
            clear HT21 HRN21 HKR21 HKP21 gA kA hpl
            go_wp2_with fail
            have hS : Gr wr wr.drew := Gr.drew (Gr.refl _)
            refine region_plain (Gr wr) (by kernel_rfl) ?_
            refine take_at 0 (some 127) (v := ?vb0) rfl rfl (by kernel_rfl) (by kernel_rfl) (by kernel_rfl) (by rfl) ?yb0 hS ?tb0
            case yb0 =>
              intro w' hSw
              skip
              go_simp
              (try rw [if_pos (by omega)])
              (try with_reducible rfl)
            simp only [Act.put, List.setIfInBounds_toArray, List.set_cons_zero, List.set_cons_succ]
            refine take_at 1 (some 128) (v := ?vb1) rfl rfl (by kernel_rfl) (by kernel_rfl) (by kernel_rfl) (by rfl) ?yb1 hS ?tb1
            case yb1 =>
              intro w' hSw
              obtain ⟨⟨a0, a1, a2, a3⟩, -⟩ := (HKRe.out.gr hSw).four
              go_simp
              (try rw [if_pos (by omega)])
              (try with_reducible rfl)
            simp only [Act.put, List.setIfInBounds_toArray, List.set_cons_zero, List.set_cons_succ]
            refine take_at 3 (some 130) (v := ?vb3) rfl rfl (by kernel_rfl) (by kernel_rfl) (by kernel_rfl) (by rfl) ?yb3 hS ?tb3
            case yb3 =>
              intro w' hSw
              skip
              go_simp
              (try rw [if_pos (by omega)])
              (try with_reducible rfl)
            simp only [Act.put, List.setIfInBounds_toArray, List.set_cons_zero, List.set_cons_succ]
            refine take_at 4 (some 131) (v := ?vb4) rfl rfl (by kernel_rfl) (by kernel_rfl) (by kernel_rfl) (by rfl) ?yb4 hS ?tb4
            case yb4 =>
              intro w' hSw
              obtain ⟨⟨a0, a1, a2, a3⟩, -⟩ := (HKRe.out.gr hSw).four
              go_simp
              (try rw [if_pos (by omega)])
              (try with_reducible rfl)
            simp only [Act.put, List.setIfInBounds_toArray, List.set_cons_zero, List.set_cons_succ]
            have hS0 := hS
            refine next_at 2 rfl (by kernel_rfl) (by rfl) (fun K hK => ?_)
            go_simp
            refine (sput _ l _ r _ (HTe.out.gr hS0) HP.out HFW.out HOK.out.1 ⟨_, rfl, HRO.out, HRNe.out.gr hS0⟩ (by rw [HRLN.out]; omega)).mono ?_
            rintro e w31 ⟨v1, rfl, ho1, hgs1⟩
            have H1 := Lib.hid ho1.tb.any
            clear ho1
            have hS1 := hS0.step hgs1
            refine hK _ _ hS1 ?_
            clear hK K
            refine next_at 5 rfl (by kernel_rfl) (by rfl) (fun K hK => ?_)
            go_simp
            refine (srput _ l _ r _ (HTe.out.gr hS1) HFW.out HOK.out.1 ⟨_, rfl, HRO.out, HRNe.out.gr hS1⟩ (by rw [HRLN.out]; omega)).mono ?_
            rintro e w32 ⟨v2, rfl, ho2, hgs2⟩
            have H2 := Lib.hid ho2.tb.any
            clear ho2
            have hS2 := hS1.step hgs2
            refine hK _ _ hS2 ?_
            clear hK K
            refine next_at 6 rfl (by kernel_rfl) (by rfl) (fun K hK => ?_)
            go_simp
            refine (same_any _ _ (putP r l) (putP r l) _ (H1.out.gr hgs2) H2.out HFX.out).mono ?_
            rintro e w33 ⟨rfl, hgs3⟩
            rw [sameL_refl]
            have hS3 := hS2.step hgs3
            refine hK _ _ hS3 ?_
            clear hK K
            have hS := hS3
            refine take_at 7 (some 134) (v := ?vb7) rfl rfl (by kernel_rfl) (by kernel_rfl) (by kernel_rfl) (by rfl) ?yb7 hS ?tb7
            case yb7 =>
              intro w' hSw
              skip
              go_simp
              (try rw [if_pos (by omega)])
              (try with_reducible rfl)
            simp only [Act.put, List.setIfInBounds_toArray, List.set_cons_zero, List.set_cons_succ]
            refine take_at 8 (some 135) (v := ?vb8) rfl rfl (by kernel_rfl) (by kernel_rfl) (by kernel_rfl) (by rfl) ?yb8 hS ?tb8
            case yb8 =>
              intro w' hSw
              skip
              go_simp
              (try rw [if_pos (by omega)])
              (try with_reducible rfl)
            simp only [Act.put, List.setIfInBounds_toArray, List.set_cons_zero, List.set_cons_succ]
            refine take_at 9 (some 136) (v := ?vb9) rfl rfl (by kernel_rfl) (by kernel_rfl) (by kernel_rfl) (by rfl) ?yb9 hS ?tb9
            case yb9 =>
              intro w' hSw
              skip
              go_simp
              (try rw [if_pos (by omega)])
              (try with_reducible rfl)
            simp only [Act.put, List.setIfInBounds_toArray, List.set_cons_zero, List.set_cons_succ]
            refine take_at 10 (some 137) (v := ?vb10) rfl rfl (by kernel_rfl) (by kernel_rfl) (by kernel_rfl) (by rfl) ?yb10 hS ?tb10
            case yb10 =>
              intro w' hSw
              obtain ⟨⟨a0, a1, a2, a3⟩, -⟩ := (HKRe.out.gr hSw).four
              go_simp
              (try rw [if_pos (by omega)])
              (try with_reducible rfl)
            simp only [Act.put, List.setIfInBounds_toArray, List.set_cons_zero, List.set_cons_succ]
            refine take_at 12 (some 139) (v := ?vb12) rfl rfl (by kernel_rfl) (by kernel_rfl) (by kernel_rfl) (by rfl) ?yb12 hS ?tb12
            case yb12 =>
              intro w' hSw
              skip
              go_simp
              (try rw [if_pos (by omega)])
              (try with_reducible rfl)
            simp only [Act.put, List.setIfInBounds_toArray, List.set_cons_zero, List.set_cons_succ]
            refine take_at 13 (some 140) (v := ?vb13) rfl rfl (by kernel_rfl) (by kernel_rfl) (by kernel_rfl) (by rfl) ?yb13 hS ?tb13
            case yb13 =>
              intro w' hSw
              skip
              go_simp
              (try rw [if_pos (by omega)])
              (try with_reducible rfl)
            simp only [Act.put, List.setIfInBounds_toArray, List.set_cons_zero, List.set_cons_succ]
            refine take_at 14 (some 141) (v := ?vb14) rfl rfl (by kernel_rfl) (by kernel_rfl) (by kernel_rfl) (by rfl) ?yb14 hS ?tb14
            case yb14 =>
              intro w' hSw
              obtain ⟨⟨a0, a1, a2, a3⟩, -⟩ := (HKRe.out.gr hSw).four
              go_simp
              (try rw [if_pos (by omega)])
              (try with_reducible rfl)
            simp only [Act.put, List.setIfInBounds_toArray, List.set_cons_zero, List.set_cons_succ]
            refine next_at 11 rfl (by kernel_rfl) (by rfl) (fun K hK => ?_)
            go_simp
            refine (srem _ l r.a r.n _ (HTe.out.gr hS3) HP.out HFW.out HOK.out.1).mono ?_
            rintro e w34 ⟨v4, rfl, ho4, hgs4⟩
            have H4 := Lib.hid ho4.tb.any
            clear ho4
            have hS4 := hS3.step hgs4
            refine hK _ _ hS4 ?_
            clear hK K
            refine next_at 15 rfl (by kernel_rfl) (by rfl) (fun K hK => ?_)
            go_simp
            refine (rrem_any _ l r.a r.n _ (HTe.out.gr hS4) HFW.out).mono ?_
            rintro e w35 ⟨v5, rfl, ho5, hgs5⟩
            have H5 := Lib.hid ho5.tb.any
            clear ho5
            have hS5 := hS4.step hgs5
            refine hK _ _ hS5 ?_
            clear hK K
            refine next_at 16 rfl (by kernel_rfl) (by rfl) (fun K hK => ?_)
            go_simp
            refine (same_any _ _ (remL r.a r.n l) (remL r.a r.n l) _ (H4.out.gr hgs5) H5.out HFR.out).mono ?_
            rintro e w36 ⟨rfl, hgs6⟩
            rw [sameL_refl]
            have hS6 := hS5.step hgs6
            refine hK _ _ hS6 ?_
            clear hK K
            have hS := hS6
            refine take_at 17 (some 144) (v := ?vb17) rfl rfl (by kernel_rfl) (by kernel_rfl) (by kernel_rfl) (by rfl) ?yb17 hS ?tb17
            case yb17 =>
              intro w' hSw
              skip
              go_simp
              (try rw [if_pos (by omega)])
              (try with_reducible rfl)
            simp only [Act.put, List.setIfInBounds_toArray, List.set_cons_zero, List.set_cons_succ]
            refine take_at 18 (some 145) (v := ?vb18) rfl rfl (by kernel_rfl) (by kernel_rfl) (by kernel_rfl) (by rfl) ?yb18 hS ?tb18
            case yb18 =>
              intro w' hSw
              skip
              go_simp
              (try rw [if_pos (by omega)])
              (try with_reducible rfl)
            simp only [Act.put, List.setIfInBounds_toArray, List.set_cons_zero, List.set_cons_succ]
            refine take_at 19 (some 146) (v := ?vb19) rfl rfl (by kernel_rfl) (by kernel_rfl) (by kernel_rfl) (by rfl) ?yb19 hS ?tb19
            case yb19 =>
              intro w' hSw
              skip
              go_simp
              (try rw [if_pos (by omega)])
              (try with_reducible rfl)
            simp only [Act.put, List.setIfInBounds_toArray, List.set_cons_zero, List.set_cons_succ]
            refine take_at 20 (some 147) (v := ?vb20) rfl rfl (by kernel_rfl) (by kernel_rfl) (by kernel_rfl) (by rfl) ?yb20 hS ?tb20
            case yb20 =>
              intro w' hSw
              obtain ⟨⟨a0, a1⟩, -⟩ := (HKPe.out.gr hSw).two
              go_simp
              (try rw [if_pos (by omega)])
              (try with_reducible rfl)
            simp only [Act.put, List.setIfInBounds_toArray, List.set_cons_zero, List.set_cons_succ]
            refine take_at 22 (some 149) (v := ?vb22) rfl rfl (by kernel_rfl) (by kernel_rfl) (by kernel_rfl) (by rfl) ?yb22 hS ?tb22
            case yb22 =>
              intro w' hSw
              skip
              go_simp
              (try rw [if_pos (by omega)])
              (try with_reducible rfl)
            simp only [Act.put, List.setIfInBounds_toArray, List.set_cons_zero, List.set_cons_succ]
            refine take_at 23 (some 150) (v := ?vb23) rfl rfl (by kernel_rfl) (by kernel_rfl) (by kernel_rfl) (by rfl) ?yb23 hS ?tb23
            case yb23 =>
              intro w' hSw
              obtain ⟨⟨a0, a1⟩, -⟩ := (HKPe.out.gr hSw).two
              go_simp
              (try rw [if_pos (by omega)])
              (try with_reducible rfl)
            simp only [Act.put, List.setIfInBounds_toArray, List.set_cons_zero, List.set_cons_succ]
            refine next_at 21 rfl (by kernel_rfl) (by rfl) (fun K hK => ?_)
            go_simp
            refine (srem _ l pa pn _ (HTe.out.gr hS6) HP.out HFW.out HOK.out.1).mono ?_
            rintro e w37 ⟨v7, rfl, ho7, hgs7⟩
            have H7 := Lib.hid ho7.tb.any
            clear ho7
            have hS7 := hS6.step hgs7
            refine hK _ _ hS7 ?_
            clear hK K
            refine next_at 24 rfl (by kernel_rfl) (by rfl) (fun K hK => ?_)
            go_simp
            refine (rrem_any _ l pa pn _ (HTe.out.gr hS7) HFW.out).mono ?_
            rintro e w38 ⟨v8, rfl, ho8, hgs8⟩
            have H8 := Lib.hid ho8.tb.any
            clear ho8
            have hS8 := hS7.step hgs8
            refine hK _ _ hS8 ?_
            clear hK K
            refine next_at 25 rfl (by kernel_rfl) (by rfl) (fun K hK => ?_)
            go_simp
            refine (same_any _ _ (remL pa pn l) (remL pa pn l) _ (H7.out.gr hgs8) H8.out HFP.out).mono ?_
            rintro e w39 ⟨rfl, hgs9⟩
            rw [sameL_refl]
            have hS9 := hS8.step hgs9
            refine hK _ _ hS9 ?_
            clear hK K
            have hS := hS9
            refine take_at 26 (some 153) (v := ?vb26) rfl rfl (by kernel_rfl) (by kernel_rfl) (by kernel_rfl) (by rfl) ?yb26 hS ?tb26
            case yb26 =>
              intro w' hSw
              skip
              go_simp
              (try rw [if_pos (by omega)])
              (try with_reducible rfl)
            simp only [Act.put, List.setIfInBounds_toArray, List.set_cons_zero, List.set_cons_succ]
            refine next_at 27 rfl (by kernel_rfl) (by rfl) (fun K hK => ?_)
            go_simp
            refine hK _ _ hS9 ?_
            clear hK K
            refine wpAnyH_done (by kernel_rfl) ?_ _
            refine qz_normal ?_
            have hGF := hGe.step hS9
            go_wp2_with fail
            go_ret
            exact ⟨rfl, hGF⟩
end Go.Proofs.Ytefocmcpeigfcaa
