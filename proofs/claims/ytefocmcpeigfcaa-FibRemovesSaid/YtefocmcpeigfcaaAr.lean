/- The walk of FibRemoves. -/
import Derived.Test.YtefocmcpeigfcaaAq
import Derived.WalkKit
import Derived.WalkSpells
import Derived.WalkLawsBesides
import Derived.WalkSmall
import Derived.Handy
import Derived.BigQuiet
import Derived.Deep.QuietTactic
import Derived.Deep.RegionHeld3
import Derived.Deep.DeepFit
import Derived.Below
import Derived.Lib.Hide
import Derived.Lib.QuietBelow
import Derived.Deep.DeepCutAuto
namespace Go.Proofs.Ytefocmcpeigfcaa
open Go Go.RowKit Go.Sort
set_option maxRecDepth 100000
set_option linter.unusedVariables false
theorem rem_put {r : Rt} {l : List Rt} (h : Asc l) : remL r.a r.n (putP r l) = remL r.a r.n l := by
  refine asc_ext (asc_rem (asc_putP h) _ _) (asc_rem h _ _) fun y => ?_
  rw [mem_rem, mem_rem, mem_putP]
  constructor
  · rintro ⟨rfl | ⟨h1, -⟩, h2⟩
    · exact absurd (cmr_zero.2 ⟨rfl, rfl⟩) h2
    · exact ⟨h1, h2⟩
  · rintro ⟨h1, h2⟩
    exact ⟨.inr ⟨h1, h2⟩, h2⟩
theorem has_rem {r : Rt} {l : List Rt} : hasL r.a r.n (remL r.a r.n l) = false := by
  rw [Bool.eq_false_iff]
  intro h
  obtain ⟨y, hy, e⟩ := has_iff.1 h
  exact (mem_rem.1 hy).2 e
theorem rem_no {r : Rt} {l : List Rt} (h : hasL r.a r.n l = false) : remL r.a r.n l = l := by
  unfold remL
  rw [List.filter_eq_self]
  intro y hy
  rw [Bool.not_eq_true', Bool.eq_false_iff]
  intro he
  have := has_iff.2 ⟨y, hy, eqp_zero.1 he⟩
  rw [h] at this; cases this
set_option maxHeartbeats 2000000 in
theorem removes_walk (sv : Value) (len : Nat) (w : World) (hl : len ≤ 9223372036854775807) (hb : BytesV w.heap.size w sv len) :
    Calls Try.prog 6 #[sv] w fun e w' => e = .returned (.bool true) ∧ Gr w w' := by
  have HB := Lib.hid hb
  clear hb
  go_enter Try.func6, Try.ntmps6
  go_wp2_with fail
  refine (awake_any _).mono ?_
  rintro e w1 ⟨rfl, hg⟩
  go_wp2_with fail
  refine (new_any sv len 200 _ (by omega) hl (HB.out.gr hg)).mono ?_
  rintro e w2 ⟨b, rfl, hbe, hc, hg2⟩
  have hbw : w.heap.size ≤ b := by have := Gr.size hg; omega
  have hG2 := hg.step hg2
  have hs2 : w.heap.size ≤ w2.heap.size := Gr.size hG2
  clear hbe hg2 hg HB hl
  go_wp2_with fail
  refine (table_any b _ hc hs2).mono ?_
  rintro e w3 ⟨tv, l, rfl, hT, hP, hok, hl8, hc3, he3⟩
  have HT := Lib.hid hT
  have HP := Lib.hid hP
  have HOK := Lib.hid hok
  have HL8 := Lib.hid hl8
  have hs3 := he3.size
  clear hT hP hok
  go_wp2_with fail
  refine (route_any b _ hc3 (by have := he3.size; omega)).mono ?_
  rintro e w4 ⟨rv, r, rfl, hrv, hrk, hc4, he4⟩
  have HRK := Lib.hid hrk
  have HT4 := Lib.hid (HT.out.ex he4 (fun k hk => by have := hc.lt; omega))
  have hG4 : Gr w w4 := Ex.gr hG2 hbw (he3.trans he4)
  have hrl : r.nx.length ≤ 1000 := by have := hrk.2.2.2.2; omega
  obtain ⟨nv, rfl, hro, hrn⟩ := hrv
  obtain ⟨ad, cp, rfl⟩ := hrn.form
  have HRN := Lib.hid hrn
  have HRO := Lib.hid hro
  have HFW := Lib.hid (HOK.out.few (by omega))
  have HRL := Lib.hid hrl
  clear hrk hc hc3 hc4 he3 he4 HT hrn hro hrl
  generalize hrlen : r.nx.length = rl at *
  dsimp only [rtv]
  go_wp2_with fail
  have k5 : CL (w4.alloc (.cells #[.int .u32 r.a, .int .i64 r.n, .slice ad rl cp, .int .i64 r.bal] 34)) w4.heap.size [.int .u32 r.a, .int .i64 r.n, .slice ad rl cp, .int .i64 r.bal] := CL.new _ _ _ _ rfl
  have g5 : Gr w4 (w4.alloc (.cells #[.int .u32 r.a, .int .i64 r.n, .slice ad rl cp, .int .i64 r.bal] 34)) := (Gr.refl _).alloc _
  generalize w4.alloc (.cells #[.int .u32 r.a, .int .i64 r.n, .slice ad rl cp, .int .i64 r.bal] 34) = w5 at *
  have HK5 := Lib.hid k5
  have HT5 := Lib.hid (HT4.out.gr g5)
  have HRN5 := Lib.hid (HRN.out.gr g5)
  have hG5 := hG4.step g5
  clear k5 HT4 HRN
  have hS : Gr w5 w5.drew := Gr.drew (Gr.refl _)
  refine region_plain (Gr w5) (by kernel_rfl) ?_
  refine take_at 0 (some 15) (v := ?va0) rfl rfl (by kernel_rfl) (by kernel_rfl) (by kernel_rfl) (by rfl) ?ya0 hS ?ta0
  case ya0 =>
    intro w' hSw
    skip
    go_simp
    (try rw [if_pos (by omega)])
    (try with_reducible rfl)
  simp only [Act.put, List.setIfInBounds_toArray, List.set_cons_zero, List.set_cons_succ]
  refine take_at 1 (some 16) (v := ?va1) rfl rfl (by kernel_rfl) (by kernel_rfl) (by kernel_rfl) (by rfl) ?ya1 hS ?ta1
  case ya1 =>
    intro w' hSw
    obtain ⟨⟨a0, a1, a2, a3⟩, -⟩ := (HK5.out.gr hSw).four
    go_simp
    (try rw [if_pos (by omega)])
    (try with_reducible rfl)
  simp only [Act.put, List.setIfInBounds_toArray, List.set_cons_zero, List.set_cons_succ]
  refine take_at 3 (some 18) (v := ?va3) rfl rfl (by kernel_rfl) (by kernel_rfl) (by kernel_rfl) (by rfl) ?ya3 hS ?ta3
  case ya3 =>
    intro w' hSw
    skip
    go_simp
    (try rw [if_pos (by omega)])
    (try with_reducible rfl)
  simp only [Act.put, List.setIfInBounds_toArray, List.set_cons_zero, List.set_cons_succ]
  refine take_at 4 (some 19) (v := ?va4) rfl rfl (by kernel_rfl) (by kernel_rfl) (by kernel_rfl) (by rfl) ?ya4 hS ?ta4
  case ya4 =>
    intro w' hSw
    obtain ⟨⟨a0, a1, a2, a3⟩, -⟩ := (HK5.out.gr hSw).four
    go_simp
    (try rw [if_pos (by omega)])
    (try with_reducible rfl)
  simp only [Act.put, List.setIfInBounds_toArray, List.set_cons_zero, List.set_cons_succ]
  refine next_at 2 rfl (by kernel_rfl) (by rfl) (fun K hK => ?_)
  go_simp
  refine (sput _ l _ r _ (HT5.out.gr hS) HP.out HFW.out HOK.out.1 ⟨_, rfl, HRO.out, HRN5.out.gr hS⟩ (by rw [hrlen]; exact HRL.out)).mono ?_
  rintro e w6 ⟨pv, rfl, ho6, hg6⟩
  have hS6 := hS.step hg6
  have HO6 := Lib.hid ho6
  refine hK _ _ hS6 ?_
  clear hK K ho6
  refine next_at 5 rfl (by kernel_rfl) (by rfl) (fun K hK => ?_)
  go_simp
  have hpl := put_len r l
  have HOKP := Lib.hid (HOK.out.put HRK.out)
  refine (srem _ (putP r l) r.a r.n w6 HO6.out.tb HO6.out.pln (HOKP.out.few (by omega)) HOKP.out.1).mono ?_
  rintro e w7 ⟨xv, rfl, ho7, hg7⟩
  have hS7 := hS6.step hg7
  have HO7 := Lib.hid ho7
  refine hK _ _ hS7 ?_
  clear hK K ho7
  refine next_at 6 rfl (by kernel_rfl) (by rfl) (fun K hK => ?_)
  go_simp
  refine hK _ _ hS7 ?_
  clear hK K
  refine wpAnyH_done (by kernel_rfl) ?_ _
  refine qz_normal ?_
  have hG7 := hG5.step hS7
  have HK7 := Lib.hid (HK5.out.gr hS7)
  have HT7 := Lib.hid (HT5.out.gr hS7)
  obtain ⟨⟨a0, a1, a2, a3⟩, -⟩ := HK7.out.four
  obtain ⟨xa, xc, rfl, -, -⟩ := HO7.out.tb.form
  generalize hxl : (remL r.a r.n (putP r l)).length = xl at *
  have he1 := rem_put (r := r) HOK.out.1
  have HX := Lib.hid (show Tb (fun k => w6.heap.size ≤ k) w7 (.slice xa xl xc) (remL r.a r.n l) by rw [← he1]; exact HO7.out.tb)
  have hfx : Few (remL r.a r.n l) := (HOK.out.rem r.a r.n).few (by have := remL_len r.a r.n l; omega)
  have HFX := Lib.hid hfx
  clear he1 hfx hxl HO7
  go_wp2_with fail
  refine (has_any _ (remL r.a r.n l) r.a r.n w7 HX.out HFX.out).mono ?_
  rintro e w8 ⟨rfl, hg8⟩
  rw [has_rem]
  have hS8 := hS7.step hg8
  have hG8 := hG5.step hS8
  have HK8 := Lib.hid (HK5.out.gr hS8)
  have HT8 := Lib.hid (HT5.out.gr hS8)
  have HX8 := Lib.hid (HX.out.gr hg8)
  clear a0 a1 a2 a3
  obtain ⟨⟨a0, a1, a2, a3⟩, -⟩ := HK8.out.four
  go_wp2_with fail
  refine (srem _ l r.a r.n w8 HT8.out HP.out HFW.out HOK.out.1).mono ?_
  rintro e w9 ⟨yv, rfl, ho9, hg9⟩
  have HY9 := Lib.hid ho9.tb
  have HX9 := Lib.hid (HX8.out.gr hg9)
  have hG9 := hG8.step hg9
  have HK9 := Lib.hid (HK8.out.gr hg9)
  have HT9 := Lib.hid (HT8.out.gr hg9)
  clear ho9 a0 a1 a2 a3
  obtain ⟨⟨a0, a1, a2, a3⟩, -⟩ := HK9.out.four
  go_wp2_with fail
  refine (same_any _ _ (remL r.a r.n l) (remL r.a r.n l) w9 HX9.out HY9.out HFX.out).mono ?_
  rintro e w10 ⟨rfl, hg10⟩
  rw [sameL_refl]
  have hG10 := hG9.step hg10
  have HK10 := Lib.hid (HK9.out.gr hg10)
  have HT10 := Lib.hid (HT9.out.gr hg10)
  have HX10 := Lib.hid (HX9.out.gr hg10)
  clear a0 a1 a2 a3
  obtain ⟨⟨a0, a1, a2, a3⟩, -⟩ := HK10.out.four
  go_wp2_with fail
  refine (has_any _ l r.a r.n w10 HT10.out HFW.out).mono ?_
  rintro e w11 ⟨rfl, hg11⟩
  have hG11 := hG10.step hg11
  have HT11 := Lib.hid (HT10.out.gr hg11)
  have HX11 := Lib.hid (HX10.out.gr hg11)
  cases hq : hasL r.a r.n l
  · have he3 := rem_no hq
    have HX12 := Lib.hid (show Tb (fun k => w6.heap.size ≤ k) w11 (.slice xa xl xc) l by have := HX11.out; rw [he3] at this; exact this)
    clear he3 hq
    go_wp2_with fail
    refine (same_any _ _ l l w11 HX12.out HT11.out HFW.out).mono ?_
    rintro e w12 ⟨rfl, hg12⟩
    rw [sameL_refl]
    go_wp2_with fail
    go_ret
    exact ⟨rfl, hG11.step hg12⟩
  · clear hq
    go_wp2_with fail
    go_ret
    exact ⟨rfl, hG11⟩
end Go.Proofs.Ytefocmcpeigfcaa
