/- The document's numbers: Times. -/
import Derived.Test.YtikkobmccagdlaaGreatDoorRp
import Derived.WalkKit
import Derived.WalkSpells
import Derived.WalkLawsBesides
import Derived.WalkSmall
import Derived.Handy
import Derived.BigQuiet
import Derived.Deep.QuietTactic
import Derived.Deep.RegionHeld3
import Derived.Deep.DeepFit
import Derived.Below
import Derived.Lib.Hide
import Derived.Lib.QuietBelow
import Derived.Deep.DeepCutAuto
namespace Go.Proofs.YtikkobmccagdlaaGreatDoor
open Go Go.RowKit Go.Sort
set_option maxRecDepth 100000
set_option linter.unusedVariables false
/-- what the inner loop of Times keeps -/
def TmIn (A B r i a : Nat) (P : List Nat) (w1 : World) (cv s : Value) (wr : World) : Prop :=
  ∃ (k c : Nat) (Q : List Nat), s = .int .i64 k ∧ cv = .int .i64 c ∧ c < 1073741824 ∧ Q.length = (nd A).length + (nd B).length ∧ Lim Q ∧ nv Q + c * 1073741824 ^ (i + k) = nv P + a * 1073741824 ^ i * nv ((nd B).take k) ∧
    (∀ j, i + k ≤ j → Q.getD j 0 = P.getD j 0) ∧ (k ≤ (nd B).length ∨ (k = (nd B).length + 1 ∧ c = 0)) ∧ Arr wr r 0 Q ∧ Ex r w1 wr
/-- what the outer loop keeps -/
def TmOut (A B r : Nat) (w1 : World) (s : Value) (wr : World) : Prop :=
  ∃ (i : Nat) (P : List Nat), s = .int .i64 i ∧ i ≤ (nd A).length ∧ P.length = (nd A).length + (nd B).length ∧ Lim P ∧ nv P = nv ((nd A).take i) * B ∧ (∀ j, i + (nd B).length ≤ j → P.getD j 0 = 0) ∧ Arr wr r 0 P ∧ Ex r w1 wr
set_option maxHeartbeats 4000000 in
theorem times_any {A B : Nat} (va vb : Value) (w : World) (hA : Num w va A) (hB : Num w vb B) (lA : (nd A).length ≤ 10000) (lB : (nd B).length ≤ 10000) :
    Calls Tryz.prog 75 #[va, vb] w (OneNum w (A * B)) := by
  have hA0 := hA
  have hB0 := hB
  obtain ⟨aa, acap, rfl, -, -, -⟩ := hA
  obtain ⟨ab, bcap, rfl, -, -, -⟩ := hB
  have hA := Lib.hid hA0
  have hB := Lib.hid hB0
  clear hA0 hB0
  obtain ⟨ti, hi1, hi2, hi3, hi4⟩ := intInfo
  go_enter Tryz.func75, Tryz.ntmps75
  go_wp2_with (refine wpList_make_full _ rfl _ _ 24 rfl w.heap.size 3 ti (.int .i64 0) 1 Tryz.underlying24 hi1 hi2 hi3 .i64 .i64 _ _ ((nd A).length + (nd B).length) rfl rfl (by simp) (by simp) (by rw [hi4]; omega) (by unfold maxLen; omega) (Nat.le_refl _) ?_; intro w1 hown1 hgrow1)
  obtain ⟨hn, harr, hlt, hcap, hcap2⟩ := (own_made hown1).arr
  have hG1 : Gr w w1 := Gr.grown (Gr.refl _) hgrow1 (fun k hk => by cases hk)
  have hGr := Lib.hid hG1
  obtain ⟨r, hr⟩ : ∃ r, r = w.heap.size := ⟨_, rfl⟩
  have hA1 : Rd (· ≠ r) w1 (.slice aa (nd A).length acap) (nd A) := Rd.gr (hA.out.off (by omega)) hG1
  have hB1 : Rd (· ≠ r) w1 (.slice ab (nd B).length bcap) (nd B) := Rd.gr (hB.out.off (by omega)) hG1
  rw [← hr] at harr hlt ⊢
  have HR := Lib.hid hr
  have HA1 := Lib.hid hA1
  have HB1 := Lib.hid hB1
  clear hA1 hB1 hr hG1 hown1 hgrow1 hn hi1 hi2 hi3 hi4
  go_loopw [6] (fun s wr => TmOut A B r w1 s wr) (fun s _ => (nd A).length - (intOf s).toNat)
  case atStart => exact ⟨0, _, rfl, Nat.zero_le _, List.length_replicate, lim_replicate _, by rw [nv_replicate]; simp [nv], fun j _ => by rw [List.getD_eq_getElem?_getD, List.getElem?_replicate]; split <;> rfl, harr, Ex.refl _ _⟩
  case round =>
    obtain ⟨i, P, rfl, hi, hPl, hPL, hPv, hPz, hPa, hexo⟩ := hrel
    have HL := Lib.hid hPl
    have HV := Lib.hid hPv
    have HZ := Lib.hid hPz
    have HA := Lib.hid hPa
    have HPL := Lib.hid hPL
    clear hPl hPv hPz hPa hPL
    by_cases hlt : i < (nd A).length
    · have d1 : decide (i < (nd A).length) = true := by simpa using hlt
      have hal := lim_getD (lim_nd A) i
      go_wp2_with fail
      go_loopw [7, 8] (fun cv s wi => TmIn A B r i ((nd A).getD i 0) P w1 cv s wi) (fun _ s _ => (nd B).length + 1 - (intOf s).toNat)
      case atStart => exact ⟨0, 0, P, rfl, rfl, by omega, HL.out, HPL.out, by simp [nv], fun _ _ => rfl, .inl (Nat.zero_le _), HA.out, hexo⟩
      case round =>
        obtain ⟨k, c, Q, rfl, rfl, hc1, hQl, hQL, hQv, hQp, hQk, hQa, hex⟩ := hrel
        have HQL := Lib.hid hQl
        have HLQ := Lib.hid hQL
        have HQV := Lib.hid hQv
        have HQP := Lib.hid hQp
        have HQA := Lib.hid hQa
        clear hQl hQL hQv hQp hQa
        by_cases k1 : k < (nd B).length
        · have d2 : decide (k < (nd B).length) = true := by simpa using k1
          have hj : i + k < (nd A).length + (nd B).length := by omega
          obtain ⟨hcl, hfr⟩ := HQA.out (i + k) (by rw [HQL.out]; exact hj)
          rw [Nat.zero_add] at hcl hfr
          have hql := lim_getD HLQ.out (i + k)
          have hbl := lim_getD (lim_nd B) k
          have hlimb := fun n => rlimb_any k (wr.drewN n) ((HB1.out.ex hex).gr (Gr.drewN (Gr.refl _) n))
          obtain ⟨ba, oa, rfl, hba, hca⟩ := (HA1.out.ex hex).at' hlt
          have HRS := Lib.hid (row_step (Q := Q) (P := nv P) (c := c) (a := (nd A).getD i 0) (b := (nd B).getD k 0) (v := nv ((nd B).take k)) (j := i + k) (i := i) (k := k) (by rw [HQL.out]; exact hj) rfl HQV.out rfl)
          rw [← take_split'] at HRS
          have hbd := row_bound hql hal hbl hc1
          generalize hqq : Q.getD (i + k) 0 = q at hcl hql HRS hbd
          generalize hbb : (nd B).getD k 0 = y at hbl hlimb HRS hbd
          generalize hxx : (nd A).getD i 0 = x at *
          have HXX := Lib.hid hxx
          obtain ⟨z, hz⟩ : ∃ z : Nat, z = x * y := ⟨_, rfl⟩
          rw [← hz] at hbd HRS
          have hz2 : (x : Int) * (y : Int) = (z : Int) := by rw [hz]; simp
          have m1 : IntKind.i64.wrap ((x : Int) * (y : Int)) = (z : Int) := by rw [hz2]; exact IntWalk.i64_in _ (by omega)
          have m0 : IntKind.i64.wrap ((i : Int) + (k : Int)) = ((i + k : Nat) : Int) := by rw [show (i : Int) + (k : Int) = ((i + k : Nat) : Int) by omega]; exact IntWalk.i64_in _ (by omega)
          obtain ⟨d, hd⟩ : ∃ d : Nat, d = (q + z + c) % 1073741824 := ⟨_, rfl⟩
          obtain ⟨f, hf⟩ : ∃ f : Nat, f = (q + z + c) / 1073741824 := ⟨_, rfl⟩
          rw [← hd, ← hf] at HRS
          have hd0 : ((q : Int) + (z : Int) + (c : Int)) % 1073741824 = (d : Int) := by omega
          have hf0 : ((q : Int) + (z : Int) + (c : Int)) / 1073741824 = (f : Int) := by omega
          have hd1 : d < 1073741824 := by omega
          have hf1 : f < 1073741824 := by omega
          have HD1 := Lib.hid hd1
          have HF1 := Lib.hid hf1
          have q1 : (q : Int) < 1073741824 := by omega
          have z1 : (z : Int) < 1152921504606846976 := by omega
          have c3 : (c : Int) < 1073741824 := by omega
          obtain ⟨ij, hij⟩ : ∃ ij : Nat, ij = i + k := ⟨_, rfl⟩
          rw [← hij] at m0 hcl hfr hj
          have HIJ := Lib.hid hij
          have j1 : (ij : Int) < ((nd A).length + (nd B).length : Int) := by omega
          have j2 : (ij : Int) < (((nd A).length + (nd B).length : Nat) : Int) := by omega
          have j0 : (0 : Int) ≤ (ij : Int) := by omega
          have i1 : (i : Int) < ((nd A).length : Int) := by omega
          have hex2 := hex
          have HEX := Lib.hid hex
          have HB2 : k + 1 ≤ (nd B).length ∨ (k + 1 = (nd B).length + 1 ∧ f = 0) := by
            by_cases e : k < (nd B).length
            · exact .inl e
            · obtain rfl : k = (nd B).length := by omega
              refine .inr ⟨rfl, ?_⟩
              have h1 : q = 0 := by rw [← hqq, HQP.out _ (Nat.le_refl _)]; exact HZ.out _ (Nat.le_refl _)
              have h2 : y = 0 := by rw [← hbb]; exact getD_ge (by omega)
              have h3 : z = 0 := by rw [hz, h2, Nat.mul_zero]
              omega
          have HB3 := Lib.hid HB2
          clear HB2 hz hz2 hd hf hqq hbb hxx hbd hex hij hd1 hf1
          go_wp2_with fail
          go_quiet ((go_at_call 88; exact Calls.quiet_of_same ((hlimb _).mono fun e w' ⟨he, hw⟩ => ⟨he, hw.symm⟩)))
          have hgd : Gr wr (wr.drewN nq) := Gr.drewN (Gr.refl _) nq
          have hcl3 : (wr.drewN nq).cell? ⟨r, ij, none⟩ = some (.int .i64 (q : Nat)) := hcl
          have hfr3 : (wr.drewN nq).frozen? ⟨r, ij, none⟩ = false := hfr
          have HQA3 := Lib.hid (HQA.out.gr hgd)
          have HEX3 := Lib.hid (HEX.out.trans (Ex.ofGr hgd))
          clear hcl hfr hlimb hca
          generalize wr.drewN nq = w3 at *
          go_wp2_with fail
          refine ⟨⟨k + 1, f, Q.set ij d, by go_num, iv hf0, HF1.out, by rw [List.length_set]; exact HQL.out, lim_set HLQ.out _ HD1.out, ?_, ?_, HB3.out, ?_, HEX3.out.trans (Ex.set (Ex.refl _ _) _ _)⟩, ?_⟩
          · rw [show i + (k + 1) = ij + 1 by rw [HIJ.out]; omega]
            rw [HIJ.out] at *
            exact HRS.out
          · intro j hj4
            rw [getD_set_ne (by rw [HIJ.out]; omega)]
            exact HQP.out j (by omega)
          · have := HQA3.out.set (i := ij) (by rw [HQL.out]; exact hj) d
            rwa [Nat.zero_add] at this
          · simp only [intOf]; omega
        · have d2 : decide (k < (nd B).length) = false := by simpa using k1
          by_cases c1 : 0 < c
          · have d3 : decide (0 < c) = true := by simpa using c1
            have hj : i + k < (nd A).length + (nd B).length := by omega
            obtain ⟨hcl, hfr⟩ := HQA.out (i + k) (by rw [HQL.out]; exact hj)
            rw [Nat.zero_add] at hcl hfr
            have hql := lim_getD HLQ.out (i + k)
            have hbl := lim_getD (lim_nd B) k
            have hlimb := fun n => rlimb_any k (wr.drewN n) ((HB1.out.ex hex).gr (Gr.drewN (Gr.refl _) n))
            obtain ⟨ba, oa, rfl, hba, hca⟩ := (HA1.out.ex hex).at' hlt
            have HRS := Lib.hid (row_step (Q := Q) (P := nv P) (c := c) (a := (nd A).getD i 0) (b := (nd B).getD k 0) (v := nv ((nd B).take k)) (j := i + k) (i := i) (k := k) (by rw [HQL.out]; exact hj) rfl HQV.out rfl)
            rw [← take_split'] at HRS
            have hbd := row_bound hql hal hbl hc1
            generalize hqq : Q.getD (i + k) 0 = q at hcl hql HRS hbd
            generalize hbb : (nd B).getD k 0 = y at hbl hlimb HRS hbd
            generalize hxx : (nd A).getD i 0 = x at *
            have HXX := Lib.hid hxx
            obtain ⟨z, hz⟩ : ∃ z : Nat, z = x * y := ⟨_, rfl⟩
            rw [← hz] at hbd HRS
            have hz2 : (x : Int) * (y : Int) = (z : Int) := by rw [hz]; simp
            have m1 : IntKind.i64.wrap ((x : Int) * (y : Int)) = (z : Int) := by rw [hz2]; exact IntWalk.i64_in _ (by omega)
            have m0 : IntKind.i64.wrap ((i : Int) + (k : Int)) = ((i + k : Nat) : Int) := by rw [show (i : Int) + (k : Int) = ((i + k : Nat) : Int) by omega]; exact IntWalk.i64_in _ (by omega)
            obtain ⟨d, hd⟩ : ∃ d : Nat, d = (q + z + c) % 1073741824 := ⟨_, rfl⟩
            obtain ⟨f, hf⟩ : ∃ f : Nat, f = (q + z + c) / 1073741824 := ⟨_, rfl⟩
            rw [← hd, ← hf] at HRS
            have hd0 : ((q : Int) + (z : Int) + (c : Int)) % 1073741824 = (d : Int) := by omega
            have hf0 : ((q : Int) + (z : Int) + (c : Int)) / 1073741824 = (f : Int) := by omega
            have hd1 : d < 1073741824 := by omega
            have hf1 : f < 1073741824 := by omega
            have HD1 := Lib.hid hd1
            have HF1 := Lib.hid hf1
            have q1 : (q : Int) < 1073741824 := by omega
            have z1 : (z : Int) < 1152921504606846976 := by omega
            have c3 : (c : Int) < 1073741824 := by omega
            obtain ⟨ij, hij⟩ : ∃ ij : Nat, ij = i + k := ⟨_, rfl⟩
            rw [← hij] at m0 hcl hfr hj
            have HIJ := Lib.hid hij
            have j1 : (ij : Int) < ((nd A).length + (nd B).length : Int) := by omega
            have j2 : (ij : Int) < (((nd A).length + (nd B).length : Nat) : Int) := by omega
            have j0 : (0 : Int) ≤ (ij : Int) := by omega
            have i1 : (i : Int) < ((nd A).length : Int) := by omega
            have hex2 := hex
            have HEX := Lib.hid hex
            have HB2 : k + 1 ≤ (nd B).length ∨ (k + 1 = (nd B).length + 1 ∧ f = 0) := by
              by_cases e : k < (nd B).length
              · exact .inl e
              · obtain rfl : k = (nd B).length := by omega
                refine .inr ⟨rfl, ?_⟩
                have h1 : q = 0 := by rw [← hqq, HQP.out _ (Nat.le_refl _)]; exact HZ.out _ (Nat.le_refl _)
                have h2 : y = 0 := by rw [← hbb]; exact getD_ge (by omega)
                have h3 : z = 0 := by rw [hz, h2, Nat.mul_zero]
                omega
            have HB3 := Lib.hid HB2
            clear HB2 hz hz2 hd hf hqq hbb hxx hbd hex hij hd1 hf1
            go_wp2_with fail
            go_quiet ((go_at_call 88; exact Calls.quiet_of_same ((hlimb _).mono fun e w' ⟨he, hw⟩ => ⟨he, hw.symm⟩)))
            have hgd : Gr wr (wr.drewN nq) := Gr.drewN (Gr.refl _) nq
            have hcl3 : (wr.drewN nq).cell? ⟨r, ij, none⟩ = some (.int .i64 (q : Nat)) := hcl
            have hfr3 : (wr.drewN nq).frozen? ⟨r, ij, none⟩ = false := hfr
            have HQA3 := Lib.hid (HQA.out.gr hgd)
            have HEX3 := Lib.hid (HEX.out.trans (Ex.ofGr hgd))
            clear hcl hfr hlimb hca
            generalize wr.drewN nq = w3 at *
            go_wp2_with fail
            refine ⟨⟨k + 1, f, Q.set ij d, by go_num, iv hf0, HF1.out, by rw [List.length_set]; exact HQL.out, lim_set HLQ.out _ HD1.out, ?_, ?_, HB3.out, ?_, HEX3.out.trans (Ex.set (Ex.refl _ _) _ _)⟩, ?_⟩
            · rw [show i + (k + 1) = ij + 1 by rw [HIJ.out]; omega]
              rw [HIJ.out] at *
              exact HRS.out
            · intro j hj4
              rw [getD_set_ne (by rw [HIJ.out]; omega)]
              exact HQP.out j (by omega)
            · have := HQA3.out.set (i := ij) (by rw [HQL.out]; exact hj) d
              rwa [Nat.zero_add] at this
            · simp only [intOf]; omega
          · obtain rfl : c = 0 := by omega
            have hv2 : nv Q = nv ((nd A).take (i + 1)) * B := by
              have h := HQV.out
              rw [List.take_of_length_le (show (nd B).length ≤ k by omega), nv_nd, Nat.zero_mul, Nat.add_zero, HV.out] at h
              rw [h, take_split', Nat.add_mul, Nat.mul_comm ((nd A).getD i 0)]
            have HV2 := Lib.hid hv2
            have HEX := Lib.hid hex
            clear hv2 hex hal
            go_wp2_with fail
            refine ⟨⟨i + 1, Q, by go_num, by omega, HQL.out, HLQ.out, HV2.out, fun j hj => ?_, HQA.out, HEX.out⟩, by simp only [intOf]; omega⟩
            rw [HQP.out j (by omega)]
            exact HZ.out j (by omega)
    · obtain rfl : i = (nd A).length := by omega
      have hrd : Rd (fun _ => True) wr (.slice (some ⟨r, 0, none⟩) ((nd A).length + (nd B).length) ((nd A).length + (nd B).length)) P := by
        have := HA.out.rd (p := fun _ => True) (cap := (nd A).length + (nd B).length) (by rw [HL.out]; exact Nat.le_refl _) (by omega) trivial
        rwa [HL.out] at this
      have hnv : nv P = A * B := by rw [HV.out, List.take_of_length_le (Nat.le_refl _), nv_nd]
      have HT := Lib.hid (rtrim_any wr hrd HPL.out)
      have HN := Lib.hid hnv
      have hG : Gr w wr := Ex.gr hGr.out (by rw [← HR.out]; exact Nat.le_refl _) hexo
      clear hnv hrd
      go_wp2_with fail
      refine HT.out.mono ?_
      rintro e w' ⟨v, rfl, hv, rfl⟩
      rw [HN.out] at hv
      have HF := Lib.hid hv
      clear hv
      go_wp2_with fail
      go_ret
      exact ⟨v, rfl, HF.out.any, hG⟩
end Go.Proofs.YtikkobmccagdlaaGreatDoor
