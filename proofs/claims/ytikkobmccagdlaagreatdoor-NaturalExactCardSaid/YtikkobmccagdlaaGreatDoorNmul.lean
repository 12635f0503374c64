/- Mul. -/
import Derived.Test.YtikkobmccagdlaaGreatDoorNadd
import Derived.Test.YtikkobmccagdlaaGreatDoorNa
import Derived.WalkKit
import Derived.WalkSpells
import Derived.WalkLawsBesides
import Derived.WalkSmall
import Derived.Handy
import Derived.BigQuiet
import Derived.Deep.QuietTactic
import Derived.Deep.RegionHeld3
import Derived.Deep.DeepFit
import Derived.Below
import Derived.Lib.Hide
import Derived.Lib.QuietBelow
import Derived.Deep.DeepCutAuto
import Derived.StillTailTactics
namespace Go.Proofs.YtikkobmccagdlaaGreatDoor
open Go Go.RowKit Go.Sort
set_option maxRecDepth 100000
set_option linter.unusedVariables false

set_option maxHeartbeats 1000000 in
theorem mul_any {A B : Nat} (va vb : Value) (w : World) (hA : Num w va A) (hB : Num w vb B) (lA : (nd A).length ≤ 256) (lB : (nd B).length ≤ 256) :
    Calls Tryz.prog 13 #[va, vb] w (Res w (A * B)) := by
  have hA0 := hA
  have hB0 := hB
  obtain ⟨aa, acap, rfl, -, -, -⟩ := hA
  obtain ⟨ab, bcap, rfl, -, -, -⟩ := hB
  have hA := Lib.hid hA0
  have hB := Lib.hid hB0
  have va := Lib.hid (num_valid hA0 lA)
  have vb := Lib.hid (num_valid hB0 lB)
  clear hA0 hB0
  go_enter Tryz.func13, Tryz.ntmps13
  go_wp2_with fail
  refine va.out.mono ?_
  rintro e w' ⟨rfl, rfl⟩
  go_wp2_with fail
  refine vb.out.mono ?_
  rintro e w' ⟨rfl, rfl⟩
  obtain ⟨ti, hi1, hi2, hi3, hi4⟩ := intInfo
  go_wp2_with (refine wpList_make_full _ rfl _ _ 24 rfl w.heap.size 3 ti (.int .i64 0) 1 Tryz.underlying24 hi1 hi2 hi3 .i64 .i64 _ _ ((nd A).length + (nd B).length) rfl rfl (by simp) (by simp) (by rw [hi4]; omega) (by unfold maxLen; omega) (Nat.le_refl _) ?_; intro w1 hown1 hgrow1)
  obtain ⟨hn, harr, hlt, hcap, hcap2⟩ := (own_made hown1).arr
  have hG1 : Gr w w1 := Gr.grown (Gr.refl _) hgrow1 (fun k hk => by cases hk)
  have hGr := Lib.hid hG1
  obtain ⟨r, hr⟩ : ∃ r, r = w.heap.size := ⟨_, rfl⟩
  have hA1 : Rd (· ≠ r) w1 (.slice aa (nd A).length acap) (nd A) := Rd.gr (hA.out.off (by omega)) hG1
  have hB1 : Rd (· ≠ r) w1 (.slice ab (nd B).length bcap) (nd B) := Rd.gr (hB.out.off (by omega)) hG1
  rw [← hr] at harr hlt ⊢
  have HR := Lib.hid hr
  have HA1 := Lib.hid hA1
  have HB1 := Lib.hid hB1
  clear hA1 hB1 hr hG1 hown1 hgrow1 hn hi1 hi2 hi3 hi4
  go_loopw [24] (fun s wr => ∃ (k : Nat) (P : List Nat), s = .int .i64 k ∧ k ≤ (nd A).length ∧ P.length = (nd A).length + (nd B).length ∧ Lim P ∧ nv P = nv ((nd A).take k) * B ∧ (∀ j, k + (nd B).length ≤ j → P.getD j 0 = 0) ∧ Arr wr r 0 P ∧ Ex r w1 wr) (fun s _ => (nd A).length - (intOf s).toNat)
  case atStart => exact ⟨0, _, rfl, Nat.zero_le _, List.length_replicate, lim_replicate _, by rw [nv_replicate]; simp [nv], fun j _ => by rw [List.getD_eq_getElem?_getD, List.getElem?_replicate]; split <;> rfl, harr, Ex.refl _ _⟩
  case round =>
    obtain ⟨k, P, rfl, hk, hPl, hPL, hPv, hPz, hPa, hex⟩ := hrel
    have HL := Lib.hid hPl
    have HV := Lib.hid hPv
    have HZ := Lib.hid hPz
    have HA := Lib.hid hPa
    clear hPl hPv hPz hPa
    by_cases hlt : k < (nd A).length
    · obtain ⟨ba, oa, rfl, hba, hca⟩ := (HA1.out.ex hex).at' hlt
      obtain ⟨hi, hhi⟩ : ∃ hi : Nat, hi = k + (nd B).length + 1 := ⟨_, rfl⟩
      have m1 : IntKind.i64.wrap ((k : Int) + (nd B).length) = (k : Int) + (nd B).length := IntWalk.i64_in _ (by omega)
      have m2 : IntKind.i64.wrap ((k : Int) + (nd B).length + 1) = (hi : Int) := by rw [hhi]; exact IntWalk.i64_in _ (by omega)
      have f1 : k ≤ hi := by omega
      have f2 : hi ≤ (nd A).length + (nd B).length := by omega
      have f3 : (k : Int) ≤ (hi : Int) := by omega
      have f4 : (hi : Int) ≤ (nd A).length + (nd B).length := by omega
      have f5 : (hi : Int) ≤ ((nd A).length + (nd B).length : Nat) := by omega
      have f6 : (0 : Int) ≤ (hi : Int) := by omega
      have HI := Lib.hid hhi
      clear hhi
      have f7 : ((nd A).length + (nd B).length = k) = False := by simp; omega
      have hxl := lim_getD (lim_nd A) k
      have hW : ((P.drop k).take ((nd B).length + 1)).length = hi - k := by rw [List.length_take, List.length_drop, HL.out, HI.out]; omega
      have hE : ∀ W, Gr wr W → Calls Tryz.prog 72 #[.slice (some ⟨r, k, none⟩) (hi - k) ((nd A).length + (nd B).length - k), .slice ab (nd B).length bcap, .int .i64 ((nd A).getD k 0 : Nat)] W (AtPost r k ((P.drop k).take ((nd B).length + 1)) (nd B) ((nd A).getD k 0 : Nat) W) := by
        intro W hg
        have := addTimes_any ((P.drop k).take ((nd B).length + 1)) (nd B) ((nd A).getD k 0 : Nat) r k ((nd A).length + (nd B).length - k) (.slice ab (nd B).length bcap) W (by have := (HA.out.sub k ((nd B).length + 1)).gr hg; rwa [Nat.zero_add] at this) ((HB1.out.ex hex).gr hg) (lim_take (lim_drop hPL _) _) (lim_nd B) (by rw [hW, HI.out]; omega) (by omega) (by omega) (by rw [hW, HI.out]; omega)
        rwa [hW] at this
      have HE := Lib.hid hE
      have HW := Lib.hid hW
      have HX := Lib.hid (take_split' (nd A) k)
      generalize (nd A).getD k 0 = x at hca hxl HE HX
      clear hE hW
      have hgd : Gr wr wr.drew := Gr.drew (Gr.refl _)
      go_wp2_with fail
      go_still_tail 13, (by kernel_rfl)
      change wpList _ _ _ _ _ wr.drew
      generalize wr.drew = w2 at *
      go_wp2_with fail
      refine (HE.out _ hgd).mono ?_
      rintro e w3 ⟨c, l, rfl, hll, hlL, -, -, heq, harr3, hwin3⟩
      go_wp2_with fail
      have hl1 : l.length = (nd B).length + 1 := by rw [hll, HW.out, HI.out]; omega
      have hz' : ∀ j, k + ((nd B).length + 1) ≤ j → P.getD j 0 = 0 := fun j hj => HZ.out j (by omega)
      have hb1 : k + ((nd B).length + 1) ≤ P.length := by rw [HL.out]; omega
      rw [HW.out, show hi - k = (nd B).length + 1 by rw [HI.out]; omega] at heq hwin3
      have hms := mul_step (P := P) (W' := l) (b := nd B) (i := k) (x := x) (na := nv ((nd A).take k)) (by rw [nv_nd]; exact HV.out) (by omega) HZ.out hPL (lim_nd B) hlL hl1 hxl heq
      refine ⟨⟨k + 1, P.take k ++ (l ++ P.drop (k + ((nd B).length + 1))), by go_num, by omega, by rw [win_len hl1 hb1]; exact HL.out, win_lim hPL hlL, ?_, ?_, ?_, ?_⟩, by simp only [intOf]; omega⟩
      · rw [hms.2, HX.out, nv_nd]
      · intro j hj; exact win_zero hl1 hb1 hz' j (by omega)
      · have := (HA.out.gr hgd).win (i := k) (m := l) (w' := w3) (by rw [Nat.zero_add, hl1]; exact hwin3) (by rw [Nat.zero_add]; exact harr3) (by omega)
        rw [hl1] at this
        exact this
      · exact hex.trans ((Ex.ofGr hgd).trans hwin3.ex)
    · obtain rfl : k = (nd A).length := by omega
      have hrd : Rd (fun _ => True) wr (.slice (some ⟨r, 0, none⟩) ((nd A).length + (nd B).length) ((nd A).length + (nd B).length)) P := by
        have := HA.out.rd (p := fun _ => True) (cap := (nd A).length + (nd B).length) (by rw [HL.out]; exact Nat.le_refl _) (by omega) trivial
        rwa [HL.out] at this
      have hnv : nv P = A * B := by rw [HV.out, List.take_of_length_le (Nat.le_refl _), nv_nd]
      have HT := Lib.hid (trim_any wr hrd hPL)
      have HN := Lib.hid hnv
      have hG : Gr w wr := Ex.gr hGr.out (by rw [← HR.out]; exact Nat.le_refl _) hex
      clear hnv hrd
      go_wp2_with fail
      refine HT.out.mono ?_
      rintro e w' ⟨v, rfl, hv, rfl⟩
      rw [HN.out] at hv
      have HF := Lib.hid (num_fit hv hG)
      clear hv
      go_wp2_with fail
      refine HF.out.mono ?_
      rintro e w' ⟨v, er, rfl, hres, hg⟩
      go_wp2_with fail
      go_ret2
      exact ⟨v, er, rfl, hres, hg⟩
end Go.Proofs.YtikkobmccagdlaaGreatDoor
