/- addTimes. -/
import Derived.Test.YtikkobmccagdlaaGreatDoorNvl
import Derived.WalkKit
import Derived.WalkSpells
import Derived.WalkLawsBesides
import Derived.WalkSmall
import Derived.Handy
import Derived.BigQuiet
import Derived.Deep.QuietTactic
import Derived.Deep.RegionHeld3
import Derived.Deep.DeepFit
import Derived.Below
import Derived.Lib.Hide
import Derived.Lib.QuietBelow
namespace Go.Proofs.YtikkobmccagdlaaGreatDoor
open Go Go.RowKit Go.Sort
set_option maxRecDepth 100000
set_option linter.unusedVariables false

def AtPost (r off : Nat) (la lb : List Nat) (f : Int) (w : World) (e : Ending) (w' : World) : Prop :=
  ∃ (c : Int) (l : List Nat), e = .returned (.int .i64 c) ∧ l.length = la.length ∧ Lim l ∧ -1073741824 < c ∧ c < 1073741824 ∧ ((nv l : Nat) : Int) + c * 1073741824 ^ la.length = (nv la : Nat) + f * (nv lb : Nat) ∧ Arr w' r off l ∧ Win r off la.length w w'
theorem getD_mid (pre l : List Nat) (k : Nat) (h : pre.length = k) : (pre ++ l.drop k).getD k 0 = l.getD k 0 := by
  rw [List.getD_eq_getElem?_getD, List.getElem?_append_right (by omega), List.getElem?_drop, List.getD_eq_getElem?_getD]; congr 2; omega
theorem set_mid (pre l : List Nat) (k x : Nat) (h : pre.length = k) (hk : k < l.length) : (pre ++ l.drop k).set k x = pre ++ [x] ++ l.drop (k + 1) := by
  rw [List.set_append_right _ _ (by omega), drop_cons hk, show k - pre.length = 0 by omega, List.set_cons_zero]; simp
set_option maxHeartbeats 1000000 in
theorem addTimes_any (la lb : List Nat) (f : Int) (r off cap : Nat) (vb : Value) (w : World) (hA : Arr w r off la) (hB : Rd (· ≠ r) w vb lb) (lA : Lim la) (lB : Lim lb) (hl : lb.length ≤ la.length)
    (f0 : -1073741824 < f) (f1 : f < 1073741824) (hn : la.length ≤ 1000000) :
    Calls Tryz.prog 72 #[.slice (some ⟨r, off, none⟩) la.length cap, vb, .int .i64 f] w (AtPost r off la lb f w) := by
  have HA := Lib.hid hA
  have HB := Lib.hid hB
  have HLA := Lib.hid lA
  have HLB := Lib.hid lB
  obtain ⟨bb, bcap, rfl, -, -, -⟩ := hB
  clear hA lA lB
  go_enter Tryz.func72, Tryz.ntmps72
  go_wp2
  go_loopw [7, 11] (fun cv s wr => ∃ (k : Nat) (c : Int) (pre : List Nat), k ≤ la.length ∧ s = .int .i64 k ∧ cv = .int .i64 c ∧ pre.length = k ∧ Lim pre ∧ -1073741824 < c ∧ c < 1073741824 ∧ ((nv pre : Nat) : Int) + c * 1073741824 ^ k = (nv (la.take k) : Nat) + f * (nv (lb.take k) : Nat) ∧ Arr wr r off (pre ++ la.drop k) ∧ Win r off la.length w wr) (fun _ s _ => la.length - (intOf s).toNat)
  case atStart => exact ⟨0, 0, [], Nat.zero_le _, rfl, rfl, rfl, lim_nil, by omega, by omega, by simp [nv], HA.out, Win.refl _ _ _ _⟩
  case round =>
    obtain ⟨k, c, pre, hk, rfl, rfl, hp, hpl, c0, c1, hv, harr, hwin⟩ := hrel
    have HV := Lib.hid hv
    have HP := Lib.hid hp
    have HR := Lib.hid harr
    have HW := Lib.hid hwin
    clear hv hp harr hwin
    by_cases hlt : k < la.length
    · have hx := lim_getD HLA.out k
      have hy := lim_getD HLB.out k
      obtain ⟨b1, b2, b3, b4, b5, b6⟩ := at_bound c0 c1 f0 f1 hx hy
      have hcell := (HR.out k (by rw [List.length_append, List.length_drop, HP.out]; omega)).1
      rw [getD_mid _ _ _ HP.out] at hcell
      have hfroz := (HR.out k (by rw [List.length_append, List.length_drop, HP.out]; omega)).2
      have hlimb := fun n => limb_any k (wr.drewN n) ((HB.out.ex HW.out.ex).gr (Gr.drewN (Gr.refl _) n))
      have HS := Lib.hid (at_step (x := (la.getD k 0 : Nat)) (y := (lb.getD k 0 : Nat)) HV.out)
      generalize hxx : la.getD k 0 = x at hcell hx b1 b2 b3 b4 HS
      generalize hyy : lb.getD k 0 = y at hlimb hy b1 b2 b3 b4 b5 b6 HS
      have HXX := Lib.hid hxx
      have HYY := Lib.hid hyy
      obtain ⟨z, hz⟩ : ∃ z : Int, z = f * (y : Int) := ⟨_, rfl⟩
      rw [← hz] at b1 b2 b3 b4 b5 b6
      have m1 : IntKind.i64.wrap (f * (y : Int)) = z := by rw [← hz]; exact IntWalk.i64_in _ (by omega)
      have m2 : IntKind.i64.wrap ((x : Int) + z) = (x : Int) + z := IntWalk.i64_in _ (by omega)
      have m3 : IntKind.i64.wrap (c + ((x : Int) + z)) = c + ((x : Int) + z) := IntWalk.i64_in _ (by omega)
      have HZ := Lib.hid hz
      have hd := Int.emod_nonneg (c + ((x : Int) + z)) (show (1073741824 : Int) ≠ 0 by decide)
      have hd2 := Int.emod_lt_of_pos (c + ((x : Int) + z)) (show (0 : Int) < 1073741824 by decide)
      have HD := Lib.hid hd
      have HD2 := Lib.hid hd2
      have ha := and30 (c + ((x : Int) + z))
      clear hz hxx hyy hd hd2
      go_wp2
      go_quiet ((go_at_call 67; exact Calls.quiet_of_same ((hlimb _).mono fun e w' ⟨he, hw⟩ => ⟨he, hw.symm⟩)))
      go_wp2
      go_roundw
      case rel =>
        have e0 : c + (x : Int) + f * (y : Int) = c + ((x : Int) + z) := by rw [HZ.out]; omega
        have hs := HS.out
        rw [e0] at hs
        obtain ⟨d, hd⟩ : ∃ d : Nat, (d : Int) = (c + ((x : Int) + z)) % 1073741824 := ⟨_, Int.toNat_of_nonneg HD.out⟩
        have hd2 := HD2.out
        rw [← hd] at hs hd2 ⊢
        have e1 : ((nv (pre ++ [d]) : Nat) : Int) = (nv pre : Nat) + 1073741824 ^ k * (d : Int) := by rw [nv_append, HP.out]; simp [nv]
        have e2 : ((nv (la.take (k + 1)) : Nat) : Int) = (nv (la.take k) : Nat) + 1073741824 ^ k * (x : Int) := by rw [take_split', HXX.out]; simp
        have e3 : ((nv (lb.take (k + 1)) : Nat) : Int) = (nv (lb.take k) : Nat) + 1073741824 ^ k * (y : Int) := by rw [take_split', HYY.out]; simp
        refine ⟨k + 1, _, pre ++ [d], by omega, by go_num, rfl, by simp [HP.out], lim_append.2 ⟨hpl, lim_cons.2 ⟨by omega, lim_nil⟩⟩, b3, b4, ?_, ?_, ?_⟩
        · rw [e1, e2, e3, Int.pow_succ, Int.mul_comm (1073741824 ^ k) 1073741824]; exact hs
        · have h1 := (HR.out.gr (Gr.drewN (Gr.refl _) nq)).set (i := k) (by rw [List.length_append, List.length_drop, HP.out]; omega) d
          rw [set_mid _ _ _ _ HP.out hlt] at h1
          exact h1
        · exact HW.out.trans ((Win.gr (Gr.drewN (Gr.refl _) nq) (World.block_lt_of_cell? _ _ hcell)).trans (Win.set _ _ (by omega) (by omega)))
      case measure => simp [intOf]; omega
    · obtain rfl : k = la.length := by omega
      go_wp2
      go_ret
      refine ⟨c, pre, rfl, HP.out, hpl, c0, c1, ?_, ?_, HW.out⟩
      · have := HV.out
        rw [List.take_of_length_le (Nat.le_refl _), List.take_of_length_le (by omega)] at this
        exact this
      · have := HR.out
        rw [List.drop_of_length_le (Nat.le_refl _), List.append_nil] at this
        exact this
theorem addTimes_nil (f : Int) (vb : Value) (w : World) :
    Calls Tryz.prog 72 #[.slice none 0 0, vb, .int .i64 f] w fun e w' => e = .returned (.int .i64 0) ∧ w = w' := by
  go_enter Tryz.func72, Tryz.ntmps72
  go_wp2
  go_loop [7, 11] (fun cv s => cv = .int .i64 0 ∧ s = .int .i64 0) (fun _ _ => 0)
  case atStart => exact ⟨rfl, rfl⟩
  case round =>
    obtain ⟨rfl, rfl⟩ := hrel
    go_wp2
    go_ret
    exact ⟨rfl, rfl⟩
end Go.Proofs.YtikkobmccagdlaaGreatDoor
