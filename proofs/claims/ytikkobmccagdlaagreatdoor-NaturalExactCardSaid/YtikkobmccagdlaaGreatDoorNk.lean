/- Leaf contracts of chapter 2: limb, fit, trim, Valid, addTimes. -/
import Derived.Test.YtikkobmccagdlaaGreatDoorNw
import Derived.WalkKit
import Derived.WalkSpells
import Derived.WalkLawsBesides
import Derived.WalkSmall
import Derived.Handy
import Derived.BigQuiet
import Derived.Deep.QuietTactic
import Derived.Deep.RegionHeld3
import Derived.Deep.DeepFit
import Derived.Below
import Derived.Lib.Hide
import Derived.Lib.QuietBelow
namespace Go.Proofs.YtikkobmccagdlaaGreatDoor
open Go Go.RowKit Go.Sort
set_option maxRecDepth 100000
set_option linter.unusedVariables false

theorem getD_ge {l : List Nat} {i : Nat} (h : ¬ i < l.length) : l.getD i 0 = 0 := by
  rw [List.getD_eq_getElem?_getD, List.getElem?_eq_none (by omega)]; rfl
theorem limb_any {p : Nat → Prop} {v : Value} {l : List Nat} (i : Nat) (w : World) (h : Rd p w v l) :
    Calls Tryz.prog 67 #[v, .int .i64 i] w fun e w' => e = .returned (.int .i64 (l.getD i 0 : Nat)) ∧ w = w' := by
  obtain ⟨a, cap, rfl, hl, hcap, H⟩ := h
  by_cases hlt : i < l.length
  · obtain ⟨b, off, rfl, -, hc⟩ := H i hlt
    clear H
    generalize l.getD i 0 = x at *
    go_enter Tryz.func67, Tryz.ntmps67
    go_wp2
    go_ret
    exact ⟨rfl, rfl⟩
  · rw [getD_ge hlt]
    clear H
    have d : decide (i < l.length) = false := by simpa using hlt
    go_enter Tryz.func67, Tryz.ntmps67
    go_wp2
    go_ret
    exact ⟨rfl, rfl⟩

theorem fit_ok {p : Nat → Prop} {v : Value} {l : List Nat} (w : World) (h : Rd p w v l) (hl : l.length ≤ 256) :
    Calls Tryz.prog 68 #[v] w fun e w' => e = .returned (.tuple #[v, .int .i64 0]) ∧ w = w' := by
  obtain ⟨a, cap, rfl, hl', hcap, H⟩ := h
  clear H
  have d : decide (256 < l.length) = false := by simpa using hl
  go_enter Tryz.func68, Tryz.ntmps68
  go_wp2
  go_ret2
  exact ⟨rfl, rfl⟩
theorem fit_no {p : Nat → Prop} {v : Value} {l : List Nat} (w : World) (h : Rd p w v l) (hl : 256 < l.length) :
    Calls Tryz.prog 68 #[v] w fun e w' => e = .returned (.tuple #[.slice none 0 0, .int .i64 5]) ∧ w = w' := by
  obtain ⟨a, cap, rfl, hl', hcap, H⟩ := h
  clear H
  have d : decide (256 < l.length) = true := by simpa using hl
  go_enter Tryz.func68, Tryz.ntmps68
  go_wp2
  go_ret2
  exact ⟨rfl, rfl⟩

theorem nd_nv_le {l : List Nat} (h : Lim l) : (nd (nv l)).length ≤ l.length := (nd_len _ _).2 (nv_lt h)
theorem nd_take {l : List Nat} (h : Lim l) : nd (nv l) = l.take (nd (nv l)).length := by
  have hle := nd_nv_le h
  refine nv_inj (lim_nd _) (lim_take h _) (by rw [List.length_take, Nat.min_eq_left hle]) ?_
  rw [nv_nd]
  have e := nv_take_drop l _ hle
  have hhi := nd_hi (nv l)
  have : nv (l.drop (nd (nv l)).length) = 0 := by
    apply Decidable.byContradiction; intro hc
    have := Nat.mul_le_mul_left (1073741824 ^ (nd (nv l)).length) (Nat.pos_of_ne_zero hc)
    omega
  rw [this] at e
  omega
/-- the canonical limbs at the front of l -/
def TrimPost (p : Nat → Prop) (w : World) (l : List Nat) (e : Ending) (w' : World) : Prop := ∃ v, e = .returned v ∧ Rd p w v (nd (nv l)) ∧ w = w'
theorem trim_at {p : Nat → Prop} {a : Option Addr} {n cap : Nat} {l : List Nat} (w : World) (h : Rd p w (.slice a n cap) l) (hL : Lim l) :
    Calls Tryz.prog 73 #[.slice a n cap] w fun e w' => e = .returned (.slice a (nd (nv l)).length cap) ∧ w = w' := by
  obtain ⟨a', cap', e, hl', hcap, H⟩ := h
  cases e
  have HH := Lib.hid H
  clear H
  go_enter Tryz.func73, Tryz.ntmps73
  go_wp2
  go_loop [0] (fun s => ∃ k : Nat, k ≤ l.length ∧ s = .slice a k cap ∧ nv (l.take k) = nv l) (fun s => match s with | .slice _ n _ => n | _ => 0)
  case atStart => exact ⟨l.length, Nat.le_refl _, rfl, by rw [List.take_length]⟩
  case round =>
    obtain ⟨k, hk, rfl, hv⟩ := hrel
    have HV := Lib.hid hv
    clear hv
    by_cases hk0 : 0 < k
    · obtain ⟨k, rfl⟩ : ∃ j, k = j + 1 := ⟨k - 1, by omega⟩
      obtain ⟨b, off, rfl, -, hc⟩ := HH.out k (by omega)
      have d1 : decide (0 < k + 1) = true := by simp
      have d2 : decide ((0 : Int) < (k : Int) + 1) = true := by simp
      have e1 : (k : Int) + 1 - 1 = (k : Int) := by omega
      by_cases hz : l.getD k 0 = 0
      · rw [hz] at hc
        have hk1 : (k : Int) ≤ (cap : Int) := by omega
        go_wp2
        go_round
        case rel => exact ⟨k, by omega, rfl, by rw [← nv_trim1 l hz]; exact HV.out⟩
        case measure => simp
      · have hz2 : (((l.getD k 0 : Nat) : Int) == 0) = false := by simpa using hz
        generalize hx : l.getD k 0 = x at *
        have HX := Lib.hid hx
        clear hx
        go_wp2
        go_ret
        have e : l.take (k + 1) = nd (nv l) := by
          rw [← HV.out]
          refine nd_of_last (lim_take hL _) (.inr ?_)
          rw [List.length_take, Nat.min_eq_left (by omega)]
          rw [List.getD_eq_getElem?_getD, List.getElem?_take_of_lt (by omega), ← List.getD_eq_getElem?_getD]
          rw [show k + 1 - 1 = k by omega, HX.out]; exact hz
        have e2 : (nd (nv l)).length = k + 1 := by rw [← e, List.length_take]; omega
        rw [e2]
        exact ⟨rfl, rfl⟩
    · obtain rfl : k = 0 := by omega
      go_wp2
      go_ret
      have e : nv l = 0 := by rw [← HV.out]; rfl
      rw [e, nd_zero]
      exact ⟨rfl, rfl⟩
theorem trim_any {p : Nat → Prop} {v : Value} {l : List Nat} (w : World) (h : Rd p w v l) (hL : Lim l) :
    Calls Tryz.prog 73 #[v] w (TrimPost p w l) := by
  obtain ⟨a, cap, e, hl', hcap, H⟩ := h
  subst e
  have h : Rd p w (.slice a l.length cap) l := ⟨a, cap, rfl, hl', hcap, H⟩
  refine (trim_at w h hL).mono ?_
  rintro e w' ⟨rfl, rfl⟩
  refine ⟨_, rfl, ?_, rfl⟩
  have e := nd_take hL
  have := Rd.take h (k := (nd (nv l)).length) (nd_nv_le hL)
  rw [← e] at this
  exact this
end Go.Proofs.YtikkobmccagdlaaGreatDoor
