/- Gcd. -/
import Derived.Test.YtikkobmccagdlaaGreatDoorNde
import Derived.Test.YtikkobmccagdlaaGreatDoorNof
import Derived.WalkKit
import Derived.WalkSpells
import Derived.WalkLawsBesides
import Derived.WalkSmall
import Derived.Handy
import Derived.BigQuiet
import Derived.Deep.QuietTactic
import Derived.Deep.RegionHeld3
import Derived.Deep.DeepFit
import Derived.Below
import Derived.Lib.Hide
import Derived.Lib.QuietBelow
import Derived.Deep.DeepCutAuto
namespace Go.Proofs.YtikkobmccagdlaaGreatDoor
open Go Go.RowKit Go.Sort
set_option maxRecDepth 100000
set_option linter.unusedVariables false
/-- one number -/
def OnePost (w : World) (N : Nat) (e : Ending) (w' : World) : Prop := ∃ v, e = .returned v ∧ Num w' v N ∧ Gr w w'
def GcRel (A B : Nat) (w : World) (va vb : Value) (wr : World) : Prop :=
  ∃ X Y : Nat, Num wr va X ∧ Num wr vb Y ∧ X.gcd Y = A.gcd B ∧ (nd X).length ≤ 256 ∧ (nd Y).length ≤ 256 ∧ Gr w wr
set_option maxHeartbeats 1000000 in
theorem gcd_any {A B : Nat} (va vb : Value) (w : World) (hA : Num w va A) (hB : Num w vb B) (lA : (nd A).length ≤ 256) (lB : (nd B).length ≤ 256) :
    Calls Tryz.prog 18 #[va, vb] w (OnePost w (A.gcd B)) := by
  have HA := Lib.hid hA
  have HB := Lib.hid hB
  have hv1 := Lib.hid (num_valid hA lA)
  have hv2 := Lib.hid (num_valid hB lB)
  clear hA hB
  go_enter Tryz.func18, Tryz.ntmps18
  go_wp2_with fail
  refine hv1.out.mono ?_
  rintro e w' ⟨rfl, rfl⟩
  go_wp2_with fail
  refine hv2.out.mono ?_
  rintro e w' ⟨rfl, rfl⟩
  go_wp2_with fail
  go_loopw [0, 1] (fun a b wr => GcRel A B w a b wr) (fun _ b wr => numOf wr b)
  case atStart => exact ⟨A, B, HA.out, HB.out, rfl, lA, lB, Gr.refl _⟩
  case round =>
    obtain ⟨X, Y, hx, hy, hgc, lx, ly, hg⟩ := hrel
    have HX := Lib.hid hx
    have HY := Lib.hid hy
    have HGC := Lib.hid hgc
    clear hgc
    by_cases h0 : 0 < Y
    · have HD := Lib.hid (divide_full _ _ _ hx hy h0 (by omega))
      have hyl : 0 < (nd Y).length := by rw [nd_pos h0]; simp
      obtain ⟨ax, xc, rfl⟩ := num_len hx
      obtain ⟨ay, yc, rfl⟩ := num_len hy
      have H0 := Lib.hid h0
      clear hx hy h0
      have d0 : decide (0 < (nd Y).length) = true := by simpa using hyl
      go_wp2_with fail
      refine HD.out.mono ?_
      rintro e w2 ⟨vq, vr, rfl, -, hr, hg2⟩
      have HR := Lib.hid hr
      clear hr
      go_wp2_with fail
      go_roundw
      case rel => exact ⟨Y, X % Y, HY.out.gr hg2, HR.out, by rw [← HGC.out, Nat.gcd_comm X Y, Nat.gcd_rec Y X, Nat.gcd_comm], ly, Nat.le_trans (nd_mono (Nat.le_of_lt (Nat.mod_lt X H0.out))) ly, hg.step hg2⟩
      case measure => rw [numOf_eq HR.out, numOf_eq HY.out]; exact Nat.mod_lt X H0.out
    · have HC := Lib.hid (clone_any _ _ _ hx (by omega))
      obtain rfl : Y = 0 := by omega
      rw [Nat.gcd_zero_right] at HGC
      obtain ⟨ax, xc, rfl⟩ := num_len hx
      obtain ⟨ay, yc, rfl⟩ := num_len hy
      rw [nd_zero]
      have HG := Lib.hid hg
      clear hx hy h0 hg
      go_wp2_with fail
      refine HC.out.mono ?_
      rintro e w2 ⟨v2, rfl, hown, hg2⟩
      have HO := Lib.hid hown
      clear hown
      go_wp2_with fail
      go_ret
      exact ⟨_, rfl, by rw [← HGC.out]; exact HO.out.rd.any, HG.out.step hg2⟩
end Go.Proofs.YtikkobmccagdlaaGreatDoor
