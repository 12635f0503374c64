/- Sub. -/
import Derived.Test.YtikkobmccagdlaaGreatDoorNmul
import Derived.Test.YtikkobmccagdlaaGreatDoorNcl
import Derived.Test.YtikkobmccagdlaaGreatDoorNcmp
import Derived.WalkKit
import Derived.WalkSpells
import Derived.WalkLawsBesides
import Derived.WalkSmall
import Derived.Handy
import Derived.BigQuiet
import Derived.Deep.QuietTactic
import Derived.Deep.RegionHeld3
import Derived.Deep.DeepFit
import Derived.Below
import Derived.Lib.Hide
import Derived.Lib.QuietBelow
import Derived.Deep.DeepCutAuto
namespace Go.Proofs.YtikkobmccagdlaaGreatDoor
open Go Go.RowKit Go.Sort
set_option maxRecDepth 100000
set_option linter.unusedVariables false

/-- a difference, or an error because it is less than 0 -/
def SubRes (w : World) (A B : Nat) (e : Ending) (w' : World) : Prop :=
  ∃ (v : Value) (er : Int), e = .returned (.tuple #[v, .int .i64 er]) ∧ ((B ≤ A ∧ er = 0 ∧ Num w' v (A - B)) ∨ (A < B ∧ er = 15 ∧ v = .slice none 0 0)) ∧ Gr w w'
set_option maxHeartbeats 1000000 in
theorem sub_any {A B : Nat} (va vb : Value) (w : World) (hA : Num w va A) (hB : Num w vb B) (lA : (nd A).length ≤ 256) (lB : (nd B).length ≤ 256) :
    Calls Tryz.prog 11 #[va, vb] w (SubRes w A B) := by
  have hA0 := hA
  have hB0 := hB
  obtain ⟨aa, acap, rfl, -, -, -⟩ := hA
  obtain ⟨ab, bcap, rfl, -, -, -⟩ := hB
  have hA := Lib.hid hA0
  have hB := Lib.hid hB0
  have va := Lib.hid (num_valid hA0 lA)
  have vb := Lib.hid (num_valid hB0 lB)
  have vc := Lib.hid (cmp_any _ _ w hA0 hB0 (by omega))
  clear hA0 hB0
  by_cases hlt : A < B
  · have HC : Hid (ncmp A B = -1) := Lib.hid (ncmp_lt hlt)
    have HL := Lib.hid hlt
    clear hlt
    go_enter Tryz.func11, Tryz.ntmps11
    go_wp2_with fail
    refine va.out.mono ?_
    rintro e w' ⟨rfl, rfl⟩
    go_wp2_with fail
    refine vb.out.mono ?_
    rintro e w' ⟨rfl, rfl⟩
    go_wp2_with fail
    refine vc.out.mono ?_
    rintro e w1 ⟨rfl, hg1⟩
    rw [HC.out]
    go_wp2_with fail
    go_ret2
    exact ⟨_, 15, rfl, .inr ⟨HL.out, rfl, rfl⟩, hg1⟩
  · have hle : B ≤ A := by omega
    have HC : Hid (0 ≤ ncmp A B) := Lib.hid (by rcases Nat.eq_or_lt_of_le hle with rfl | h; rw [ncmp_eq]; omega; rw [ncmp_gt h]; omega)
    have HL := Lib.hid hle
    clear hlt hle
    go_enter Tryz.func11, Tryz.ntmps11
    go_wp2_with fail
    refine va.out.mono ?_
    rintro e w' ⟨rfl, rfl⟩
    go_wp2_with fail
    refine vb.out.mono ?_
    rintro e w' ⟨rfl, rfl⟩
    go_wp2_with fail
    refine vc.out.mono ?_
    rintro e w1 ⟨rfl, hg1⟩
    have d : decide (ncmp A B < 0) = false := by have := HC.out; simpa using this
    go_wp2_with fail
    refine (clone_any _ _ w1 (hA.out.gr hg1) (by omega)).mono ?_
    rintro e w2 ⟨v2, rfl, hown, hg2⟩
    have hG := hg1.step hg2
    rcases hown.is with ⟨rfl, hz⟩ | ⟨g, cap, rfl, hb, hcap, hcap2, harr, hlt⟩
    · have hA0 : A = 0 := by rw [← nv_nd A, hz]; rfl
      have hN : Num w2 (.slice none 0 0) (A - B) := by rw [hA0, Nat.zero_sub]; exact Num.nil _
      have HT := Lib.hid (trim_any w2 hN (lim_nd _))
      clear hz hA0 hN hown
      go_wp2_with (go_at_call 72; refine (addTimes_nil _ _ _).mono ?_; rintro e w' ⟨rfl, rfl⟩)
      refine HT.out.mono ?_
      rintro e w' ⟨v, rfl, hv, rfl⟩
      rw [nv_nd] at hv
      have HV := Lib.hid hv
      clear hv
      go_wp2_with fail
      go_ret2
      exact ⟨_, 0, rfl, .inl ⟨HL.out, rfl, HV.out⟩, hG⟩
    · have hC := addTimes_any (nd A) (nd B) (-1) g 0 cap (.slice ab (nd B).length bcap) w2 harr (Rd.gr (Rd.off (hB.out.gr hg1) hb) hg2) (lim_nd A) (lim_nd B) (nd_mono HL.out) (by omega) (by omega) (by omega)
      have HAT := Lib.hid hC
      have HO := Lib.hid hown
      clear hC hown harr
      go_wp2_with fail
      refine HAT.out.mono ?_
      rintro e w3 ⟨c, l, rfl, hll, hlL, -, -, heq, harr3, hwin3⟩
      have hp : (1073741824 : Int) ^ (nd A).length = ((1073741824 ^ (nd A).length : Nat) : Int) := by simp
      have hc0 : c = 0 := by
        have h1 := nv_lt hlL
        have h2 := nd_hi A
        have h3 := HL.out
        rw [hll] at h1
        refine carry_zero _ heq (by omega) (by rw [hp]; omega) ?_ ?_
        · rw [nv_nd, nv_nd]; omega
        · rw [nv_nd, nv_nd, hp]; omega
      have hv : nv l = A - B := by
        rw [hc0, nv_nd, nv_nd, Int.zero_mul] at heq
        have := HL.out
        omega
      have hrd : Rd (fun _ => True) w3 (.slice (some ⟨g, 0, none⟩) (nd A).length cap) l := by
        have := harr3.rd (p := fun _ => True) (cap := cap) (by omega) hcap2 trivial
        rwa [hll] at this
      have HT := Lib.hid (trim_any w3 hrd hlL)
      have HN := Lib.hid hv
      have hG3 : Gr w w3 := hg1.step (Ex.gr hg2 hb hwin3.ex)
      clear hp hc0 hv hrd heq
      go_wp2_with fail
      refine HT.out.mono ?_
      rintro e w' ⟨v, rfl, hv, rfl⟩
      rw [HN.out] at hv
      have HV := Lib.hid hv
      clear hv
      go_wp2_with fail
      go_ret2
      exact ⟨_, 0, rfl, .inl ⟨HL.out, rfl, HV.out⟩, hG3⟩
end Go.Proofs.YtikkobmccagdlaaGreatDoor
