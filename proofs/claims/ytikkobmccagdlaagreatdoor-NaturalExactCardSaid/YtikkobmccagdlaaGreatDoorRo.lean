/- The document's numbers: Order, limb, Compare, Plus. -/
import Derived.Test.YtikkobmccagdlaaGreatDoorNkr
import Derived.Test.YtikkobmccagdlaaGreatDoorNg
import Derived.Test.YtikkobmccagdlaaGreatDoorNcmp
import Derived.Test.YtikkobmccagdlaaGreatDoorRm
import Derived.WalkKit
import Derived.WalkSpells
import Derived.WalkLawsBesides
import Derived.WalkSmall
import Derived.Handy
import Derived.BigQuiet
import Derived.Deep.QuietTactic
import Derived.Deep.RegionHeld3
import Derived.Deep.DeepFit
import Derived.Below
import Derived.Lib.Hide
import Derived.Lib.QuietBelow
import Derived.Deep.DeepCutAuto
namespace Go.Proofs.YtikkobmccagdlaaGreatDoor
open Go Go.RowKit Go.Sort
set_option maxRecDepth 100000
set_option linter.unusedVariables false
/-- one number -/
def OneNum (w : World) (N : Nat) (e : Ending) (w' : World) : Prop := ∃ v, e = .returned v ∧ Num w' v N ∧ Gr w w'
theorem rorder_any (x y : Int) (w : World) :
    Calls Tryz.prog 81 #[.int .i64 x, .int .i64 y] w fun e w' => e = .returned (.int .i64 (Lib.compareInt x y)) ∧ w = w' := by
  rcases Int.lt_trichotomy x y with h | h | h
  · have E : Hid (Lib.compareInt x y = -1) := Lib.hid (by unfold Lib.compareInt; rw [if_pos h])
    go_enter Tryz.func81, Tryz.ntmps81
    go_wp2
    go_ret
    exact ⟨ret_int E.out.symm, rfl⟩
  · have E : Hid (Lib.compareInt x y = 0) := Lib.hid (by unfold Lib.compareInt; rw [if_neg (by omega), if_neg (by omega)])
    have h1 : ¬ x < y := by omega
    have h2 : ¬ y < x := by omega
    clear h
    go_enter Tryz.func81, Tryz.ntmps81
    go_wp2
    go_ret
    exact ⟨ret_int E.out.symm, rfl⟩
  · have E : Hid (Lib.compareInt x y = 1) := Lib.hid (by unfold Lib.compareInt; rw [if_neg (by omega), if_pos (by omega)])
    have h1 : ¬ x < y := by omega
    go_enter Tryz.func81, Tryz.ntmps81
    go_wp2
    go_ret
    exact ⟨ret_int E.out.symm, rfl⟩
theorem rlimb_any {p : Nat → Prop} {v : Value} {l : List Nat} (i : Nat) (w : World) (h : Rd p w v l) :
    Calls Tryz.prog 88 #[v, .int .i64 i] w fun e w' => e = .returned (.int .i64 (l.getD i 0 : Nat)) ∧ w = w' := by
  obtain ⟨a, cap, rfl, hl, hcap, H⟩ := h
  by_cases hlt : i < l.length
  · obtain ⟨b, off, rfl, -, hc⟩ := H i hlt
    clear H
    generalize l.getD i 0 = x at *
    go_enter Tryz.func88, Tryz.ntmps88
    go_wp2
    go_ret
    exact ⟨rfl, rfl⟩
  · rw [getD_ge hlt]
    clear H
    have d : decide (i < l.length) = false := by simpa using hlt
    go_enter Tryz.func88, Tryz.ntmps88
    go_wp2
    go_ret
    exact ⟨rfl, rfl⟩
set_option maxHeartbeats 1000000 in
theorem rcmp_nat {A B : Nat} (va vb : Value) (w : World) (hA : Num w va A) (hB : Num w vb B) (lA : (nd A).length ≤ 1000000) (_ : (nd B).length ≤ 1000000) :
    Calls Tryz.prog 21 #[va, vb] w fun e w' => e = .returned (.int .i64 (ncmp A B)) ∧ Gr w w' := by
  obtain ⟨aa, acap, rfl, -, -, hA⟩ := hA
  obtain ⟨ab, bcap, rfl, -, -, hB⟩ := hB
  have HA := Lib.hid hA
  have HB := Lib.hid hB
  clear hA hB
  by_cases hl : (nd A).length = (nd B).length
  · have d : (((nd A).length : Int) != ((nd B).length : Int)) = false := by simp [hl]
    have HL := Lib.hid hl
    clear hl
    go_enter Tryz.func21, Tryz.ntmps21
    go_wp2
    go_loopw [5] (fun s wr => ∃ k : Nat, s = .int .i64 ((k : Int) - 1) ∧ k ≤ (nd A).length ∧ (∀ j, k ≤ j → j < (nd A).length → (nd A).getD j 0 = (nd B).getD j 0) ∧ Gr w wr) (fun s _ => (intOf s + 1).toNat)
    case atStart => exact ⟨(nd A).length, rfl, Nat.le_refl _, fun j h1 h2 => by omega, Gr.refl _⟩
    case round =>
      obtain ⟨k, rfl, hk, he, hg⟩ := hrel
      have HE := Lib.hid he
      clear he
      by_cases hk0 : 0 < k
      · obtain ⟨k, rfl⟩ : ∃ j, k = j + 1 := ⟨k - 1, by omega⟩
        have e1 : ((k + 1 : Nat) : Int) - 1 = (k : Int) := by omega
        rw [e1]
        obtain ⟨ba, oa, rfl, -, ha⟩ := HA.out k (by omega)
        obtain ⟨bb, ob, rfl, -, hb⟩ := HB.out k (by rw [← HL.out]; omega)
        have ha2 : wr.cell? ⟨ba, oa + k, none⟩ = some (.int .i64 ((nd A).getD k 0 : Nat)) := by rw [(Gr.cells hg).1 _ _ (World.block_lt_of_cell? _ _ ha)]; exact ha
        have hb2 : wr.cell? ⟨bb, ob + k, none⟩ = some (.int .i64 ((nd B).getD k 0 : Nat)) := by rw [(Gr.cells hg).1 _ _ (World.block_lt_of_cell? _ _ hb)]; exact hb
        have k0 : (0 : Int) ≤ (k : Int) := by omega
        have k1 : (k : Int) < ((nd A).length : Int) := by omega
        have k2 : k < (nd B).length := by rw [← HL.out]; omega
        have k3 : (k : Int) < ((nd B).length : Int) := by omega
        clear ha hb e1
        by_cases hxy : (nd A).getD k 0 = (nd B).getD k 0
        · have HXY := Lib.hid hxy
          rw [← hxy] at hb2
          clear hxy
          generalize (nd A).getD k 0 = x at ha2 hb2
          have d2 : ((x : Int) != (x : Int)) = false := by simp
          go_wp2_with fail
          go_quiet (fail)
          go_wp2_with fail
          go_roundw
          case rel =>
            refine ⟨k, rfl, by omega, fun j h1 h2 => ?_, (by repeat' (first | (with_reducible exact Gr.refl _) | (with_reducible assumption) | (with_reducible refine Gr.drewN ?_ _) | (with_reducible refine Gr.drew ?_) | (with_reducible refine Gr.alloc ?_ _) | (with_reducible refine Gr.setCell ?_ ?_ _) | (with_reducible refine Gr.grow ?_ _ _) | (refine Gr.step ?_ (by with_reducible assumption)) | go_size))⟩
            rcases Nat.lt_or_ge k j with h | h
            · exact HE.out j (by omega) h2
            · obtain rfl : j = k := by omega
              exact HXY.out
          case measure => simp [intOf]
        · have HN := Lib.hid (ncmp_at HL.out (show k < (nd A).length by omega) (fun j h1 h2 => HE.out j (by omega) h2) hxy)
          generalize (nd A).getD k 0 = x at ha2 hxy HN
          generalize (nd B).getD k 0 = y at hb2 hxy HN
          have d2 : ((x : Int) != (y : Int)) = true := by simp; omega
          have HO : ∀ W, Calls Tryz.prog 81 #[.int .i64 (x : Int), .int .i64 (y : Int)] W fun e w' => e = .returned (.int .i64 (Lib.compareInt (x : Int) (y : Int))) ∧ W = w' := fun W => rorder_any _ _ W
          clear hxy
          go_wp2_with fail
          go_quiet (fail)
          have hgq : Gr w (wr.drewN nq) := Gr.drewN hg nq
          have ha3 : (wr.drewN nq).cell? ⟨ba, oa + k, none⟩ = some (.int .i64 (x : Nat)) := ha2
          have hb3 : (wr.drewN nq).cell? ⟨bb, ob + k, none⟩ = some (.int .i64 (y : Nat)) := hb2
          clear ha2 hb2
          generalize wr.drewN nq = w3 at *
          go_wp2_with fail
          go_quiet ((go_at_call 81; exact Calls.quiet_of_same ((HO _).mono fun e w' ⟨he, hw⟩ => ⟨he, hw.symm⟩)))
          go_wp2_with fail
          go_ret
          exact ⟨ret_int HN.out, (by repeat' (first | (with_reducible exact Gr.refl _) | (with_reducible assumption) | (with_reducible refine Gr.drewN ?_ _) | (with_reducible refine Gr.drew ?_) | (with_reducible refine Gr.alloc ?_ _) | (with_reducible refine Gr.setCell ?_ ?_ _) | (with_reducible refine Gr.grow ?_ _ _) | (refine Gr.step ?_ (by with_reducible assumption)) | go_size))⟩
      · obtain rfl : k = 0 := by omega
        have hAB : A = B := nd_ext HL.out fun i hi => HE.out i (by omega) hi
        have HN : Hid ((0 : Int) = ncmp A B) := Lib.hid (by rw [hAB, ncmp_eq])
        have e0 : ((0 : Nat) : Int) - 1 = -1 := by omega
        rw [e0]
        clear hAB
        go_wp2_with fail
        go_ret
        exact ⟨ret_int HN.out, hg⟩
  · have HN := Lib.hid (ncmp_len hl)
    have d : (((nd A).length : Int) != ((nd B).length : Int)) = true := by simp; omega
    go_enter Tryz.func21, Tryz.ntmps21
    go_wp2_with (go_at_call 81; refine (rorder_any _ _ _).mono ?_; rintro e w' ⟨rfl, rfl⟩)
    go_ret
    exact ⟨ret_int HN.out, Gr.refl _⟩
end Go.Proofs.YtikkobmccagdlaaGreatDoor
