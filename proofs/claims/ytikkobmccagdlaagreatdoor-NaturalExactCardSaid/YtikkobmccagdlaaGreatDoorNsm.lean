/- Same of the document. -/
import Derived.Test.YtikkobmccagdlaaGreatDoorNg
import Derived.Test.YtikkobmccagdlaaGreatDoorNcmp
import Derived.WalkKit
import Derived.WalkSpells
import Derived.WalkLawsBesides
import Derived.WalkSmall
import Derived.Handy
import Derived.BigQuiet
import Derived.Deep.QuietTactic
import Derived.Deep.RegionHeld3
import Derived.Deep.DeepFit
import Derived.Below
import Derived.Lib.Hide
import Derived.Lib.QuietBelow
import Derived.Deep.DeepCutAuto
namespace Go.Proofs.YtikkobmccagdlaaGreatDoor
open Go Go.RowKit Go.Sort
set_option maxRecDepth 100000
set_option linter.unusedVariables false
/-- Same, at equal lists and at numbers -/
theorem same_yes {p q : Nat → Prop} {l : List Nat} (va vb : Value) (w : World) (hA : Rd p w va l) (hB : Rd q w vb l) (hl : l.length ≤ 1000000) :
    Calls Tryz.prog 17 #[va, vb] w fun e w' => e = .returned (.bool true) ∧ Gr w w' := by
  obtain ⟨aa, acap, rfl, -, -, hA⟩ := hA
  obtain ⟨ab, bcap, rfl, -, -, hB⟩ := hB
  have HA := Lib.hid hA
  have HB := Lib.hid hB
  clear hA hB
  have d : ((l.length : Int) != (l.length : Int)) = false := by simp
  go_enter Tryz.func17, Tryz.ntmps17
  go_wp2
  go_loopw [5] (fun s wr => ∃ k : Nat, s = .int .i64 k ∧ k ≤ l.length ∧ Gr w wr) (fun s _ => l.length - (intOf s).toNat)
  case atStart => exact ⟨0, rfl, Nat.zero_le _, Gr.refl _⟩
  case round =>
    obtain ⟨k, rfl, hk, hg⟩ := hrel
    by_cases hlt : k < l.length
    · obtain ⟨ba, oa, rfl, -, ha⟩ := HA.out k hlt
      obtain ⟨bb, ob, rfl, -, hb⟩ := HB.out k hlt
      have ha2 : wr.cell? ⟨ba, oa + k, none⟩ = some (.int .i64 (l.getD k 0 : Nat)) := by rw [(Gr.cells hg).1 _ _ (World.block_lt_of_cell? _ _ ha)]; exact ha
      have hb2 : wr.cell? ⟨bb, ob + k, none⟩ = some (.int .i64 (l.getD k 0 : Nat)) := by rw [(Gr.cells hg).1 _ _ (World.block_lt_of_cell? _ _ hb)]; exact hb
      clear ha hb
      generalize l.getD k 0 = x at *
      have d2 : ((x : Int) != (x : Int)) = false := by simp
      have k0 : (0 : Int) ≤ (k : Int) := by omega
      have k1 : (k : Int) < (l.length : Int) := by omega
      go_wp2_with fail
      go_quiet (fail)
      go_wp2_with fail
      go_roundw
      case rel => exact ⟨k + 1, by go_num, by omega, (by repeat' (first | (with_reducible exact Gr.refl _) | (with_reducible assumption) | (with_reducible refine Gr.drewN ?_ _) | (with_reducible refine Gr.drew ?_) | (with_reducible refine Gr.alloc ?_ _) | (with_reducible refine Gr.setCell ?_ ?_ _) | (with_reducible refine Gr.grow ?_ _ _) | (refine Gr.step ?_ (by with_reducible assumption)) | go_size))⟩
      case measure => simp [intOf]; omega
    · obtain rfl : k = l.length := by omega
      go_wp2_with fail
      go_ret
      exact ⟨rfl, hg⟩
theorem num_same {A B : Nat} {p q : Nat → Prop} (va vb : Value) (w : World) (hA : Rd p w va (nd A)) (hB : Rd q w vb (nd B)) (hAB : A = B) (hl : (nd A).length ≤ 1000000) :
    Calls Tryz.prog 17 #[va, vb] w fun e w' => e = .returned (.bool true) ∧ Gr w w' := by
  subst hAB; exact same_yes va vb w hA hB hl
theorem same_no {A B : Nat} {p q : Nat → Prop} (va vb : Value) (w : World) (hA : Rd p w va (nd A)) (hB : Rd q w vb (nd B)) (hne : A ≠ B) (hl : (nd A).length ≤ 1000000) :
    Calls Tryz.prog 17 #[va, vb] w fun e w' => e = .returned (.bool false) ∧ Gr w w' := by
  obtain ⟨aa, acap, rfl, -, -, hA⟩ := hA
  obtain ⟨ab, bcap, rfl, -, -, hB⟩ := hB
  have HA := Lib.hid hA
  have HB := Lib.hid hB
  have HNE := Lib.hid hne
  clear hA hB hne
  by_cases hL : (nd A).length = (nd B).length
  · have HL := Lib.hid hL
    have d : (((nd A).length : Int) != ((nd B).length : Int)) = false := by simp [hL]
    clear hL
    go_enter Tryz.func17, Tryz.ntmps17
    go_wp2
    go_loopw [5] (fun s wr => ∃ k : Nat, s = .int .i64 k ∧ k ≤ (nd A).length ∧ (∀ i, i < k → (nd A).getD i 0 = (nd B).getD i 0) ∧ Gr w wr) (fun s _ => (nd A).length - (intOf s).toNat)
    case atStart => exact ⟨0, rfl, Nat.zero_le _, fun i hi => by omega, Gr.refl _⟩
    case round =>
      obtain ⟨k, rfl, hk, he, hg⟩ := hrel
      have HE := Lib.hid he
      clear he
      by_cases hlt : k < (nd A).length
      · obtain ⟨ba, oa, rfl, -, ha⟩ := HA.out k hlt
        obtain ⟨bb, ob, rfl, -, hb⟩ := HB.out k (by rw [← HL.out]; exact hlt)
        have ha2 : wr.cell? ⟨ba, oa + k, none⟩ = some (.int .i64 ((nd A).getD k 0 : Nat)) := by rw [(Gr.cells hg).1 _ _ (World.block_lt_of_cell? _ _ ha)]; exact ha
        have hb2 : wr.cell? ⟨bb, ob + k, none⟩ = some (.int .i64 ((nd B).getD k 0 : Nat)) := by rw [(Gr.cells hg).1 _ _ (World.block_lt_of_cell? _ _ hb)]; exact hb
        have k2 : k < (nd B).length := by rw [← HL.out]; exact hlt
        clear ha hb
        by_cases hxy : (nd A).getD k 0 = (nd B).getD k 0
        · have HXY := Lib.hid hxy
          rw [← hxy] at hb2
          clear hxy
          generalize (nd A).getD k 0 = x at ha2 hb2
          have d2 : ((x : Int) != (x : Int)) = false := by simp
          have k0 : (0 : Int) ≤ (k : Int) := by omega
          have k1 : (k : Int) < ((nd A).length : Int) := by omega
          have k3 : (k : Int) < ((nd B).length : Int) := by omega
          go_wp2_with fail
          go_quiet (fail)
          go_wp2_with fail
          go_roundw
          case rel =>
            refine ⟨k + 1, by go_num, by omega, fun i hi => ?_, (by repeat' (first | (with_reducible exact Gr.refl _) | (with_reducible assumption) | (with_reducible refine Gr.drewN ?_ _) | (with_reducible refine Gr.drew ?_) | (with_reducible refine Gr.alloc ?_ _) | (with_reducible refine Gr.setCell ?_ ?_ _) | (with_reducible refine Gr.grow ?_ _ _) | (refine Gr.step ?_ (by with_reducible assumption)) | go_size))⟩
            rcases Nat.lt_or_ge i k with h | h
            · exact HE.out i h
            · obtain rfl : i = k := by omega
              exact HXY.out
          case measure => simp [intOf]; omega
        · generalize (nd A).getD k 0 = x at ha2 hxy
          generalize (nd B).getD k 0 = y at hb2 hxy
          have d2 : ((x : Int) != (y : Int)) = true := by simp; omega
          have k0 : (0 : Int) ≤ (k : Int) := by omega
          have k1 : (k : Int) < ((nd A).length : Int) := by omega
          have k3 : (k : Int) < ((nd B).length : Int) := by omega
          clear hxy
          go_wp2_with fail
          go_quiet (fail)
          go_wp2_with fail
          go_ret
          exact ⟨rfl, (by repeat' (first | (with_reducible exact Gr.refl _) | (with_reducible assumption) | (with_reducible refine Gr.drewN ?_ _) | (with_reducible refine Gr.drew ?_) | (with_reducible refine Gr.alloc ?_ _) | (with_reducible refine Gr.setCell ?_ ?_ _) | (with_reducible refine Gr.grow ?_ _ _) | (refine Gr.step ?_ (by with_reducible assumption)) | go_size))⟩
      · exact absurd (nd_ext HL.out fun i hi => HE.out i (by omega)) HNE.out
  · have d : (((nd A).length : Int) != ((nd B).length : Int)) = true := by simp; omega
    go_enter Tryz.func17, Tryz.ntmps17
    go_wp2
    go_ret
    exact ⟨rfl, Gr.refl _⟩
end Go.Proofs.YtikkobmccagdlaaGreatDoor
