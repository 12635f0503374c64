/- The document's Compare of fractions. -/
import Derived.Test.YtjpjnbgfodlkcaaGreatDoorHfM
import Derived.WalkKit
import Derived.WalkSpells
import Derived.WalkLawsBesides
import Derived.WalkSmall
import Derived.Handy
import Derived.BigQuiet
import Derived.Deep.QuietTactic
import Derived.Deep.RegionHeld3
import Derived.Deep.DeepFit
import Derived.Below
import Derived.Lib.Hide
import Derived.Lib.QuietBelow
namespace Go.Proofs.YtjpjnbgfodlkcaaGreatDoor
open Go Go.RowKit Go.Sort
set_option maxRecDepth 100000
set_option linter.unusedVariables false
theorem rfcompare_any {a b : Rat} (v u : Value) (w : World) (ha : Fra w v a) (hb : Fra w u b) :
    Calls Tryz.prog 23 #[v, u] w fun e w' => e = .returned (.tuple #[.int .i64 (rcmp a b), .int .i64 0]) ∧ Gr w w' := by
  have HFA := Lib.hid ha
  have HFB := Lib.hid hb
  obtain ⟨x, va, vb, A, B, rfl, hA, hB, -⟩ := id ha
  obtain ⟨y, vc, vd, C, D, rfl, hC, hD, -⟩ := id hb
  clear ha hb
  have HA := Lib.hid hA
  have HB := Lib.hid hB
  have HC := Lib.hid hC
  have HD := Lib.hid hD
  obtain ⟨aa, ca, rfl⟩ := num_slice hA
  obtain ⟨ab, cb, rfl⟩ := num_slice hB
  obtain ⟨ac, cc, rfl⟩ := num_slice hC
  obtain ⟨ad, cd, rfl⟩ := num_slice hD
  clear hA hB hC hD
  have hX0 := C3.new w (.bool x) (.slice aa (nd A).length ca) (.slice ab (nd B).length cb) 26 w.heap.size rfl
  have hX1 := hX0.gr (Gr.alloc (Gr.refl _) (.cells #[.bool y, .slice ac (nd C).length cc, .slice ad (nd D).length cd] 26))
  have hY1 := C3.new (w.alloc (.cells #[.bool x, .slice aa (nd A).length ca, .slice ab (nd B).length cb] 26)) (.bool y) (.slice ac (nd C).length cc) (.slice ad (nd D).length cd) 26 (w.heap.size + 1) (by simp)
  have hG1 : Gr w ((w.alloc (.cells #[.bool x, .slice aa (nd A).length ca, .slice ab (nd B).length cb] 26)).alloc (.cells #[.bool y, .slice ac (nd C).length cc, .slice ad (nd D).length cd] 26)) := (Gr.alloc (Gr.refl _) _).alloc _
  go_enter Tryz.func23, Tryz.ntmps23
  obtain ⟨xc0, xc1, xc2, -, -, -, -, -⟩ := id hX1
  obtain ⟨yc0, yc1, yc2, -, -, -, -, -⟩ := id hY1
  clear hX0 hX1 hY1
  go_wp2_with fail
  refine (rforder_any _ _ _ (HFA.out.gr hG1) (HFB.out.gr hG1)).mono ?_
  rintro e w1 ⟨rfl, hg⟩
  have HG := Lib.hid (hG1.step hg)
  clear hg hG1
  go_wp2_with fail
  go_ret2
  exact ⟨rfl, HG.out⟩
end Go.Proofs.YtjpjnbgfodlkcaaGreatDoor
