/- Chapter 1's numbers, third part. -/
import Derived.Test.YtoaboflepfmkpaaDoorNums
import Derived.Test.YtoaboflepfmkpaaDoorShelf
import Derived.WalkKit
import Derived.WalkSpells
import Derived.WalkLawsBesides
import Derived.WalkSmall
import Derived.Handy
import Derived.BigQuiet
import Derived.Deep.QuietTactic
import Derived.Deep.RegionHeld3
import Derived.Deep.DeepFit
import Derived.Below
import Derived.Lib.Hide
import Derived.Lib.QuietBelow
namespace Go.Proofs.YtoaboflepfmkpaaDoor
open Go Go.RowKit Go.Sort
set_option maxRecDepth 100000
set_option linter.unusedVariables false

theorem cell_far {w : World} {p q : Addr} {x v : Value} (h : q.block ≠ p.block) (hc : w.cell? p = some v) : (w.setCell q x).cell? p = some v := by
  rw [World.cell?_setCell_far _ _ _ _ h]; exact hc
theorem cell_drew {w : World} {p : Addr} {v : Value} (hc : w.cell? p = some v) : w.drew.cell? p = some v := hc

end Go.Proofs.YtoaboflepfmkpaaDoor
