/- Worlds that have grown by an append; numbers of one limb. -/
import Derived.Test.YtikkobmccagdlaaGreatDoorNadd
import Derived.WalkKit
import Derived.WalkSpells
import Derived.WalkLawsBesides
import Derived.WalkSmall
import Derived.Handy
import Derived.BigQuiet
import Derived.Deep.QuietTactic
import Derived.Deep.RegionHeld3
import Derived.Deep.DeepFit
import Derived.Below
import Derived.Lib.Hide
import Derived.Lib.QuietBelow
import Derived.Deep.DeepCutAuto
namespace Go.Proofs.YtikkobmccagdlaaGreatDoor
open Go Go.RowKit Go.Sort
set_option maxRecDepth 100000
set_option linter.unusedVariables false
theorem Ex.ofGrown {v w : World} {k : Nat} (g : v.grownBy w (some k)) : Ex k v w := ⟨g.os, g.tape, g.output, g.size, fun j hj hs => g.block j hs (fun hc => hj (Option.some.inj hc))⟩
theorem Gr.ofGrown {v w : World} (g : v.grownBy w none) : Gr v w := Gr.grown (Gr.refl _) g (fun _ h => by cases h)
theorem Ex.grown {b : Nat} {u v w : World} {row : Option Nat} (h : Ex b u v) (g : v.grownBy w row) (hr : ∀ k, row = some k → u.heap.size ≤ k) : Ex b u w :=
  ⟨g.os.trans h.os, g.tape.trans h.tape, g.output.trans h.output, Nat.le_trans h.size g.size, fun j hj hs => (g.block j (Nat.lt_of_lt_of_le hs h.size) (fun hc => by have := hr j hc.symm; omega)).trans (h.block j hj hs)⟩
theorem Own.ex {w w' : World} {base b : Nat} {v : Value} {l : List Nat} (h : Own w base v l) (g : Ex b w w') (hb : b < base) : Own w' base v l := by
  refine World.ownsRow.kept (row := some b) h ⟨g.os, g.tape, g.output, g.size, fun k hk hne => g.block k (fun e => hne (by rw [e])) hk⟩ ?_
  cases hv : v.ownBlock with
  | none => exact .inl rfl
  | some k => exact .inr (fun e => by have := (World.ownsRow.lt h k hv).1; cases e; omega)
theorem nd_one {x : Nat} (h0 : 0 < x) (h1 : x < 1073741824) : nd x = [x] := by rw [nd_pos h0, Nat.mod_eq_of_lt h1, Nat.div_eq_of_lt h1, nd_zero]
/-- a list of one limb, made by the call -/
theorem num_lit (w : World) (x : Nat) (z : Int) (hz : z = x) (h0 : 0 < x) (h1 : x < 1073741824) : Num (w.alloc (.cells #[.int .i64 z] 3)) (.slice (some ⟨w.heap.size, 0, none⟩) 1 1) x := by
  subst hz
  unfold Num
  rw [nd_one h0 h1]
  refine ⟨_, 1, rfl, Nat.le_refl _, by omega, fun i hi => ⟨w.heap.size, 0, rfl, trivial, ?_⟩⟩
  obtain rfl : i = 0 := by simp at hi; omega
  simp
theorem nd_two : nd 1073741824 = [0, 1] := by rw [nd_pos (by omega), show 1073741824 / 1073741824 = 1 from rfl, nd_one (by omega) (by omega)]
end Go.Proofs.YtikkobmccagdlaaGreatDoor
