/- Cover, the landed one: the list that it returns. -/
import Derived.Test.YtoaboflepfmkpaaDoorCovLeaf
import Derived.WalkKit
import Derived.WalkSpells
import Derived.WalkLawsBesides
import Derived.WalkSmall
import Derived.Handy
import Derived.BigQuiet
import Derived.Deep.QuietTactic
import Derived.Deep.RegionHeld3
import Derived.Deep.DeepFit
import Derived.Below
import Derived.Lib.Hide
import Derived.Lib.QuietBelow
import Derived.Maps.AppendAt
import Derived.Laws.OwnMore
import Derived.Deep.DeepCutAuto
namespace Go.Proofs.YtoaboflepfmkpaaDoor
open Go Go.RowKit Go.Sort
set_option maxRecDepth 100000
set_option linter.unusedVariables false

def encE (x : Nat × Nat) : List Value := [.int .u32 x.1, .int .i64 ((32 - x.2 : Nat) : Int)]
theorem Gr.owns {w w' : World} {base : Nat} {e : TypeId} {size : Nat} {v : Value} {n : Nat} {xs : List Value} (g : Gr w w') (h : w.ownsRow base e size v n xs) : w'.ownsRow base e size v n xs :=
  h.kept (row := none) ⟨Below.os g, Below.tape g, Below.output g, Gr.size g, fun k hk _ => Below.block g k hk⟩ (Decidable.em _)
theorem Gr.grown {u v w : World} {row : Option Nat} (h : Gr u v) (g : v.grownBy w row) (hr : ∀ k, row = some k → u.heap.size ≤ k) : Gr u w :=
  ⟨g.os.trans (Below.os h), g.tape.trans (Below.tape h), g.output.trans (Below.output h), Nat.le_trans (Below.size h) g.size, fun j hj => (g.block j (Nat.lt_of_lt_of_le hj (Below.size h)) (fun hc => by have := hr j hc.symm; omega)).trans (Below.block h j hj)⟩
theorem cov_sum (s f hi : Nat) (h : s + 2 ^ f ≤ hi + 1) (hh : hi < 2 ^ 32) : IntKind.u64.wrap ((s : Int) + IntKind.u64.wrap (2 ^ f)) = ((s + 2 ^ f : Nat) : Int) := by
  have hp : (2 : Int) ^ f = ((2 ^ f : Nat) : Int) := by simp
  rw [hp, IntKind.wrap_u64, IntKind.wrap_u64]
  clear hp
  generalize 2 ^ f = q at *
  omega
theorem prefInfo : ∃ i z, Tryd.prog.info? 36 = some i ∧ i.zero = some z ∧ i.size = 2 ∧ i.bytes = 16 ∧ z.cells.size = 2 := by
  have h : (match Tryd.prog.info? 36 with | some i => (match i.zero with | some z => i.size == 2 && i.bytes == 16 && z.cells.size == 2 | none => false) | none => false) = true := by kernel_rfl
  cases h1 : Tryd.prog.info? 36 with
  | none => rw [h1] at h; cases h
  | some i =>
    rw [h1] at h
    cases h2 : i.zero with
    | none => simp only [h2] at h; cases h
    | some z =>
      simp only [h2, Bool.and_eq_true, beq_iff_eq] at h
      exact ⟨i, z, rfl, h2, h.1.1, h.1.2, h.2⟩
theorem oneE (x : Nat × Nat) : ∀ u ∈ encE x, u.oneCell' = true := by
  intro u hu
  simp [encE] at hu
  rcases hu with rfl | rfl <;> rfl
theorem best_lt {s e : Nat} (h : s < e) (he : e ≤ 2 ^ 32) : best s e ≤ 32 ∧ s + 2 ^ best s e ≤ e ∧ 0 < 2 ^ best s e := by
  have ⟨⟨_, a⟩, b, _⟩ := best_spec h he
  exact ⟨b, a, Nat.pow_pos (by omega)⟩
end Go.Proofs.YtoaboflepfmkpaaDoor
