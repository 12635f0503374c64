/- Blocks whose cells are known as a list. -/
import Derived.Test.YtefocmcpeigfcaaGr
import Derived.WalkKit
import Derived.WalkSpells
import Derived.WalkLawsBesides
import Derived.WalkSmall
import Derived.Handy
import Derived.BigQuiet
import Derived.Deep.QuietTactic
import Derived.Deep.RegionHeld3
import Derived.Deep.DeepFit
import Derived.Below
import Derived.Lib.Hide
import Derived.Lib.QuietBelow
namespace Go.Proofs.Ytefocmcpeigfcaa
open Go Go.RowKit Go.Sort
set_option maxRecDepth 100000
set_option linter.unusedVariables false
/-- the first cells of a block, which can be written -/
structure CL (w : World) (g : Nat) (vs : List Value) : Prop where
  lt : g < w.heap.size
  at' : ∀ i v, vs[i]? = some v → w.cell? ⟨g, i, none⟩ = some v ∧ w.frozen? ⟨g, i, none⟩ = false
theorem CL.gr {w w' : World} {g : Nat} {vs : List Value} (h : CL w g vs) (k : Gr w w') : CL w' g vs :=
  ⟨Nat.lt_of_lt_of_le h.lt (Gr.size k), fun i v hi => by rw [(Gr.cells k).1 _ _ h.lt, (Gr.cells k).2 _ _ h.lt]; exact h.at' i v hi⟩
theorem CL.ex {w w' : World} {g r : Nat} {vs : List Value} (h : CL w g vs) (k : Ex r w w') (hr : g ≠ r) : CL w' g vs :=
  ⟨Nat.lt_of_lt_of_le h.lt k.size, fun i v hi => by rw [k.cell _ _ hr h.lt, k.frozen _ _ hr h.lt]; exact h.at' i v hi⟩
theorem CL.new (w : World) (vs : List Value) (T : TypeId) (g : Nat) (hg : g = w.heap.size) : CL (w.alloc (.cells vs.toArray T)) g vs := by
  subst hg
  exact ⟨by simp, fun i v hi => ⟨by simpa using hi, by simp⟩⟩
theorem CL.other {w : World} {g s o : Nat} {vs : List Value} (h : CL w g vs) (v : Value) (hs : g ≠ s) : CL (w.setCell ⟨s, o, none⟩ v) g vs :=
  ⟨by simpa using h.lt, fun i x hi => ⟨by rw [World.cell?_setCell_other _ _ _ _ (by intro e; cases e; exact hs rfl)]; exact (h.at' i x hi).1, by simpa using (h.at' i x hi).2⟩⟩
theorem CL.set {w : World} {g : Nat} {vs : List Value} (h : CL w g vs) (o : Nat) (v : Value) (ho : o < vs.length) : CL (w.setCell ⟨g, o, none⟩ v) g (vs.set o v) := by
  refine ⟨by simpa using h.lt, fun i x hi => ?_⟩
  by_cases e : o = i
  · subst e
    rw [List.getElem?_set_self ho] at hi
    cases hi
    have h1 := h.at' o (vs[o]) (List.getElem?_eq_getElem ho)
    exact ⟨World.cell?_setCell_same' _ _ _ (by rw [h1.1]; rfl), by simpa using h1.2⟩
  · rw [List.getElem?_set_ne e] at hi
    have h1 := h.at' i x hi
    exact ⟨by rw [World.cell?_setCell_other _ _ _ _ (by intro k; cases k; exact e rfl)]; exact h1.1, by simpa using h1.2⟩
theorem CL.one {w : World} {g : Nat} {a : Value} (h : CL w g [a]) : w.cell? ⟨g, 0, none⟩ = some a ∧ w.frozen? ⟨g, 0, none⟩ = false := h.at' 0 a rfl
theorem CL.seven {w : World} {g : Nat} {a b c d e f i : Value} (h : CL w g [a, b, c, d, e, f, i]) :
    (w.cell? ⟨g, 0, none⟩ = some a ∧ w.cell? ⟨g, 1, none⟩ = some b ∧ w.cell? ⟨g, 2, none⟩ = some c ∧ w.cell? ⟨g, 3, none⟩ = some d ∧ w.cell? ⟨g, 4, none⟩ = some e ∧ w.cell? ⟨g, 5, none⟩ = some f ∧ w.cell? ⟨g, 6, none⟩ = some i) ∧
    w.frozen? ⟨g, 0, none⟩ = false ∧ w.frozen? ⟨g, 1, none⟩ = false ∧ w.frozen? ⟨g, 2, none⟩ = false ∧ w.frozen? ⟨g, 3, none⟩ = false ∧ w.frozen? ⟨g, 4, none⟩ = false ∧ w.frozen? ⟨g, 5, none⟩ = false ∧ w.frozen? ⟨g, 6, none⟩ = false :=
  ⟨⟨(h.at' 0 a rfl).1, (h.at' 1 b rfl).1, (h.at' 2 c rfl).1, (h.at' 3 d rfl).1, (h.at' 4 e rfl).1, (h.at' 5 f rfl).1, (h.at' 6 i rfl).1⟩, (h.at' 0 a rfl).2, (h.at' 1 b rfl).2, (h.at' 2 c rfl).2, (h.at' 3 d rfl).2, (h.at' 4 e rfl).2, (h.at' 5 f rfl).2, (h.at' 6 i rfl).2⟩
theorem CL.eight {w : World} {g : Nat} {a b c d e f i j : Value} (h : CL w g [a, b, c, d, e, f, i, j]) :
    (w.cell? ⟨g, 0, none⟩ = some a ∧ w.cell? ⟨g, 1, none⟩ = some b ∧ w.cell? ⟨g, 2, none⟩ = some c ∧ w.cell? ⟨g, 3, none⟩ = some d ∧ w.cell? ⟨g, 4, none⟩ = some e ∧ w.cell? ⟨g, 5, none⟩ = some f ∧ w.cell? ⟨g, 6, none⟩ = some i ∧ w.cell? ⟨g, 7, none⟩ = some j) ∧
    w.frozen? ⟨g, 0, none⟩ = false ∧ w.frozen? ⟨g, 1, none⟩ = false ∧ w.frozen? ⟨g, 2, none⟩ = false ∧ w.frozen? ⟨g, 3, none⟩ = false ∧ w.frozen? ⟨g, 4, none⟩ = false ∧ w.frozen? ⟨g, 5, none⟩ = false ∧ w.frozen? ⟨g, 6, none⟩ = false ∧ w.frozen? ⟨g, 7, none⟩ = false :=
  ⟨⟨(h.at' 0 a rfl).1, (h.at' 1 b rfl).1, (h.at' 2 c rfl).1, (h.at' 3 d rfl).1, (h.at' 4 e rfl).1, (h.at' 5 f rfl).1, (h.at' 6 i rfl).1, (h.at' 7 j rfl).1⟩, (h.at' 0 a rfl).2, (h.at' 1 b rfl).2, (h.at' 2 c rfl).2, (h.at' 3 d rfl).2, (h.at' 4 e rfl).2, (h.at' 5 f rfl).2, (h.at' 6 i rfl).2, (h.at' 7 j rfl).2⟩
end Go.Proofs.Ytefocmcpeigfcaa
