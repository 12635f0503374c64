/- What comes in: slices of bytes. -/
import Derived.Test.YtefocmcpeigfcaaIns
import Derived.Test.YtefocmcpeigfcaaDraw
import Derived.WalkKit
import Derived.ProofKit
import Derived.OpenShut
import Derived.ShutString
import Derived.ChangeOld
import Derived.Below
import Derived.Handy
namespace Go.Proofs.Ytefocmcpeigfcaa
open Go Go.RowKit Go.ChangeShapes

/-- a slice of integers that came in -/
def IsRow (k : IntKind) (w : World) (a : Option Addr) (len cap : Nat) (zs : List Int) : Prop :=
  (a = none ∧ len = 0 ∧ cap = 0 ∧ zs = []) ∨
  ∃ x, a = some x ∧ len ≤ cap ∧ cap ≤ maxLen ∧ zs.length = cap ∧ (∀ i, i < zs.length → w.cell? (x.add i) = some (.int k (zs.getD i 0))) ∧ ∀ n ∈ zs, (Lit.int k n).wf = true
theorem bytes_of {W : World} {a : Option Addr} {len cap : Nat} {zs : List Int} (h : IsRow .u8 W a len cap zs) : BytesV W.heap.size W (.slice a len cap) len ∧ len ≤ 9223372036854775807 := by
  rcases h with ⟨rfl, rfl, rfl, rfl⟩ | ⟨x, rfl, hl, hm, hz, hc, hw⟩
  · exact ⟨⟨none, 0, rfl, by omega, fun i hi => by omega, by omega, fun h => by omega⟩, by omega⟩
  · unfold maxLen at hm
    refine ⟨⟨some x, cap, rfl, hl, ?_, by omega, ?_⟩, by omega⟩
    · intro i hi
      obtain ⟨b, off, rfl, hcell⟩ := ints_at hc (by omega)
      refine ⟨b, off, zs.getD i 0, rfl, hcell i (by omega), ?_⟩
      have hmem : zs.getD i 0 ∈ zs := by
        rw [List.getD_eq_getElem?_getD, List.getElem?_eq_getElem (by omega)]; exact List.getElem_mem _
      have := bounds_u8 (hw _ hmem)
      omega
    · intro h0 y hy
      obtain rfl := Option.some.inj hy
      obtain ⟨b, off, rfl, hcell⟩ := ints_at hc (by omega)
      exact World.block_lt_of_cell? W _ (hcell 0 (by omega))
end Go.Proofs.Ytefocmcpeigfcaa
