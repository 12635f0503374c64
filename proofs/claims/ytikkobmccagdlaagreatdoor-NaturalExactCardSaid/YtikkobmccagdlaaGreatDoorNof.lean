/- The number that a list reads as, as a function of the world. -/
import Derived.Test.YtikkobmccagdlaaGreatDoorNcmp
namespace Go.Proofs.YtikkobmccagdlaaGreatDoor
open Go Go.RowKit
theorem num_len {w : World} {v : Value} {N : Nat} (h : Num w v N) : ∃ (a : Option Addr) (cap : Nat), v = .slice a (nd N).length cap := by
  obtain ⟨a, cap, e, -⟩ := h
  exact ⟨a, cap, e⟩
open Classical in
/-- the number that a list reads as -/
noncomputable def numOf (w : World) (v : Value) : Nat := if h : ∃ N, Num w v N then h.choose else 0
theorem Num.uniq {w : World} {v : Value} {M N : Nat} (h1 : Num w v M) (h2 : Num w v N) : M = N := by
  obtain ⟨a, c, rfl, -, -, H1⟩ := h1
  obtain ⟨a2, c2, e, -, -, H2⟩ := h2
  simp only [Value.slice.injEq] at e
  obtain ⟨rfl, hl, rfl⟩ := e
  refine nd_ext hl fun i hi => ?_
  obtain ⟨b, o, rfl, -, e1⟩ := H1 i hi
  obtain ⟨b2, o2, e2, -, e3⟩ := H2 i (by omega)
  cases e2
  rw [e1] at e3
  simp only [Option.some.injEq, Value.int.injEq, true_and] at e3
  omega
theorem numOf_eq {w : World} {v : Value} {N : Nat} (h : Num w v N) : numOf w v = N := by
  unfold numOf
  rw [dif_pos ⟨N, h⟩]
  exact Num.uniq (Exists.choose_spec (⟨N, h⟩ : ∃ N, Num w v N)) h
end Go.Proofs.YtikkobmccagdlaaGreatDoor
