/- Slices of bytes that come in, as lists. -/
import Derived.Test.YtlkhdbgknkjioaaIn
import Derived.Test.YtlkhdbgknkjioaaWb
namespace Go.Proofs.Ytlkhdbgknkjioaa
open Go Go.RowKit Go.ChangeShapes
theorem rb_of {W : World} {a : Option Addr} {len cap : Nat} {zs : List Int} (h : IsRow .u8 W a len cap zs) : ∃ l : List Nat, l.length = len ∧ Rb (fun b => b < W.heap.size) W (.slice a len cap) l := by
  rcases h with ⟨rfl, rfl, rfl, rfl⟩ | ⟨x, rfl, hl, hm, hz, hc, hw⟩
  · exact ⟨[], rfl, Rb.nil _ _⟩
  · unfold maxLen at hm
    have e : ((zs.take len).map Int.toNat).length = len := by rw [List.length_map, List.length_take]; omega
    have hb : ∀ n ∈ zs, 0 ≤ n ∧ n < 256 := fun n hn => by have := bounds_u8 (hw n hn); omega
    refine ⟨(zs.take len).map Int.toNat, e, some x, cap, by rw [e], by omega, by omega, (fun h => by cases h), ?_, ?_⟩
    · intro y hy
      rw [List.mem_map] at hy
      obtain ⟨z, hz1, rfl⟩ := hy
      have := hb z (List.mem_of_mem_take hz1)
      omega
    · intro i hi
      rw [e] at hi
      obtain ⟨b, off, rfl, hcell⟩ := ints_at hc (by omega)
      have hci := hcell i (by omega)
      refine ⟨b, off, rfl, World.block_lt_of_cell? W _ hci, ?_⟩
      rw [hci]
      have hzi : i < zs.length := by omega
      have h1 : zs.getD i 0 = zs[i] := by rw [List.getD_eq_getElem?_getD, List.getElem?_eq_getElem hzi]; rfl
      have h2 : ((zs.take len).map Int.toNat).getD i 0 = (zs[i]).toNat := by
        rw [List.getD_eq_getElem?_getD, List.getElem?_map, List.getElem?_take_of_lt hi, List.getElem?_eq_getElem hzi]; rfl
      have := hb zs[i] (List.getElem_mem _)
      rw [h1, h2]
      congr 2
      omega
end Go.Proofs.Ytlkhdbgknkjioaa
