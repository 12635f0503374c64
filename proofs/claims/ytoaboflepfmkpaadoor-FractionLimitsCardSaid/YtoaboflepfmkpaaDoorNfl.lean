/- The greatest number of n limbs: plain mathematics. -/
import Derived.Test.YtoaboflepfmkpaaDoorNcmp
import Derived.Test.YtoaboflepfmkpaaDoorFm
namespace Go.Proofs.YtoaboflepfmkpaaDoor
theorem full_val : ∀ (l : List Nat), (∀ j, j < l.length → l.getD j 0 = 1073741823) → nv l + 1 = 1073741824 ^ l.length
  | [], _ => rfl
  | x :: l, h => by
    have hx := h 0 (by simp)
    have ih := full_val l fun j hj => by have := h (j + 1) (by simp; omega); simpa using this
    simp at hx
    rw [nv, List.length_cons, bp_succ, ← ih, hx]; omega
theorem full_lim {l : List Nat} (h : ∀ j, j < l.length → l.getD j 0 = 1073741823) : Lim l := fun x hx => by
  obtain ⟨j, hj, rfl⟩ := List.getElem_of_mem hx
  have := h j hj
  rw [List.getD_eq_getElem?_getD, List.getElem?_eq_getElem hj] at this
  simp at this; omega
/-- the greatest number of n + 2 limbs -/
theorem full_facts {l : List Nat} {n : Nat} (hl : l.length = n + 2) (h : ∀ j, j < l.length → l.getD j 0 = 1073741823) :
    ∃ F, l = nd F ∧ (∀ d, 0 < d → n + 2 < (nd (F + d)).length) ∧ n + 2 < (nd (F * 2)).length ∧ (∀ d, d < 1073741824 → d ≤ F ∧ (nd (F - d)).length = n + 2) := by
  have hv := full_val l h
  have hL := full_lim h
  have hd : l = nd (nv l) := nd_of_last hL (.inr (by rw [h _ (by omega)]; omega))
  have hlen : (nd (nv l)).length = n + 2 := by rw [← hd]; exact hl
  rw [hl] at hv
  generalize nv l = F at *
  have hQ : 1073741824 ^ (n + 2) = 1073741824 * 1073741824 ^ (n + 1) := bp_succ _
  have hQ2 : 1073741824 ^ (n + 1) = 1073741824 * 1073741824 ^ n := bp_succ _
  have hp := bp_pos n
  have key : ∀ N, 1073741824 ^ (n + 2) ≤ N → n + 2 < (nd N).length := fun N hN => by
    rcases Nat.lt_or_ge (n + 2) (nd N).length with h | h
    · exact h
    · have := (nd_len N (n + 2)).1 h
      exact absurd hN (Nat.not_le.2 this)
  generalize 1073741824 ^ n = R at *
  generalize hq : 1073741824 ^ (n + 1) = Q at *
  generalize 1073741824 ^ (n + 2) = P at *
  refine ⟨F, hd, fun d h0 => key _ (by omega), key _ (by omega), fun d hdl => ⟨by omega, ?_⟩⟩
  have h1 : (nd (F - d)).length ≤ n + 2 := by rw [← hlen]; exact nd_le_len' (Nat.le_refl _) (Nat.sub_le F d)
  rcases Nat.lt_or_ge (n + 1) (nd (F - d)).length with h | h
  · omega
  · have := (nd_len (F - d) (n + 1)).1 h
    rw [hq] at this
    omega
end Go.Proofs.YtoaboflepfmkpaaDoor
