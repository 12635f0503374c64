/- divide of a number by a longer one, and DivMod. -/
import Derived.Test.YtikkobmccagdlaaGreatDoorNdv
namespace Go.Proofs.YtikkobmccagdlaaGreatDoor
open Go Go.RowKit Go.Shelf
set_option maxRecDepth 100000
set_option linter.unusedVariables false
attribute [local go_sem] Oper.semAt_some
theorem divide_less {A B : Nat} (va vb : Value) (w : World) (hA : Num w va A) (hB : Num w vb B) (lA : (nd A).length ≤ 1000) (lB : (nd A).length < (nd B).length) :
    Calls Tryz.prog 76 #[va, vb] w (DivPost w A B) := by
  have hA0 := hA
  obtain ⟨aa, acap, rfl, -, -, -⟩ := hA
  obtain ⟨ab, bcap, rfl, -, -, -⟩ := hB
  have HA := Lib.hid hA0
  clear hA0
  have d0 : decide ((nd A).length < (nd B).length) = true := by simpa using lB
  have hlt : A < B := by
    apply Decidable.byContradiction; intro hc
    have := nd_mono (show B ≤ A by omega)
    omega
  have HLT := Lib.hid hlt
  clear hlt
  refine (callsIn_wide (n := 4)).1 ?_
  refine callsIn_of_wp_marks Tryz.func76 rfl trivial ?_ rfl
  simp only [Tryz.ntmps76, List.size_toArray, List.length_cons, List.length_nil, Nat.reduceAdd, Nat.reduceSub, Array.replicate_succ, Array.replicate_zero, List.push_toArray, List.append_toArray, List.nil_append, List.cons_append]
  gi_wp2_with fail
  have bq := (Boxed.new (w.alloc (.cells #[.slice ab (nd B).length bcap] 24)) 24 (.slice none 0 0)).cell
  have bqf := (Boxed.new (w.alloc (.cells #[.slice ab (nd B).length bcap] 24)) 24 (.slice none 0 0)).frozen
  simp only [World.size_alloc] at bq bqf
  have hsz : ((w.alloc (.cells #[.slice ab (nd B).length bcap] 24)).alloc (.cells #[.slice none 0 0] 24)).heap.size = w.heap.size + 1 + 1 := by simp
  have hG0 : Gr w ((w.alloc (.cells #[.slice ab (nd B).length bcap] 24)).alloc (.cells #[.slice none 0 0] 24)) := (Gr.refl _).alloc _ |>.alloc _
  generalize (w.alloc (.cells #[.slice ab (nd B).length bcap] 24)).alloc (.cells #[.slice none 0 0] 24) = W0 at *
  refine ⟨trivial, ?_⟩
  refine (callsIn_wide.2 (clone_any _ _ _ (HA.out.gr hG0) (by omega))).mono ?_
  rintro e w2 ⟨v2, rfl, hown, hg2⟩
  have bq2 : w2.cell? ⟨w.heap.size + 1, 0, none⟩ = some (.slice none 0 0) := by rw [(Gr.cells hg2).1 _ _ (by omega)]; exact bq
  have bqf2 : w2.frozen? ⟨w.heap.size + 1, 0, none⟩ = false := by rw [(Gr.cells hg2).2 _ _ (by omega)]; exact bqf
  have HO := Lib.hid hown
  have hG2 := hG0.step hg2
  clear hown hg2 bq bqf
  gi_wp2_with fail
  have hc5 : (w2.setCell ⟨w.heap.size + 1, 0, none⟩ (.slice none 0 0)).cell? ⟨w.heap.size + 1, 0, none⟩ = some (.slice none 0 0) := World.cell?_setCell_same' _ _ _ (by rw [bq2]; rfl)
  refine ⟨.tuple #[.slice none 0 0, v2], by simp [results, Tryz.f76, go_sem, hc5], ?_⟩
  have hq : A / B = 0 := Nat.div_eq_of_lt HLT.out
  have hr : A % B = A := Nat.mod_eq_of_lt HLT.out
  refine ⟨_, _, rfl, by rw [hq]; exact Num.nil _, ?_, hG2.setCell (p := ⟨w.heap.size + 1, 0, none⟩) (by simp) _⟩
  rw [hr]
  exact ((HO.out.rd.imp (q := (· ≠ w.heap.size + 1)) (fun b _ hb => by omega)).ex (Ex.set (Ex.refl _ _) _ _)).any
theorem divide_full {A B : Nat} (va vb : Value) (w : World) (hA : Num w va A) (hB : Num w vb B) (hB0 : 0 < B) (lA : (nd A).length ≤ 1000) :
    Calls Tryz.prog 76 #[va, vb] w (DivPost w A B) := by
  rcases Nat.lt_or_ge (nd A).length (nd B).length with h | h
  · exact divide_less va vb w hA hB lA h
  · exact divide_any va vb w hA hB hB0 lA h
/-- a quotient and a remainder without an error -/
def DmPost (w : World) (A B : Nat) (e : Ending) (w' : World) : Prop := ∃ vq vr : Value, e = .returned (.tuple #[vq, vr, .int .i64 0]) ∧ Num w' vq (A / B) ∧ Num w' vr (A % B) ∧ Gr w w'
theorem divmod_any {A B : Nat} (va vb : Value) (w : World) (hA : Num w va A) (hB : Num w vb B) (hB0 : 0 < B) (lA : (nd A).length ≤ 256) (lB : (nd B).length ≤ 256) :
    Calls Tryz.prog 15 #[va, vb] w (DmPost w A B) := by
  have hA0 := hA
  have hB1 := hB
  have hbl : 0 < (nd B).length := by rw [nd_pos hB0]; simp
  obtain ⟨aa, acap, rfl, -, -, -⟩ := hA
  obtain ⟨ab, bcap, rfl, -, -, -⟩ := hB
  have va := Lib.hid (num_valid hA0 lA)
  have vb := Lib.hid (num_valid hB1 lB)
  have vd := Lib.hid (divide_full _ _ w hA0 hB1 hB0 (by omega))
  have d0 : (((nd B).length : Int) == 0) = false := by rw [beq_eq_false_iff_ne]; omega
  clear hA0 hB1 hB0
  go_enter Tryz.func15, Tryz.ntmps15
  go_wp2_with fail
  refine va.out.mono ?_
  rintro e w' ⟨rfl, rfl⟩
  go_wp2_with fail
  refine vb.out.mono ?_
  rintro e w' ⟨rfl, rfl⟩
  go_wp2_with fail
  refine vd.out.mono ?_
  rintro e w' ⟨vq, vr, rfl, hq, hr, hg⟩
  go_wp2_with fail
  go_ret3
  exact ⟨_, _, rfl, hq, hr, hg⟩
theorem divmod_zero {A : Nat} (va vb : Value) (w : World) (hA : Num w va A) (hB : Num w vb 0) (lA : (nd A).length ≤ 256) :
    Calls Tryz.prog 15 #[va, vb] w fun e w' => e = .returned (.tuple #[.slice none 0 0, .slice none 0 0, .int .i64 14]) ∧ w = w' := by
  have va := Lib.hid (num_valid hA lA)
  have vb := Lib.hid (num_valid hB (by rw [nd_zero]; simp))
  unfold Num at hB
  rw [nd_zero] at hB
  obtain ⟨aa, acap, rfl, -, -, -⟩ := hA
  obtain ⟨ab, bcap, rfl, -, -, -⟩ := hB
  go_enter Tryz.func15, Tryz.ntmps15
  go_wp2_with fail
  refine va.out.mono ?_
  rintro e w' ⟨rfl, rfl⟩
  go_wp2_with fail
  refine vb.out.mono ?_
  rintro e w' ⟨rfl, rfl⟩
  go_wp2_with fail
  go_ret3
  exact ⟨rfl, rfl⟩
end Go.Proofs.YtikkobmccagdlaaGreatDoor
