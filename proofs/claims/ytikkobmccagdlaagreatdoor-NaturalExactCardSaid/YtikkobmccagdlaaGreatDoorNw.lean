/- Numbers in memory: slices of limbs. -/
import Derived.Test.YtikkobmccagdlaaGreatDoorGr
import Derived.Test.YtikkobmccagdlaaGreatDoorNv
import Derived.WalkKit
import Derived.WalkSpells
import Derived.WalkLawsBesides
import Derived.WalkSmall
import Derived.Handy
import Derived.BigQuiet
import Derived.Deep.QuietTactic
import Derived.Deep.RegionHeld3
import Derived.Deep.DeepFit
import Derived.Below
import Derived.Lib.Hide
import Derived.Lib.QuietBelow
namespace Go.Proofs.YtikkobmccagdlaaGreatDoor
open Go Go.RowKit Go.Sort
set_option maxRecDepth 100000
set_option linter.unusedVariables false

/-- the limbs l can be read through the slice v, in blocks of which p is true -/
def Rd (p : Nat → Prop) (w : World) (v : Value) (l : List Nat) : Prop :=
  ∃ (a : Option Addr) (cap : Nat), v = .slice a l.length cap ∧ l.length ≤ cap ∧ cap ≤ 9223372036854775807 ∧
    ∀ i, i < l.length → ∃ b off : Nat, a = some ⟨b, off, none⟩ ∧ p b ∧ w.cell? ⟨b, off + i, none⟩ = some (.int .i64 (l.getD i 0 : Nat))
theorem Rd.imp {p q : Nat → Prop} {w : World} {v : Value} {l : List Nat} (h : Rd p w v l) (hpq : ∀ b, b < w.heap.size → p b → q b) : Rd q w v l := by
  obtain ⟨a, cap, e, hl, hc, H⟩ := h
  exact ⟨a, cap, e, hl, hc, fun i hi => by
    obtain ⟨b, off, ea, hp, hcell⟩ := H i hi
    exact ⟨b, off, ea, hpq b (World.block_lt_of_cell? _ _ hcell) hp, hcell⟩⟩
theorem Rd.gr {p : Nat → Prop} {w w' : World} {v : Value} {l : List Nat} (h : Rd p w v l) (g : Gr w w') : Rd p w' v l := by
  obtain ⟨a, cap, e, hl, hc, H⟩ := h
  exact ⟨a, cap, e, hl, hc, fun i hi => by
    obtain ⟨b, off, ea, hp, hcell⟩ := H i hi
    exact ⟨b, off, ea, hp, by rw [(Gr.cells g).1 _ _ (World.block_lt_of_cell? _ _ hcell)]; exact hcell⟩⟩
theorem Rd.ex {r : Nat} {w w' : World} {v : Value} {l : List Nat} (h : Rd (· ≠ r) w v l) (g : Ex r w w') : Rd (· ≠ r) w' v l := by
  obtain ⟨a, cap, e, hl, hc, H⟩ := h
  exact ⟨a, cap, e, hl, hc, fun i hi => by
    obtain ⟨b, off, ea, hp, hcell⟩ := H i hi
    exact ⟨b, off, ea, hp, by rw [g.cell _ _ hp (World.block_lt_of_cell? _ _ hcell)]; exact hcell⟩⟩
theorem Rd.off {p : Nat → Prop} {w : World} {v : Value} {l : List Nat} (h : Rd p w v l) {r : Nat} (hr : w.heap.size ≤ r) : Rd (· ≠ r) w v l := h.imp fun b hb _ => by omega
theorem Rd.any {p : Nat → Prop} {w : World} {v : Value} {l : List Nat} (h : Rd p w v l) : Rd (fun _ => True) w v l := h.imp fun _ _ _ => trivial
theorem Rd.nil (p : Nat → Prop) (w : World) : Rd p w (.slice none 0 0) [] := ⟨none, 0, rfl, by simp, by omega, fun i hi => by simp at hi⟩
theorem Rd.at' {p : Nat → Prop} {w : World} {a : Option Addr} {n cap : Nat} {l : List Nat} (h : Rd p w (.slice a n cap) l) {i : Nat} (hi : i < l.length) : ∃ b off : Nat, a = some ⟨b, off, none⟩ ∧ p b ∧ w.cell? ⟨b, off + i, none⟩ = some (.int .i64 (l.getD i 0 : Nat)) := by
  obtain ⟨a', cap', e, hl, hc, H⟩ := h
  cases e
  exact H i hi
/-- taking limbs away from the end -/
theorem Rd.take {p : Nat → Prop} {w : World} {a : Option Addr} {n cap : Nat} {l : List Nat} (h : Rd p w (.slice a n cap) l) {k : Nat} (hk : k ≤ l.length) : Rd p w (.slice a k cap) (l.take k) := by
  obtain ⟨a', cap', e, hl, hc, H⟩ := h
  cases e
  have e : (l.take k).length = k := by simp; omega
  refine ⟨a, cap, by rw [e], by omega, hc, fun i hi => ?_⟩
  rw [e] at hi
  obtain ⟨b, off, ea, hp, hcell⟩ := H i (by omega)
  refine ⟨b, off, ea, hp, ?_⟩
  rw [hcell, List.getD_eq_getElem?_getD, List.getD_eq_getElem?_getD, List.getElem?_take_of_lt hi]
/-- the number N can be read through the slice v -/
def Num (w : World) (v : Value) (N : Nat) : Prop := Rd (fun _ => True) w v (nd N)
theorem Num.gr {w w' : World} {v : Value} {N : Nat} (h : Num w v N) (g : Gr w w') : Num w' v N := Rd.gr h g
theorem Num.nil (w : World) : Num w (.slice none 0 0) 0 := by unfold Num; rw [nd_zero]; exact Rd.nil _ _
/-- the limbs l lie in the block r from off on, and can be written -/
def Arr (w : World) (r off : Nat) (l : List Nat) : Prop := ∀ i, i < l.length → w.cell? ⟨r, off + i, none⟩ = some (.int .i64 (l.getD i 0 : Nat)) ∧ w.frozen? ⟨r, off + i, none⟩ = false
theorem Arr.gr {w w' : World} {r off : Nat} {l : List Nat} (h : Arr w r off l) (g : Gr w w') : Arr w' r off l := fun i hi => by
  have hb := World.block_lt_of_cell? _ _ (h i hi).1
  rw [(Gr.cells g).1 _ _ hb, (Gr.cells g).2 _ _ hb]; exact h i hi
theorem Arr.ex {w w' : World} {r off s : Nat} {l : List Nat} (h : Arr w r off l) (g : Ex s w w') (hs : r ≠ s) : Arr w' r off l := fun i hi => by
  have hb := World.block_lt_of_cell? _ _ (h i hi).1
  rw [g.cell _ _ hs hb, g.frozen _ _ hs hb]; exact h i hi
theorem Arr.rd {w : World} {r off cap : Nat} {l : List Nat} (h : Arr w r off l) (hl : l.length ≤ cap) (hc : cap ≤ 9223372036854775807) {p : Nat → Prop} (hp : p r) : Rd p w (.slice (some ⟨r, off, none⟩) l.length cap) l :=
  ⟨_, cap, rfl, hl, hc, fun i hi => ⟨r, off, rfl, hp, (h i hi).1⟩⟩
/-- Only the cells from lo to lo + n of the block r may have been written. -/
structure Win (r lo n : Nat) (u v : World) : Prop where
  ex : Ex r u v
  cells : ∀ o, (o < lo ∨ lo + n ≤ o) → v.cell? ⟨r, o, none⟩ = u.cell? ⟨r, o, none⟩
  froz : ∀ o, v.frozen? ⟨r, o, none⟩ = u.frozen? ⟨r, o, none⟩
theorem Win.refl (r lo n : Nat) (u : World) : Win r lo n u u := ⟨Ex.refl _ _, fun _ _ => rfl, fun _ => rfl⟩
theorem Win.trans {r lo n : Nat} {u v w : World} (h : Win r lo n u v) (k : Win r lo n v w) : Win r lo n u w :=
  ⟨h.ex.trans k.ex, fun o ho => (k.cells o ho).trans (h.cells o ho), fun o => (k.froz o).trans (h.froz o)⟩
theorem Win.gr {r lo n : Nat} {u v : World} (g : Gr u v) (hr : r < u.heap.size) : Win r lo n u v := ⟨Ex.ofGr g, fun _ _ => (Gr.cells g).1 _ _ hr, fun _ => (Gr.cells g).2 _ _ hr⟩
theorem Win.set {r lo n o : Nat} (u : World) (x : Value) (h0 : lo ≤ o) (h1 : o < lo + n) : Win r lo n u (u.setCell ⟨r, o, none⟩ x) :=
  ⟨Ex.set (Ex.refl _ _) _ _, fun p hp => World.cell?_setCell_other _ _ _ _ (by intro hc; cases hc; omega), fun p => by simp⟩
theorem Win.wide {r lo n lo' n' : Nat} {u v : World} (h : Win r lo n u v) (h0 : lo' ≤ lo) (h1 : lo + n ≤ lo' + n') : Win r lo' n' u v := ⟨h.ex, fun o ho => h.cells o (by omega), h.froz⟩
/-- a window of the limbs has been written -/
theorem Arr.win {w w' : World} {r off i : Nat} {l m : List Nat} (h : Arr w r off l) (g : Win r (off + i) m.length w w') (hm : Arr w' r (off + i) m) (hi : i + m.length ≤ l.length) : Arr w' r off (l.take i ++ (m ++ l.drop (i + m.length))) := by
  intro j hj
  simp only [List.length_append, List.length_take, List.length_drop, Nat.min_eq_left (show i ≤ l.length by omega)] at hj
  have hj2 : j < l.length := by omega
  rw [List.getD_eq_getElem?_getD]
  by_cases h1 : j < i
  · rw [List.getElem?_append_left (by simp; omega), List.getElem?_take_of_lt h1, ← List.getD_eq_getElem?_getD, g.cells _ (Or.inl (by omega)), g.froz]
    exact h j hj2
  · have e : (l.take i).length = i := by simp; omega
    rw [List.getElem?_append_right (by omega), e]
    by_cases h2 : j < i + m.length
    · rw [List.getElem?_append_left (by omega), ← List.getD_eq_getElem?_getD]
      have := hm (j - i) (by omega)
      rw [show off + i + (j - i) = off + j by omega] at this
      exact this
    · rw [List.getElem?_append_right (by omega), List.getElem?_drop, ← List.getD_eq_getElem?_getD, g.cells _ (Or.inr (by omega)), g.froz]
      rw [show i + m.length + (j - i - m.length) = j by omega]
      exact h j hj2
theorem Arr.sub {w : World} {r off : Nat} {l : List Nat} (h : Arr w r off l) (i n : Nat) : Arr w r (off + i) ((l.drop i).take n) := by
  intro j hj
  simp only [List.length_take, List.length_drop] at hj
  have := h (i + j) (by omega)
  rw [List.getD_eq_getElem?_getD, List.getElem?_take_of_lt (by omega), List.getElem?_drop, ← List.getD_eq_getElem?_getD, Nat.add_assoc]
  exact this
theorem Arr.take {w : World} {r off : Nat} {l : List Nat} (h : Arr w r off l) (k : Nat) : Arr w r off (l.take k) := by
  have := h.sub 0 k
  rwa [List.drop_zero, Nat.add_zero] at this
/-- one limb has been written -/
theorem Arr.set {w : World} {r off i : Nat} {l : List Nat} (h : Arr w r off l) (hi : i < l.length) (x : Nat) : Arr (w.setCell ⟨r, off + i, none⟩ (.int .i64 x)) r off (l.set i x) := by
  intro j hj
  rw [List.length_set] at hj
  rw [List.getD_eq_getElem?_getD]
  by_cases e : j = i
  · subst e
    rw [List.getElem?_set_self hj, World.cell?_setCell_same' _ _ _ (by rw [(h j hj).1]; rfl)]
    exact ⟨rfl, by rw [World.frozen?_setCell]; exact (h j hj).2⟩
  · rw [List.getElem?_set_ne (by omega), World.cell?_setCell_other _ _ _ _ (by intro hc; have := congrArg Addr.off hc; simp at this; omega), ← List.getD_eq_getElem?_getD]
    exact ⟨(h j hj).1, by rw [World.frozen?_setCell]; exact (h j hj).2⟩
end Go.Proofs.YtikkobmccagdlaaGreatDoor
