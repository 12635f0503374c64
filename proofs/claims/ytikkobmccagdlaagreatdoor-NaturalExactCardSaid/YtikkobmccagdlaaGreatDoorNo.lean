/- Lists of limbs that a call owns. -/
import Derived.Test.YtikkobmccagdlaaGreatDoorNvl
import Derived.WalkKit
import Derived.WalkSpells
import Derived.WalkLawsBesides
import Derived.WalkSmall
import Derived.Handy
import Derived.BigQuiet
import Derived.Deep.QuietTactic
import Derived.Deep.RegionHeld3
import Derived.Deep.DeepFit
import Derived.Below
import Derived.Lib.Hide
import Derived.Lib.QuietBelow
import Derived.Maps.AppendAt
import Derived.Laws.OwnMore
namespace Go.Proofs.YtikkobmccagdlaaGreatDoor
open Go Go.RowKit Go.Sort
set_option maxRecDepth 100000
set_option linter.unusedVariables false

theorem Gr.owns {w w' : World} {base : Nat} {e : TypeId} {size : Nat} {v : Value} {n : Nat} {xs : List Value} (g : Gr w w') (h : w.ownsRow base e size v n xs) : w'.ownsRow base e size v n xs :=
  h.kept (row := none) ⟨Below.os g, Below.tape g, Below.output g, Gr.size g, fun k hk _ => Below.block g k hk⟩ (Decidable.em _)
theorem Gr.grown {u v w : World} {row : Option Nat} (h : Gr u v) (g : v.grownBy w row) (hr : ∀ k, row = some k → u.heap.size ≤ k) : Gr u w :=
  ⟨g.os.trans (Below.os h), g.tape.trans (Below.tape h), g.output.trans (Below.output h), Nat.le_trans (Below.size h) g.size, fun j hj => (g.block j (Nat.lt_of_lt_of_le hj (Below.size h)) (fun hc => by have := hr j hc.symm; omega)).trans (Below.block h j hj)⟩
theorem ownsRow_base {w : World} {b b' : Nat} {e : TypeId} {size : Nat} {v : Value} {n : Nat} {xs : List Value} (hb : b' ≤ b) (h : w.ownsRow b e size v n xs) : w.ownsRow b' e size v n xs :=
  ⟨h.1, h.2.imp id fun ⟨g, cap, cur, h1, h2, h3⟩ => ⟨g, cap, cur, h1, by omega, h3⟩⟩
/-- a limb as a value -/
def lv (n : Nat) : Value := .int .i64 (n : Nat)
/-- the list of limbs l, in memory of its own from base on -/
def Own (w : World) (base : Nat) (v : Value) (l : List Nat) : Prop := w.ownsRow base 3 1 v l.length (l.map lv)
theorem intInfo : ∃ i, Tryz.prog.info? 3 = some i ∧ i.zero = some (.int .i64 0) ∧ i.size = 1 ∧ i.bytes = 8 := by
  have h : (Tryz.prog.info? 3).map (fun i => (i.zero, i.size, i.bytes)) = some (some (.int .i64 0), 1, 8) := by kernel_rfl
  obtain ⟨i, h1, h2, h3, h4⟩ := info_parts h
  exact ⟨i, h1, h2, h3, h4⟩
theorem Own.nil (w : World) (base : Nat) : Own w base (.slice none 0 0) [] := World.ownsRow_nil _ _ _ _
theorem Own.gr {w w' : World} {base : Nat} {v : Value} {l : List Nat} (h : Own w base v l) (g : Gr w w') : Own w' base v l := Gr.owns g h
/-- what is owned: nil, or a block -/
theorem Own.is {w : World} {base : Nat} {v : Value} {l : List Nat} (h : Own w base v l) :
    (v = .slice none 0 0 ∧ l = []) ∨ ∃ g cap : Nat, v = .slice (some ⟨g, 0, none⟩) l.length cap ∧ base ≤ g ∧ l.length ≤ cap ∧ cap ≤ 9223372036854775807 ∧ Arr w g 0 l ∧ g < w.heap.size := by
  rcases h.2 with ⟨e, hn⟩ | ⟨g, cap, cur, e, hb, hh, hc, hm, hs, ht⟩
  · exact .inl ⟨e, List.length_eq_zero_iff.1 hn⟩
  · refine .inr ⟨g, cap, e, hb, hc, by unfold maxLen at hm; omega, ?_, (Array.getElem?_eq_some_iff.1 hh).1⟩
    intro i hi
    have h' := h
    unfold Own at h'
    rw [e] at h'
    rw [Nat.zero_add, h'.cellAt i (by omega), h'.frozenAt i, List.getElem?_map, List.getD_eq_getElem?_getD, List.getElem?_eq_getElem hi]
    exact ⟨rfl, rfl⟩
theorem Own.rd {w : World} {base : Nat} {v : Value} {l : List Nat} (h : Own w base v l) : Rd (fun b => base ≤ b) w v l := by
  rcases h.is with ⟨rfl, rfl⟩ | ⟨g, cap, rfl, hb, hc, hm, ha, -⟩
  · exact Rd.nil _ _
  · exact ha.rd hc hm hb
theorem Own.num {w : World} {base : Nat} {v : Value} {l : List Nat} (h : Own w base v l) {N : Nat} (e : l = nd N) : Num w v N := by
  subst e; exact h.rd.any
theorem Own.arr {w : World} {base g n cap : Nat} {l : List Nat} (h : Own w base (.slice (some ⟨g, 0, none⟩) n cap) l) : n = l.length ∧ Arr w g 0 l ∧ g < w.heap.size ∧ n ≤ cap ∧ cap ≤ 9223372036854775807 := by
  rcases h.is with ⟨e, -⟩ | ⟨g', cap', e, -, hc, hm, ha, hg⟩
  · cases e
  · cases e; exact ⟨rfl, ha, hg, hc, hm⟩
theorem own_made {w : World} {base n : Nat} {v : Value} (h : w.ownsRow base 3 1 v n (madeCells (Value.int .i64 0).cells (n * 1)).toList) : Own w base v (List.replicate n 0) := by
  unfold Own
  rw [List.length_replicate, List.map_replicate]
  have e : (madeCells (Value.int .i64 0).cells (n * 1)).toList = List.replicate n (lv 0) := by
    rw [Nat.mul_one]; exact toList_madeCells_one (.int .i64 0) n
  rw [← e]; exact h
/-- a number, or an error because it has too many limbs -/
def Res (w : World) (N : Nat) (e : Ending) (w' : World) : Prop :=
  ∃ (v : Value) (er : Int), e = .returned (.tuple #[v, .int .i64 er]) ∧ (((nd N).length ≤ 256 ∧ er = 0 ∧ Num w' v N) ∨ (256 < (nd N).length ∧ er = 5 ∧ v = .slice none 0 0)) ∧ Gr w w'
theorem num_valid {w : World} {v : Value} {N : Nat} (h : Num w v N) (hN : (nd N).length ≤ 256) : Calls Tryz.prog 35 #[v] w fun e w' => e = .returned (.bool true) ∧ w = w' := by
  refine valid_yes w h (lim_nd N) hN ?_
  by_cases h0 : N = 0
  · subst h0; exact .inl nd_zero
  · exact .inr (nd_last (by omega))
theorem num_fit {p : Nat → Prop} {w W : World} {v : Value} {N : Nat} (h : Rd p w v (nd N)) (hG : Gr W w) : Calls Tryz.prog 68 #[v] w (Res W N) := by
  by_cases hl : (nd N).length ≤ 256
  · refine (fit_ok w h hl).mono ?_
    rintro e w' ⟨rfl, rfl⟩
    exact ⟨v, 0, rfl, .inl ⟨hl, rfl, h.any⟩, hG⟩
  · refine (fit_no w h (by omega)).mono ?_
    rintro e w' ⟨rfl, rfl⟩
    exact ⟨_, 5, rfl, .inr ⟨by omega, rfl, rfl⟩, hG⟩
end Go.Proofs.YtikkobmccagdlaaGreatDoor
