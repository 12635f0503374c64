/- Worlds that grow, or in which one block is written. -/
import Derived.Test.YtefocmcpeigfcaaProg
import Derived.WalkKit
import Derived.WalkSpells
import Derived.WalkLawsBesides
import Derived.WalkSmall
import Derived.Handy
import Derived.BigQuiet
import Derived.Deep.QuietTactic
import Derived.Deep.RegionHeld3
import Derived.Deep.DeepFit
import Derived.Below
import Derived.Lib.Hide
import Derived.Lib.QuietBelow
namespace Go.Proofs.Ytefocmcpeigfcaa
open Go Go.RowKit Go.Sort
set_option maxRecDepth 100000
set_option linter.unusedVariables false

/-- The world has grown: all that was there is as it was. -/
def Gr (w w' : World) : Prop := Below w.heap.size w w'
theorem Gr.refl (w : World) : Gr w w := Below.refl _ _
theorem Gr.size {a b : World} (h : Gr a b) : a.heap.size ≤ b.heap.size := Below.size h
theorem Gr.step {a b c : World} (h : Gr a b) (k : Gr b c) : Gr a c := Below.trans h (Below.mono k (Below.size h))
theorem Gr.alloc {a b : World} (h : Gr a b) (o : Obj) : Gr a (b.alloc o) := Below.alloc h (Below.size h) o
theorem Gr.drew {a b : World} (h : Gr a b) : Gr a b.drew := Below.drew h
theorem Gr.drewN {a b : World} (h : Gr a b) (n : Nat) : Gr a (b.drewN n) := below_drewN h n
theorem Gr.setCell {a b : World} (h : Gr a b) {p : Addr} (hp : a.heap.size ≤ p.block) (u : Value) : Gr a (b.setCell p u) := Below.setCell h hp u
theorem Gr.grow {a b : World} (h : Gr a b) (d : Nat) (os : Array Obj) : Gr a (grow (redrawn b d) os) := Gr.step h (below_regrown b d os)
/-- A callee's contract that ends in 'Gr', met in a world of the class. -/
theorem Calls.gr_of {P : Program} {f : FuncId} {args : Array Value} {w : World} {d : Nat} {os : Array Obj} {v : Value}
    (h : Calls P f args (Sort.grow (redrawn w d) os) fun e w' => e = .returned v ∧ Gr (Sort.grow (redrawn w d) os) w') : Calls P f args (Sort.grow (redrawn w d) os) fun e w'' => e = .returned v ∧ ∃ p : Regrown, w'' = Sort.grow (redrawn w p.d) p.os := Calls.regrown_of h
theorem Calls.gr_same {P : Program} {f : FuncId} {args : Array Value} {w : World} {d : Nat} {os : Array Obj} {v : Value}
    (h : Calls P f args (Sort.grow (redrawn w d) os) fun e w' => e = .returned v ∧ Sort.grow (redrawn w d) os = w') : Calls P f args (Sort.grow (redrawn w d) os) fun e w'' => e = .returned v ∧ ∃ p : Regrown, w'' = Sort.grow (redrawn w p.d) p.os :=
  h.mono fun _ _ ⟨he, hb⟩ => ⟨he, ⟨d, os⟩, hb.symm⟩
theorem two_cells (w : World) (x y : Value) (T : TypeId) : (∀ d os, (Sort.grow (redrawn (w.alloc (.cells #[x, y] T)) d) os).cell? ⟨w.heap.size, 0, none⟩ = some x) ∧ (∀ d os, (Sort.grow (redrawn (w.alloc (.cells #[x, y] T)) d) os).cell? ⟨w.heap.size, 1, none⟩ = some y) :=
  ⟨fun d os => cell_regrown (by simp) d os, fun d os => cell_regrown (by simp) d os⟩
theorem Gr.cells {W w1 : World} (hb : Gr W w1) : (∀ b o, b < W.heap.size → w1.cell? ⟨b, o, none⟩ = W.cell? ⟨b, o, none⟩) ∧ (∀ b o, b < W.heap.size → w1.frozen? ⟨b, o, none⟩ = W.frozen? ⟨b, o, none⟩) :=
  ⟨fun b o h => Below.cell hb (p := ⟨b, o, none⟩) h, fun b o h => Below.frozen hb (p := ⟨b, o, none⟩) h⟩
theorem ret_int {k : IntKind} {a b : Int} (h : a = b) : Ending.returned (.int k a) = .returned (.int k b) := by rw [h]
theorem ret_bool {a b : Bool} (h : a = b) : Ending.returned (.bool a) = .returned (.bool b) := by rw [h]
/-- Only block b may have changed, and blocks may have been made. -/
structure Ex (b : Nat) (w w' : World) : Prop where
  os : w'.os = w.os
  tape : w'.tape = w.tape
  output : w'.output = w.output
  size : w.heap.size ≤ w'.heap.size
  block : ∀ k, k ≠ b → k < w.heap.size → w'.heap[k]? = w.heap[k]?
theorem Ex.refl (b : Nat) (w : World) : Ex b w w := ⟨rfl, rfl, rfl, Nat.le_refl _, fun _ _ _ => rfl⟩
theorem Ex.ofGr {b : Nat} {w w' : World} (h : Gr w w') : Ex b w w' := ⟨Below.os h, Below.tape h, Below.output h, Below.size h, fun k _ hk => Below.block h k hk⟩
theorem Ex.trans {b : Nat} {u v w : World} (h : Ex b u v) (k : Ex b v w) : Ex b u w :=
  ⟨k.os.trans h.os, k.tape.trans h.tape, k.output.trans h.output, Nat.le_trans h.size k.size, fun j hj hk => (k.block j hj (Nat.lt_of_lt_of_le hk h.size)).trans (h.block j hj hk)⟩
theorem Ex.gr {b : Nat} {u v w : World} (h : Gr u v) (hb : u.heap.size ≤ b) (k : Ex b v w) : Gr u w :=
  ⟨k.os.trans (Below.os h), k.tape.trans (Below.tape h), k.output.trans (Below.output h), Nat.le_trans (Below.size h) k.size, fun j hj => (k.block j (by omega) (Nat.lt_of_lt_of_le hj (Below.size h))).trans (Below.block h j hj)⟩
theorem Ex.alloc {b : Nat} {u v : World} (h : Ex b u v) (o : Obj) : Ex b u (v.alloc o) := h.trans (Ex.ofGr (Gr.alloc (Gr.refl _) o))
theorem Ex.drewN {b : Nat} {u v : World} (h : Ex b u v) (n : Nat) : Ex b u (v.drewN n) := h.trans (Ex.ofGr (Gr.drewN (Gr.refl _) n))
theorem Ex.drew {b : Nat} {u v : World} (h : Ex b u v) : Ex b u v.drew := h.trans (Ex.ofGr (Gr.drew (Gr.refl _)))
theorem Ex.set {b : Nat} {u v : World} (h : Ex b u v) (o : Nat) (x : Value) : Ex b u (v.setCell ⟨b, o, none⟩ x) :=
  h.trans ⟨rfl, rfl, rfl, by simp, fun k hk _ => Below.heap_setCell v ⟨b, o, none⟩ x k hk⟩
theorem Ex.cell {b : Nat} {u v : World} (h : Ex b u v) (c o : Nat) (hc : c ≠ b) (hs : c < u.heap.size) : v.cell? ⟨c, o, none⟩ = u.cell? ⟨c, o, none⟩ :=
  World.cell?_of_block (w := u) (h.block c hc hs)
theorem Ex.frozen {b : Nat} {u v : World} (h : Ex b u v) (c o : Nat) (hc : c ≠ b) (hs : c < u.heap.size) : v.frozen? ⟨c, o, none⟩ = u.frozen? ⟨c, o, none⟩ :=
  World.frozen?_of_block (w := u) (h.block c hc hs)
theorem Ex.setNew {b : Nat} {u v : World} (h : Ex b u v) {p : Addr} (hp : u.heap.size ≤ p.block) (x : Value) : Ex b u (v.setCell p x) :=
  ⟨h.os, h.tape, h.output, by simpa using h.size, fun k hk hs => (Below.heap_setCell v p x k (by omega)).trans (h.block k hk hs)⟩
end Go.Proofs.Ytefocmcpeigfcaa
