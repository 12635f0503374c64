/- Several texts in one. -/
import Derived.Test.YtjpjnbgfodlkcaaGreatDoorProg
import Derived.WalkKit
import Derived.WalkSpells
import Derived.WalkLawsBesides
import Derived.WalkSmall
import Derived.Handy
import Derived.BigQuiet
import Derived.Deep.QuietTactic
import Derived.Deep.RegionHeld3
import Derived.Deep.DeepFit
import Derived.Below
import Derived.Lib.Hide
import Derived.Lib.QuietBelow
/- Worlds that grow, or in which one block is written. -/
namespace Go.Proofs.YtjpjnbgfodlkcaaGreatDoor
open Go Go.RowKit Go.Sort
set_option maxRecDepth 100000
set_option linter.unusedVariables false

/-- The world has grown: all that was there is as it was. -/
def Gr (w w' : World) : Prop := Below w.heap.size w w'
theorem Gr.refl (w : World) : Gr w w := Below.refl _ _
theorem Gr.size {a b : World} (h : Gr a b) : a.heap.size ≤ b.heap.size := Below.size h
theorem Gr.step {a b c : World} (h : Gr a b) (k : Gr b c) : Gr a c := Below.trans h (Below.mono k (Below.size h))
theorem Gr.alloc {a b : World} (h : Gr a b) (o : Obj) : Gr a (b.alloc o) := Below.alloc h (Below.size h) o
theorem Gr.drew {a b : World} (h : Gr a b) : Gr a b.drew := Below.drew h
theorem Gr.drewN {a b : World} (h : Gr a b) (n : Nat) : Gr a (b.drewN n) := below_drewN h n
theorem Gr.setCell {a b : World} (h : Gr a b) {p : Addr} (hp : a.heap.size ≤ p.block) (u : Value) : Gr a (b.setCell p u) := Below.setCell h hp u
theorem Gr.grow {a b : World} (h : Gr a b) (d : Nat) (os : Array Obj) : Gr a (grow (redrawn b d) os) := Gr.step h (below_regrown b d os)
/-- A callee's contract that ends in 'Gr', met in a world of the class. -/
theorem Calls.gr_of {P : Program} {f : FuncId} {args : Array Value} {w : World} {d : Nat} {os : Array Obj} {v : Value}
    (h : Calls P f args (Sort.grow (redrawn w d) os) fun e w' => e = .returned v ∧ Gr (Sort.grow (redrawn w d) os) w') : Calls P f args (Sort.grow (redrawn w d) os) fun e w'' => e = .returned v ∧ ∃ p : Regrown, w'' = Sort.grow (redrawn w p.d) p.os := Calls.regrown_of h
theorem Calls.gr_same {P : Program} {f : FuncId} {args : Array Value} {w : World} {d : Nat} {os : Array Obj} {v : Value}
    (h : Calls P f args (Sort.grow (redrawn w d) os) fun e w' => e = .returned v ∧ Sort.grow (redrawn w d) os = w') : Calls P f args (Sort.grow (redrawn w d) os) fun e w'' => e = .returned v ∧ ∃ p : Regrown, w'' = Sort.grow (redrawn w p.d) p.os :=
  h.mono fun _ _ ⟨he, hb⟩ => ⟨he, ⟨d, os⟩, hb.symm⟩
theorem two_cells (w : World) (x y : Value) (T : TypeId) : (∀ d os, (Sort.grow (redrawn (w.alloc (.cells #[x, y] T)) d) os).cell? ⟨w.heap.size, 0, none⟩ = some x) ∧ (∀ d os, (Sort.grow (redrawn (w.alloc (.cells #[x, y] T)) d) os).cell? ⟨w.heap.size, 1, none⟩ = some y) :=
  ⟨fun d os => cell_regrown (by simp) d os, fun d os => cell_regrown (by simp) d os⟩
theorem Gr.cells {W w1 : World} (hb : Gr W w1) : (∀ b o, b < W.heap.size → w1.cell? ⟨b, o, none⟩ = W.cell? ⟨b, o, none⟩) ∧ (∀ b o, b < W.heap.size → w1.frozen? ⟨b, o, none⟩ = W.frozen? ⟨b, o, none⟩) :=
  ⟨fun b o h => Below.cell hb (p := ⟨b, o, none⟩) h, fun b o h => Below.frozen hb (p := ⟨b, o, none⟩) h⟩
theorem ret_int {k : IntKind} {a b : Int} (h : a = b) : Ending.returned (.int k a) = .returned (.int k b) := by rw [h]
theorem ret_bool {a b : Bool} (h : a = b) : Ending.returned (.bool a) = .returned (.bool b) := by rw [h]
/-- Only block b may have changed, and blocks may have been made. -/
structure Ex (b : Nat) (w w' : World) : Prop where
  os : w'.os = w.os
  tape : w'.tape = w.tape
  output : w'.output = w.output
  size : w.heap.size ≤ w'.heap.size
  block : ∀ k, k ≠ b → k < w.heap.size → w'.heap[k]? = w.heap[k]?
theorem Ex.refl (b : Nat) (w : World) : Ex b w w := ⟨rfl, rfl, rfl, Nat.le_refl _, fun _ _ _ => rfl⟩
theorem Ex.ofGr {b : Nat} {w w' : World} (h : Gr w w') : Ex b w w' := ⟨Below.os h, Below.tape h, Below.output h, Below.size h, fun k _ hk => Below.block h k hk⟩
theorem Ex.trans {b : Nat} {u v w : World} (h : Ex b u v) (k : Ex b v w) : Ex b u w :=
  ⟨k.os.trans h.os, k.tape.trans h.tape, k.output.trans h.output, Nat.le_trans h.size k.size, fun j hj hk => (k.block j hj (Nat.lt_of_lt_of_le hk h.size)).trans (h.block j hj hk)⟩
theorem Ex.gr {b : Nat} {u v w : World} (h : Gr u v) (hb : u.heap.size ≤ b) (k : Ex b v w) : Gr u w :=
  ⟨k.os.trans (Below.os h), k.tape.trans (Below.tape h), k.output.trans (Below.output h), Nat.le_trans (Below.size h) k.size, fun j hj => (k.block j (by omega) (Nat.lt_of_lt_of_le hj (Below.size h))).trans (Below.block h j hj)⟩
theorem Ex.alloc {b : Nat} {u v : World} (h : Ex b u v) (o : Obj) : Ex b u (v.alloc o) := h.trans (Ex.ofGr (Gr.alloc (Gr.refl _) o))
theorem Ex.drewN {b : Nat} {u v : World} (h : Ex b u v) (n : Nat) : Ex b u (v.drewN n) := h.trans (Ex.ofGr (Gr.drewN (Gr.refl _) n))
theorem Ex.drew {b : Nat} {u v : World} (h : Ex b u v) : Ex b u v.drew := h.trans (Ex.ofGr (Gr.drew (Gr.refl _)))
theorem Ex.set {b : Nat} {u v : World} (h : Ex b u v) (o : Nat) (x : Value) : Ex b u (v.setCell ⟨b, o, none⟩ x) :=
  h.trans ⟨rfl, rfl, rfl, by simp, fun k hk _ => Below.heap_setCell v ⟨b, o, none⟩ x k hk⟩
theorem Ex.cell {b : Nat} {u v : World} (h : Ex b u v) (c o : Nat) (hc : c ≠ b) (hs : c < u.heap.size) : v.cell? ⟨c, o, none⟩ = u.cell? ⟨c, o, none⟩ :=
  World.cell?_of_block (w := u) (h.block c hc hs)
theorem Ex.frozen {b : Nat} {u v : World} (h : Ex b u v) (c o : Nat) (hc : c ≠ b) (hs : c < u.heap.size) : v.frozen? ⟨c, o, none⟩ = u.frozen? ⟨c, o, none⟩ :=
  World.frozen?_of_block (w := u) (h.block c hc hs)
theorem Ex.setNew {b : Nat} {u v : World} (h : Ex b u v) {p : Addr} (hp : u.heap.size ≤ p.block) (x : Value) : Ex b u (v.setCell p x) :=
  ⟨h.os, h.tape, h.output, by simpa using h.size, fun k hk hs => (Below.heap_setCell v p x k (by omega)).trans (h.block k hk hs)⟩
end Go.Proofs.YtjpjnbgfodlkcaaGreatDoor
/- Natural numbers as lists of limbs: plain mathematics. -/
namespace Go.Proofs.YtjpjnbgfodlkcaaGreatDoor
/-- the value of limbs, the least significant one first -/
def nv : List Nat → Nat
  | [] => 0
  | x :: r => x + 1073741824 * nv r
/-- the limbs of a number -/
def nd (n : Nat) : List Nat := if n = 0 then [] else n % 1073741824 :: nd (n / 1073741824)
decreasing_by omega
def Lim (l : List Nat) : Prop := ∀ x ∈ l, x < 1073741824
abbrev bp (k : Nat) : Nat := 1073741824 ^ k
theorem bp_succ (k : Nat) : 1073741824 ^ (k + 1) = 1073741824 * 1073741824 ^ k := by rw [Nat.pow_succ, Nat.mul_comm]
theorem bp_pos (k : Nat) : 0 < 1073741824 ^ k := Nat.pow_pos (by omega)
theorem bp_mono {j k : Nat} (h : j ≤ k) : 1073741824 ^ j ≤ 1073741824 ^ k := Nat.pow_le_pow_right (by omega) h
theorem nd_zero : nd 0 = [] := by rw [nd]; simp
theorem nd_pos {n : Nat} (h : 0 < n) : nd n = n % 1073741824 :: nd (n / 1073741824) := by rw [nd, if_neg (by omega)]
theorem nv_nd (n : Nat) : nv (nd n) = n := by
  induction n using Nat.strongRecOn with
  | _ n ih =>
    by_cases h : n = 0
    · subst h; simp [nd_zero, nv]
    · rw [nd_pos (by omega), nv, ih _ (by omega)]; omega
theorem lim_nil : Lim [] := fun _ h => by cases h
theorem lim_cons {x : Nat} {l : List Nat} : Lim (x :: l) ↔ x < 1073741824 ∧ Lim l := by simp [Lim]
theorem lim_append {a b : List Nat} : Lim (a ++ b) ↔ Lim a ∧ Lim b := by
  simp only [Lim, List.mem_append]; exact ⟨fun h => ⟨fun x hx => h x (.inl hx), fun x hx => h x (.inr hx)⟩, fun h x hx => hx.elim (h.1 x) (h.2 x)⟩
theorem lim_nd (n : Nat) : Lim (nd n) := by
  induction n using Nat.strongRecOn with
  | _ n ih =>
    by_cases h : n = 0
    · subst h; rw [nd_zero]; exact lim_nil
    · rw [nd_pos (by omega), lim_cons]; exact ⟨by omega, ih _ (by omega)⟩
theorem lim_take {l : List Nat} (h : Lim l) (k : Nat) : Lim (l.take k) := fun x hx => h x (List.mem_of_mem_take hx)
theorem lim_drop {l : List Nat} (h : Lim l) (k : Nat) : Lim (l.drop k) := fun x hx => h x (List.mem_of_mem_drop hx)
theorem lim_getD {l : List Nat} (h : Lim l) (k : Nat) : l.getD k 0 < 1073741824 := by
  rw [List.getD_eq_getElem?_getD]
  cases e : l[k]? with
  | none => simp
  | some x => simpa using h x (List.mem_of_getElem? e)
theorem nv_append (a b : List Nat) : nv (a ++ b) = nv a + 1073741824 ^ a.length * nv b := by
  induction a with
  | nil => simp [nv]
  | cons x a ih => simp only [List.cons_append, nv, List.length_cons, ih, bp_succ]; grind
theorem nv_lt {l : List Nat} (h : Lim l) : nv l < 1073741824 ^ l.length := by
  induction l with
  | nil => simp [nv]
  | cons x l ih =>
    have := ih (lim_cons.1 h).2
    have := (lim_cons.1 h).1
    simp only [nv, List.length_cons, bp_succ]; omega
theorem nv_inj : ∀ {a b : List Nat}, Lim a → Lim b → a.length = b.length → nv a = nv b → a = b
  | [], [], _, _, _, _ => rfl
  | [], _ :: _, _, _, h, _ => by simp at h
  | _ :: _, [], _, _, h, _ => by simp at h
  | x :: a, y :: b, ha, hb, hl, hv => by
    have ⟨hx, ha2⟩ := lim_cons.1 ha
    have ⟨hy, hb2⟩ := lim_cons.1 hb
    simp only [nv] at hv
    have e : x = y := by omega
    rw [e, nv_inj ha2 hb2 (by simpa using hl) (by omega)]
theorem nd_len (n k : Nat) : (nd n).length ≤ k ↔ n < 1073741824 ^ k := by
  induction k generalizing n with
  | zero =>
    by_cases h : n = 0
    · subst h; simp [nd_zero]
    · rw [nd_pos (by omega)]; simp; omega
  | succ k ih =>
    by_cases h : n = 0
    · subst h; simp [nd_zero, bp_pos]
    · rw [nd_pos (by omega), List.length_cons, Nat.add_le_add_iff_right, ih, bp_succ]; omega
theorem nd_lo {n : Nat} (h : 0 < n) : 1073741824 ^ ((nd n).length - 1) ≤ n := by
  have h1 : 0 < (nd n).length := by rw [nd_pos h]; simp
  have := nd_len n ((nd n).length - 1)
  have : ¬ n < 1073741824 ^ ((nd n).length - 1) := fun hc => by have := this.2 hc; omega
  omega
theorem nd_hi (n : Nat) : n < 1073741824 ^ (nd n).length := (nd_len n _).1 (Nat.le_refl _)
/-- limbs that are the limbs of their value -/
theorem nd_of {l : List Nat} (h : Lim l) (hl : l = [] ∨ 1073741824 ^ (l.length - 1) ≤ nv l) : l = nd (nv l) := by
  refine nv_inj h (lim_nd _) ?_ (nv_nd _).symm
  rcases hl with rfl | hl
  · simp [nv, nd_zero]
  · have h1 := (nd_len (nv l) l.length).2 (nv_lt h)
    by_cases h0 : l.length = 0
    · have : l = [] := List.length_eq_zero_iff.1 h0; subst this; simp [nv, nd_zero]
    · have h2 : ¬ (nd (nv l)).length ≤ l.length - 1 := fun hc => by have := (nd_len _ _).1 hc; omega
      omega
theorem take_split (l : List Nat) {k : Nat} (h : k < l.length) : l.take (k + 1) = l.take k ++ [l.getD k 0] := by
  rw [List.take_succ_eq_append_getElem h, List.getD_eq_getElem?_getD, List.getElem?_eq_getElem h]; rfl
theorem take_split' (l : List Nat) (k : Nat) : nv (l.take (k + 1)) = nv (l.take k) + 1073741824 ^ k * l.getD k 0 := by
  by_cases h : k < l.length
  · rw [take_split l h, nv_append]; simp [nv, Nat.min_eq_left (Nat.le_of_lt h)]
  · rw [List.take_of_length_le (by omega), List.take_of_length_le (by omega), List.getD_eq_getElem?_getD, List.getElem?_eq_none (by omega)]; simp
theorem nd_of_last {l : List Nat} (h : Lim l) (hl : l = [] ∨ l.getD (l.length - 1) 0 ≠ 0) : l = nd (nv l) := by
  refine nd_of h (hl.imp id fun hl => ?_)
  have h0 : l.length ≠ 0 := fun hc => by have : l = [] := List.length_eq_zero_iff.1 hc; subst this; simp at hl
  have e := take_split' l (l.length - 1)
  rw [show l.length - 1 + 1 = l.length by omega, List.take_of_length_le (Nat.le_refl _)] at e
  have := bp_pos (l.length - 1)
  rw [e]
  calc 1073741824 ^ (l.length - 1) = 1073741824 ^ (l.length - 1) * 1 := by omega
    _ ≤ 1073741824 ^ (l.length - 1) * l.getD (l.length - 1) 0 := Nat.mul_le_mul_left _ (by omega)
    _ ≤ _ := by omega
theorem nd_last {n : Nat} (h : 0 < n) : (nd n).getD ((nd n).length - 1) 0 ≠ 0 := by
  intro hc
  have h1 : 0 < (nd n).length := by rw [nd_pos h]; simp
  have e := take_split' (nd n) ((nd n).length - 1)
  rw [show (nd n).length - 1 + 1 = (nd n).length by omega, List.take_of_length_le (Nat.le_refl _), hc, nv_nd] at e
  have h2 := nv_lt (lim_take (lim_nd n) ((nd n).length - 1))
  rw [List.length_take, Nat.min_eq_left (by omega)] at h2
  have := nd_lo h
  omega
/-- taking a zero away from the end -/
theorem nv_trim1 (l : List Nat) {k : Nat} (h : l.getD k 0 = 0) : nv (l.take (k + 1)) = nv (l.take k) := by
  rw [take_split', h]; simp
theorem nd_inj {a b : Nat} (h : nd a = nd b) : a = b := by rw [← nv_nd a, h, nv_nd]
/-- the first difference decides -/
theorem nv_cmp {a b : List Nat} {k : Nat} (ha : Lim a) (hl : a.length = b.length) (hk : k < a.length) (hd : a.drop (k + 1) = b.drop (k + 1)) (hlt : a.getD k 0 < b.getD k 0) : nv a < nv b := by
  have ea : a = a.take (k + 1) ++ a.drop (k + 1) := (List.take_append_drop _ _).symm
  have eb : b = b.take (k + 1) ++ b.drop (k + 1) := (List.take_append_drop _ _).symm
  rw [ea, eb, nv_append, nv_append, hd, take_split', take_split']
  have h1 := nv_lt (lim_take ha k)
  simp only [List.length_take] at h1 ⊢
  rw [Nat.min_eq_left (by omega)] at h1
  rw [Nat.min_eq_left (by omega), Nat.min_eq_left (by omega)]
  have : 1073741824 ^ k * (a.getD k 0 + 1) ≤ 1073741824 ^ k * b.getD k 0 := Nat.mul_le_mul_left _ hlt
  rw [Nat.mul_add] at this
  omega
theorem nd_lt_len {a b : Nat} (h : (nd a).length < (nd b).length) : a < b := by
  have h1 := nd_hi a
  have h2 : 0 < b := by
    apply Nat.pos_of_ne_zero; intro hc; subst hc; simp [nd_zero] at h
  have h3 := nd_lo h2
  have := bp_mono (show (nd a).length ≤ (nd b).length - 1 by omega)
  omega
/-- one step of adding a multiple -/
theorem at_step {p n' c n f m x y : Int} (h : n' + c * p = n + f * m) :
    (n' + p * ((c + x + f * y) % 1073741824)) + (c + x + f * y) / 1073741824 * (1073741824 * p) = (n + p * x) + f * (m + p * y) := by
  have hd := Int.emod_add_mul_ediv (c + x + f * y) 1073741824
  generalize (c + x + f * y) % 1073741824 = d at *
  generalize (c + x + f * y) / 1073741824 = q at *
  grind
theorem at_bound {c f : Int} {x y : Nat} (c0 : -1073741824 < c) (c1 : c < 1073741824) (f0 : -1073741824 < f) (f1 : f < 1073741824) (hx : x < 1073741824) (hy : y < 1073741824) :
    -1152921504606846976 < c + (x + f * y) ∧ c + (x + f * y) < 1152921504606846976 ∧ -1073741824 < (c + (x + f * y)) / 1073741824 ∧ (c + (x + f * y)) / 1073741824 < 1073741824 ∧ -1152921503533105153 < f * y ∧ f * y < 1152921503533105153 := by
  have h1 : f * y ≤ 1073741823 * y := Int.mul_le_mul_of_nonneg_right (by omega) (by omega)
  have h2 : -1073741823 * y ≤ f * y := Int.mul_le_mul_of_nonneg_right (by omega) (by omega)
  have h3 : (y : Int) ≤ 1073741823 := by omega
  have h4 : (0 : Int) ≤ y := by omega
  generalize f * (y : Int) = z at *
  omega
/-- replacing the limbs from i on -/
theorem nv_win (l m r : List Nat) : nv (l ++ (m ++ r)) = nv l + 1073741824 ^ l.length * (nv m + 1073741824 ^ m.length * nv r) := by rw [nv_append, nv_append]
theorem nv_take_drop (l : List Nat) (k : Nat) (h : k ≤ l.length) : nv l = nv (l.take k) + 1073741824 ^ k * nv (l.drop k) := by
  conv => lhs; rw [← List.take_append_drop k l, nv_append]
  rw [List.length_take, Nat.min_eq_left h]
theorem nv_zero {l : List Nat} (h : ∀ j, l.getD j 0 = 0) : nv l = 0 := by
  induction l with
  | nil => rfl
  | cons x l ih =>
    have h0 := h 0
    have := ih (fun j => by simpa using h (j + 1))
    simp at h0
    simp [nv, h0, this]
theorem nv_replicate (n : Nat) : nv (List.replicate n 0) = 0 := by
  induction n with
  | zero => rfl
  | succ n ih => simp [List.replicate_succ, nv, ih]
theorem lim_replicate (n : Nat) : Lim (List.replicate n 0) := fun x hx => by rw [List.mem_replicate] at hx; omega
/-- what does not fit into the limbs is determined -/
theorem carry_zero {n c p : Int} (v : Int) (h : n + c * p = v) (n0 : 0 ≤ n) (n1 : n < p) (v0 : 0 ≤ v) (v1 : v < p) : c = 0 := by
  apply Decidable.byContradiction; intro hc
  rcases Int.lt_or_gt_of_ne hc with hc | hc
  · have : c * p ≤ -1 * p := Int.mul_le_mul_of_nonneg_right (by omega) (by omega)
    omega
  · have : 1 * p ≤ c * p := Int.mul_le_mul_of_nonneg_right (by omega) (by omega)
    omega
theorem carry_neg {n c p : Int} (v : Int) (h : n + c * p = v) (n0 : 0 ≤ n) (n1 : n < p) (v0 : -p ≤ v) (v1 : v < 0) : c = -1 := by
  have h2 : n + (c + 1) * p = v + p := by grind
  have := carry_zero (v + p) h2 n0 n1 (by omega) (by omega)
  omega
/-- a row of the product: the window's new limbs, and nothing is left over -/
theorem mul_step {P W' b : List Nat} {i x na : Nat} {c : Int} (hP : nv P = na * nv b) (hi : i + b.length + 1 ≤ P.length) (hz : ∀ j, i + b.length ≤ j → P.getD j 0 = 0) (lP : Lim P) (lb : Lim b) (lW : Lim W') (hW : W'.length = b.length + 1) (hx : x < 1073741824)
    (h : ((nv W' : Nat) : Int) + c * 1073741824 ^ (b.length + 1) = (nv ((P.drop i).take (b.length + 1)) : Nat) + (x : Int) * (nv b : Nat)) :
    c = 0 ∧ nv (P.take i ++ (W' ++ P.drop (i + (b.length + 1)))) = (na + 1073741824 ^ i * x) * nv b := by
  have e1 : (P.drop i).take (b.length + 1) = (P.drop i).take b.length ++ [0] := by
    rw [take_split _ (by simp; omega)]
    congr 1
    have := hz (i + b.length) (Nat.le_refl _)
    rw [List.getD_eq_getElem?_getD] at this ⊢
    rw [List.getElem?_drop, this]
  have e2 := nv_lt (lim_take (lim_drop lP i) b.length)
  have e3 : nv ((P.drop i).take (b.length + 1)) = nv ((P.drop i).take b.length) := by rw [e1, nv_append]; simp [nv]
  have e4 := nv_lt lb
  have e5 := nv_lt lW
  rw [List.length_take, List.length_drop, Nat.min_eq_left (by omega)] at e2
  rw [hW] at e5
  have e6 : x * nv b ≤ 1073741823 * nv b := Nat.mul_le_mul_right _ (by omega)
  have hc : c = 0 := by
    refine carry_zero _ h (by omega) ?_ (by omega) ?_
    · rw [show (1073741824 : Int) ^ (b.length + 1) = ((1073741824 ^ (b.length + 1) : Nat) : Int) by simp]; omega
    · rw [show (1073741824 : Int) ^ (b.length + 1) = ((1073741824 ^ (b.length + 1) : Nat) : Int) by simp, bp_succ, e3]
      have : (x : Int) * (nv b : Nat) = ((x * nv b : Nat) : Int) := by simp
      rw [this]; omega
  refine ⟨hc, ?_⟩
  subst hc
  rw [Int.zero_mul, Int.add_zero] at h
  have h2 : nv W' = nv ((P.drop i).take (b.length + 1)) + x * nv b := by
    have : (x : Int) * (nv b : Nat) = ((x * nv b : Nat) : Int) := by simp
    omega
  have e7 : P = P.take i ++ ((P.drop i).take (b.length + 1) ++ P.drop (i + (b.length + 1))) := by
    rw [← List.drop_drop, List.take_append_drop, List.take_append_drop]
  have e8 := congrArg nv e7
  rw [nv_win] at e8 ⊢
  rw [hW]
  rw [show ((P.drop i).take (b.length + 1)).length = b.length + 1 by simp; omega] at e8
  rw [show (P.take i).length = i by simp; omega] at e8 ⊢
  rw [h2]
  rw [hP] at e8
  generalize nv (List.take (b.length + 1) (List.drop i P)) = u at *
  generalize nv (List.drop (i + (b.length + 1)) P) = v at *
  generalize (1073741824 ^ (b.length + 1) : Nat) = p at *
  generalize (1073741824 ^ i : Nat) = q at *
  grind
theorem win_len {P l : List Nat} {i m : Nat} (hl : l.length = m) (hi : i + m ≤ P.length) : (P.take i ++ (l ++ P.drop (i + m))).length = P.length := by
  simp only [List.length_append, List.length_take, List.length_drop]; omega
theorem win_zero {P l : List Nat} {i m : Nat} (hl : l.length = m) (hi : i + m ≤ P.length) (hz : ∀ j, i + m ≤ j → P.getD j 0 = 0) (j : Nat) (hj : i + m ≤ j) : (P.take i ++ (l ++ P.drop (i + m))).getD j 0 = 0 := by
  rw [List.getD_eq_getElem?_getD, List.getElem?_append_right (by rw [List.length_take]; omega), List.length_take, Nat.min_eq_left (by omega), List.getElem?_append_right (by omega), List.getElem?_drop, ← List.getD_eq_getElem?_getD, hl]
  rw [show i + m + (j - i - m) = j by omega]
  exact hz j hj
theorem win_lim {P l : List Nat} {i m : Nat} (hP : Lim P) (hl : Lim l) : Lim (P.take i ++ (l ++ P.drop (i + m))) := lim_append.2 ⟨lim_take hP _, lim_append.2 ⟨hl, lim_drop hP _⟩⟩
/-- the guess is at least the digit -/
theorem guess_ge {R D : List Nat} {n : Nat} (lR : Lim R) (hR : R.length = n + 2) (hD : D.length = n + 1) (ht : 0 < D.getD n 0) :
    0 < nv D ∧ nv R / nv D ≤ (R.getD (n + 1) 0 * 1073741824 + R.getD n 0) / D.getD n 0 := by
  have d1 := take_split' D n
  rw [List.take_of_length_le (by omega)] at d1
  have r1 := take_split' R (n + 1)
  have r2 := take_split' R n
  rw [List.take_of_length_le (by omega)] at r1
  have r3 := nv_lt (lim_take lR n)
  rw [List.length_take, Nat.min_eq_left (by omega)] at r3
  have hp := bp_pos n
  have hD0 : 0 < nv D := by
    rw [d1]
    have := Nat.mul_pos hp ht
    omega
  refine ⟨hD0, ?_⟩
  rw [Nat.le_div_iff_mul_le ht]
  have h1 : nv R / nv D * nv D ≤ nv R := Nat.div_mul_le_self _ _
  have h2 : nv R / nv D * (1073741824 ^ n * D.getD n 0) ≤ nv R := Nat.le_trans (Nat.mul_le_mul_left _ (by omega)) h1
  rw [r1, r2, bp_succ] at h2
  have h3 : nv R / nv D * (1073741824 ^ n * D.getD n 0) = 1073741824 ^ n * (nv R / nv D * D.getD n 0) := by
    rw [Nat.mul_left_comm]
  rw [r1, r2, bp_succ] at h3
  rw [h3] at h2
  have h4 : 1073741824 ^ n * ((nv (R.take n) + 1073741824 ^ n * R.getD n 0 + 1073741824 * 1073741824 ^ n * R.getD (n + 1) 0) / nv D * D.getD n 0) < 1073741824 ^ n * (R.getD (n + 1) 0 * 1073741824 + R.getD n 0 + 1) := by
    refine Nat.lt_of_le_of_lt h2 ?_
    have : 1073741824 ^ n * (R.getD (n + 1) 0 * 1073741824 + R.getD n 0 + 1) = 1073741824 ^ n * R.getD n 0 + 1073741824 * 1073741824 ^ n * R.getD (n + 1) 0 + 1073741824 ^ n := by
      generalize (1073741824 ^ n : Nat) = q; grind
    rw [this]; omega
  have h5 := Nat.lt_of_mul_lt_mul_left h4
  rw [r1, r2, bp_succ]
  omega
theorem drop_cons {l : List Nat} {i : Nat} (h : i < l.length) : l.drop i = l.getD i 0 :: l.drop (i + 1) := by
  rw [List.drop_eq_getElem_cons h, List.getD_eq_getElem?_getD, List.getElem?_eq_getElem h]; rfl
theorem nv_drop {l : List Nat} {i : Nat} (h : i < l.length) : nv (l.drop i) = l.getD i 0 + 1073741824 * nv (l.drop (i + 1)) := by rw [drop_cons h, nv]
theorem drop_set {l : List Nat} {i x : Nat} (h : i < l.length) : (l.set i x).drop i = x :: l.drop (i + 1) := by
  rw [List.drop_set, if_neg (by omega), Nat.sub_self, drop_cons h, List.set_cons_zero]
theorem div_step {rest q D : List Nat} {i Af : Nat} (h1 : Af = nv rest + 1073741824 ^ (i + 1) * nv (q.drop (i + 1)) * nv D) (h2 : nv (rest.drop (i + 1)) < nv D) (lR : Lim rest) (lD : Lim D) (hi : i + D.length + 1 ≤ rest.length) (hq : i < q.length) :
    nv ((rest.drop i).take (D.length + 1)) < 1073741824 * nv D ∧
    ∀ W' : List Nat, W'.length = D.length + 1 → nv W' = nv ((rest.drop i).take (D.length + 1)) % nv D →
      Af = nv (rest.take i ++ (W' ++ rest.drop (i + (D.length + 1)))) + 1073741824 ^ i * nv ((q.set i (nv ((rest.drop i).take (D.length + 1)) / nv D)).drop i) * nv D ∧
      nv ((rest.take i ++ (W' ++ rest.drop (i + (D.length + 1)))).drop i) < nv D := by
  have hx := lim_getD lR i
  have e1 := nv_drop (l := rest) (i := i) (by omega)
  have e2 := nv_take_drop (rest.drop (i + 1)) D.length (by simp; omega)
  have e3 := nv_take_drop (rest.drop i) (D.length + 1) (by simp; omega)
  have hD := nv_lt lD
  have hp := bp_pos D.length
  rw [List.drop_drop] at e2 e3
  rw [show i + 1 + D.length = i + (D.length + 1) by omega] at e2
  have hz : nv (rest.drop (i + (D.length + 1))) = 0 := by
    apply Decidable.byContradiction; intro hc
    have := Nat.mul_le_mul_left (1073741824 ^ D.length) (Nat.pos_of_ne_zero hc)
    omega
  rw [hz, Nat.mul_zero, Nat.add_zero] at e3
  refine ⟨by omega, fun W' hW hv => ?_⟩
  have hD0 : 0 < nv D := by omega
  have hl : (rest.take i).length = i := by simp; omega
  have hr : nv rest = nv (rest.take i) + 1073741824 ^ i * nv (rest.drop i) := nv_take_drop rest i (by omega)
  constructor
  · rw [nv_win, hl, hz, Nat.mul_zero, Nat.add_zero, drop_set hq, nv, hv]
    have hdm := Nat.mod_add_div (nv ((rest.drop i).take (D.length + 1))) (nv D)
    rw [h1, hr, e3, bp_succ]
    generalize nv ((rest.drop i).take (D.length + 1)) % nv D = r at *
    generalize nv ((rest.drop i).take (D.length + 1)) / nv D = s at *
    rw [← hdm]
    generalize nv (rest.take i) = t
    generalize nv (q.drop (i + 1)) = u
    generalize (1073741824 ^ i : Nat) = p
    generalize nv D = d
    grind
  · rw [List.drop_append, hl, Nat.sub_self, List.drop_zero, List.drop_of_length_le (by omega), List.nil_append, nv_append, hz, Nat.mul_zero, Nat.add_zero, hv]
    exact Nat.mod_lt _ hD0
theorem div_start {rest : List Nat} {A Bv f la lb : Nat} (hr : nv rest = A * f) (hl : rest.length = la + 1) (hb : 1 ≤ lb) (hab : lb ≤ la) (hA : A < 1073741824 ^ la) (hB : 1073741824 ^ (lb - 1) ≤ Bv) (hf : 0 < f) : nv (rest.drop (la - lb + 1)) < Bv * f := by
  have e := nv_take_drop rest (la - lb + 1) (by omega)
  have h1 : 1073741824 ^ (la - lb + 1) * nv (rest.drop (la - lb + 1)) ≤ A * f := by omega
  have h2 : A * f < 1073741824 ^ la * f := Nat.mul_lt_mul_of_pos_right hA hf
  have h3 : (1073741824 : Nat) ^ la = 1073741824 ^ (la - lb + 1) * 1073741824 ^ (lb - 1) := by rw [← Nat.pow_add]; congr 1; omega
  have h4 : 1073741824 ^ (la - lb + 1) * (1073741824 ^ (lb - 1) * f) ≤ 1073741824 ^ (la - lb + 1) * (Bv * f) := Nat.mul_le_mul_left _ (Nat.mul_le_mul_right _ hB)
  rw [h3, Nat.mul_assoc] at h2
  exact Nat.lt_of_mul_lt_mul_left (Nat.lt_of_lt_of_le (Nat.lt_of_le_of_lt h1 h2) h4)
theorem div_end {A Bv f r q : Nat} (h : A * f = r + q * (Bv * f)) (hr : r < Bv * f) (hf : 0 < f) : q = A / Bv ∧ r / f = A % Bv ∧ r = A % Bv * f := by
  have hB : 0 < Bv := by
    apply Nat.pos_of_ne_zero; intro hc; subst hc; simp at hr
  have h1 : q * Bv ≤ A := by
    have : q * Bv * f ≤ A * f := by rw [h, Nat.mul_assoc]; omega
    exact Nat.le_of_mul_le_mul_right this hf
  have h2 : r = (A - q * Bv) * f := by rw [Nat.sub_mul, h, Nat.mul_assoc]; omega
  have h3 : A - q * Bv < Bv := by rw [h2] at hr; exact Nat.lt_of_mul_lt_mul_right hr
  have h4 : A = Bv * q + (A - q * Bv) := by rw [Nat.mul_comm Bv q]; omega
  have h5 : A / Bv = q := by rw [h4, Nat.mul_add_div hB, Nat.div_eq_of_lt h3]; omega
  have h6 : A % Bv = A - q * Bv := by
    have := Nat.mod_add_div A Bv
    rw [h5, Nat.mul_comm Bv q] at this; omega
  exact ⟨h5.symm, by rw [h2, Nat.mul_div_cancel _ hf, h6], by rw [h6]; exact h2⟩
/-- the digit: guesses come down to the quotient -/
theorem digit_sign {R D g : Nat} {n s p : Int} (h : n + s * p = (R : Int) - g * D) (n0 : 0 ≤ n) (n1 : n < p) (hR : (R : Int) < p) (hg : (g : Int) * D ≤ p) (hD : 0 < D) : (s < 0 ↔ R / D < g) ∧ -1 ≤ s ∧ s ≤ 0 ∧ (s = 0 → R / D = g → n = (R % D : Nat)) := by
  have hg0 : (0 : Int) ≤ (g : Int) * D := by
    rw [← Int.natCast_mul]; omega
  have hd := Nat.mod_add_div R D
  have hm := Nat.mod_lt R hD
  have key : ((R : Int) - g * D < 0) ↔ R / D < g := by
    rw [Nat.div_lt_iff_lt_mul hD, show (g : Int) * D = ((g * D : Nat) : Int) by simp]; omega
  by_cases hv : (R : Int) - g * D < 0
  · have := carry_neg _ h n0 n1 (by omega) hv
    exact ⟨⟨fun _ => key.1 hv, fun _ => by omega⟩, by omega, by omega, fun h => by omega⟩
  · have := carry_zero _ h n0 n1 (by omega) (by omega)
    refine ⟨⟨fun _ => by omega, fun h => absurd (key.2 h) hv⟩, by omega, by omega, fun _ hq => ?_⟩
    subst this
    rw [← hq] at h
    have : ((R / D : Nat) : Int) * D = ((D * (R / D) : Nat) : Int) := by rw [Int.natCast_mul, Int.mul_comm]
    rw [this] at h
    omega
theorem shrink_step {L Q : List Nat} {i d r : Nat} (hi : i < L.length) (hQ : i < Q.length) (h : nv (L.drop (i + 1)) = nv (Q.drop (i + 1)) * d + r) (hr : r < d) (lL : Lim L) (hx : Q.getD i 0 = L.getD i 0) :
    nv (L.drop i) = nv ((Q.set i ((r * 1073741824 + L.getD i 0) / d)).drop i) * d + (r * 1073741824 + L.getD i 0) % d ∧ (r * 1073741824 + L.getD i 0) % d < d ∧ (r * 1073741824 + L.getD i 0) / d < 1073741824 := by
  have hx := lim_getD lL i
  have hd := Nat.mod_add_div (r * 1073741824 + L.getD i 0) d
  refine ⟨?_, Nat.mod_lt _ (by omega), ?_⟩
  · rw [nv_drop hi, drop_set hQ, nv, h]
    generalize (r * 1073741824 + L.getD i 0) % d = m at *
    generalize (r * 1073741824 + L.getD i 0) / d = s at *
    generalize L.getD i 0 = x at *
    generalize nv (Q.drop (i + 1)) = u
    grind
  · rw [Nat.div_lt_iff_lt_mul (by omega)]
    have : (r + 1) * 1073741824 ≤ d * 1073741824 := Nat.mul_le_mul_right _ hr
    omega
theorem shr_lt {r q d : Nat} (hr : r < d) (hq : q < 1073741824) : (r * 1073741824 + q) / d < 1073741824 ∧ (r * 1073741824 + q) % d < d := by
  refine ⟨?_, Nat.mod_lt _ (by omega)⟩
  rw [Nat.div_lt_iff_lt_mul (by omega)]
  have : (r + 1) * 1073741824 ≤ d * 1073741824 := Nat.mul_le_mul_right _ hr
  omega
theorem getD_take {l m : List Nat} {i k : Nat} (h : l.take k = m.take k) (hi : i < k) : l.getD i 0 = m.getD i 0 := by
  have := congrArg (fun x => x.getD i 0) h
  simpa [List.getD_eq_getElem?_getD, List.getElem?_take_of_lt hi] using this
theorem lim_set {l : List Nat} (h : Lim l) (i : Nat) {x : Nat} (hx : x < 1073741824) : Lim (l.set i x) := fun y hy => by
  rcases List.mem_or_eq_of_mem_set hy with hy | rfl
  · exact h y hy
  · exact hx
theorem scale_step {c f x : Nat} {nn c0 v p : Nat} (h : nn + c * p = c0 + f * v) : (nn + p * ((c + f * x) % 1073741824)) + (c + f * x) / 1073741824 * (1073741824 * p) = c0 + f * (v + p * x) := by
  have hd := Nat.mod_add_div (c + f * x) 1073741824
  generalize (c + f * x) % 1073741824 = m at *
  generalize (c + f * x) / 1073741824 = s at *
  grind
theorem scale_bound {c f x : Nat} (hc : c < 1073741824) (hf : f < 1073741824) (hx : x < 1073741824) : f * x ≤ 1152921502459363329 ∧ (c + f * x) / 1073741824 < 1073741824 := by
  have : f * x ≤ 1073741823 * x := Nat.mul_le_mul_right _ (by omega)
  omega
end Go.Proofs.YtjpjnbgfodlkcaaGreatDoor
/- Numbers in memory: slices of limbs. -/
namespace Go.Proofs.YtjpjnbgfodlkcaaGreatDoor
open Go Go.RowKit Go.Sort
set_option maxRecDepth 100000
set_option linter.unusedVariables false

/-- the limbs l can be read through the slice v, in blocks of which p is true -/
def Rd (p : Nat → Prop) (w : World) (v : Value) (l : List Nat) : Prop :=
  ∃ (a : Option Addr) (cap : Nat), v = .slice a l.length cap ∧ l.length ≤ cap ∧ cap ≤ 9223372036854775807 ∧
    ∀ i, i < l.length → ∃ b off : Nat, a = some ⟨b, off, none⟩ ∧ p b ∧ w.cell? ⟨b, off + i, none⟩ = some (.int .i64 (l.getD i 0 : Nat))
theorem Rd.imp {p q : Nat → Prop} {w : World} {v : Value} {l : List Nat} (h : Rd p w v l) (hpq : ∀ b, b < w.heap.size → p b → q b) : Rd q w v l := by
  obtain ⟨a, cap, e, hl, hc, H⟩ := h
  exact ⟨a, cap, e, hl, hc, fun i hi => by
    obtain ⟨b, off, ea, hp, hcell⟩ := H i hi
    exact ⟨b, off, ea, hpq b (World.block_lt_of_cell? _ _ hcell) hp, hcell⟩⟩
theorem Rd.gr {p : Nat → Prop} {w w' : World} {v : Value} {l : List Nat} (h : Rd p w v l) (g : Gr w w') : Rd p w' v l := by
  obtain ⟨a, cap, e, hl, hc, H⟩ := h
  exact ⟨a, cap, e, hl, hc, fun i hi => by
    obtain ⟨b, off, ea, hp, hcell⟩ := H i hi
    exact ⟨b, off, ea, hp, by rw [(Gr.cells g).1 _ _ (World.block_lt_of_cell? _ _ hcell)]; exact hcell⟩⟩
theorem Rd.ex {r : Nat} {w w' : World} {v : Value} {l : List Nat} (h : Rd (· ≠ r) w v l) (g : Ex r w w') : Rd (· ≠ r) w' v l := by
  obtain ⟨a, cap, e, hl, hc, H⟩ := h
  exact ⟨a, cap, e, hl, hc, fun i hi => by
    obtain ⟨b, off, ea, hp, hcell⟩ := H i hi
    exact ⟨b, off, ea, hp, by rw [g.cell _ _ hp (World.block_lt_of_cell? _ _ hcell)]; exact hcell⟩⟩
theorem Rd.off {p : Nat → Prop} {w : World} {v : Value} {l : List Nat} (h : Rd p w v l) {r : Nat} (hr : w.heap.size ≤ r) : Rd (· ≠ r) w v l := h.imp fun b hb _ => by omega
theorem Rd.any {p : Nat → Prop} {w : World} {v : Value} {l : List Nat} (h : Rd p w v l) : Rd (fun _ => True) w v l := h.imp fun _ _ _ => trivial
theorem Rd.nil (p : Nat → Prop) (w : World) : Rd p w (.slice none 0 0) [] := ⟨none, 0, rfl, by simp, by omega, fun i hi => by simp at hi⟩
theorem Rd.at' {p : Nat → Prop} {w : World} {a : Option Addr} {n cap : Nat} {l : List Nat} (h : Rd p w (.slice a n cap) l) {i : Nat} (hi : i < l.length) : ∃ b off : Nat, a = some ⟨b, off, none⟩ ∧ p b ∧ w.cell? ⟨b, off + i, none⟩ = some (.int .i64 (l.getD i 0 : Nat)) := by
  obtain ⟨a', cap', e, hl, hc, H⟩ := h
  cases e
  exact H i hi
/-- taking limbs away from the end -/
theorem Rd.take {p : Nat → Prop} {w : World} {a : Option Addr} {n cap : Nat} {l : List Nat} (h : Rd p w (.slice a n cap) l) {k : Nat} (hk : k ≤ l.length) : Rd p w (.slice a k cap) (l.take k) := by
  obtain ⟨a', cap', e, hl, hc, H⟩ := h
  cases e
  have e : (l.take k).length = k := by simp; omega
  refine ⟨a, cap, by rw [e], by omega, hc, fun i hi => ?_⟩
  rw [e] at hi
  obtain ⟨b, off, ea, hp, hcell⟩ := H i (by omega)
  refine ⟨b, off, ea, hp, ?_⟩
  rw [hcell, List.getD_eq_getElem?_getD, List.getD_eq_getElem?_getD, List.getElem?_take_of_lt hi]
/-- the number N can be read through the slice v -/
def Num (w : World) (v : Value) (N : Nat) : Prop := Rd (fun _ => True) w v (nd N)
theorem Num.gr {w w' : World} {v : Value} {N : Nat} (h : Num w v N) (g : Gr w w') : Num w' v N := Rd.gr h g
theorem Num.nil (w : World) : Num w (.slice none 0 0) 0 := by unfold Num; rw [nd_zero]; exact Rd.nil _ _
/-- the limbs l lie in the block r from off on, and can be written -/
def Arr (w : World) (r off : Nat) (l : List Nat) : Prop := ∀ i, i < l.length → w.cell? ⟨r, off + i, none⟩ = some (.int .i64 (l.getD i 0 : Nat)) ∧ w.frozen? ⟨r, off + i, none⟩ = false
theorem Arr.gr {w w' : World} {r off : Nat} {l : List Nat} (h : Arr w r off l) (g : Gr w w') : Arr w' r off l := fun i hi => by
  have hb := World.block_lt_of_cell? _ _ (h i hi).1
  rw [(Gr.cells g).1 _ _ hb, (Gr.cells g).2 _ _ hb]; exact h i hi
theorem Arr.ex {w w' : World} {r off s : Nat} {l : List Nat} (h : Arr w r off l) (g : Ex s w w') (hs : r ≠ s) : Arr w' r off l := fun i hi => by
  have hb := World.block_lt_of_cell? _ _ (h i hi).1
  rw [g.cell _ _ hs hb, g.frozen _ _ hs hb]; exact h i hi
theorem Arr.rd {w : World} {r off cap : Nat} {l : List Nat} (h : Arr w r off l) (hl : l.length ≤ cap) (hc : cap ≤ 9223372036854775807) {p : Nat → Prop} (hp : p r) : Rd p w (.slice (some ⟨r, off, none⟩) l.length cap) l :=
  ⟨_, cap, rfl, hl, hc, fun i hi => ⟨r, off, rfl, hp, (h i hi).1⟩⟩
/-- Only the cells from lo to lo + n of the block r may have been written. -/
structure Win (r lo n : Nat) (u v : World) : Prop where
  ex : Ex r u v
  cells : ∀ o, (o < lo ∨ lo + n ≤ o) → v.cell? ⟨r, o, none⟩ = u.cell? ⟨r, o, none⟩
  froz : ∀ o, v.frozen? ⟨r, o, none⟩ = u.frozen? ⟨r, o, none⟩
theorem Win.refl (r lo n : Nat) (u : World) : Win r lo n u u := ⟨Ex.refl _ _, fun _ _ => rfl, fun _ => rfl⟩
theorem Win.trans {r lo n : Nat} {u v w : World} (h : Win r lo n u v) (k : Win r lo n v w) : Win r lo n u w :=
  ⟨h.ex.trans k.ex, fun o ho => (k.cells o ho).trans (h.cells o ho), fun o => (k.froz o).trans (h.froz o)⟩
theorem Win.gr {r lo n : Nat} {u v : World} (g : Gr u v) (hr : r < u.heap.size) : Win r lo n u v := ⟨Ex.ofGr g, fun _ _ => (Gr.cells g).1 _ _ hr, fun _ => (Gr.cells g).2 _ _ hr⟩
theorem Win.set {r lo n o : Nat} (u : World) (x : Value) (h0 : lo ≤ o) (h1 : o < lo + n) : Win r lo n u (u.setCell ⟨r, o, none⟩ x) :=
  ⟨Ex.set (Ex.refl _ _) _ _, fun p hp => World.cell?_setCell_other _ _ _ _ (by intro hc; cases hc; omega), fun p => by simp⟩
theorem Win.wide {r lo n lo' n' : Nat} {u v : World} (h : Win r lo n u v) (h0 : lo' ≤ lo) (h1 : lo + n ≤ lo' + n') : Win r lo' n' u v := ⟨h.ex, fun o ho => h.cells o (by omega), h.froz⟩
/-- a window of the limbs has been written -/
theorem Arr.win {w w' : World} {r off i : Nat} {l m : List Nat} (h : Arr w r off l) (g : Win r (off + i) m.length w w') (hm : Arr w' r (off + i) m) (hi : i + m.length ≤ l.length) : Arr w' r off (l.take i ++ (m ++ l.drop (i + m.length))) := by
  intro j hj
  simp only [List.length_append, List.length_take, List.length_drop, Nat.min_eq_left (show i ≤ l.length by omega)] at hj
  have hj2 : j < l.length := by omega
  rw [List.getD_eq_getElem?_getD]
  by_cases h1 : j < i
  · rw [List.getElem?_append_left (by simp; omega), List.getElem?_take_of_lt h1, ← List.getD_eq_getElem?_getD, g.cells _ (Or.inl (by omega)), g.froz]
    exact h j hj2
  · have e : (l.take i).length = i := by simp; omega
    rw [List.getElem?_append_right (by omega), e]
    by_cases h2 : j < i + m.length
    · rw [List.getElem?_append_left (by omega), ← List.getD_eq_getElem?_getD]
      have := hm (j - i) (by omega)
      rw [show off + i + (j - i) = off + j by omega] at this
      exact this
    · rw [List.getElem?_append_right (by omega), List.getElem?_drop, ← List.getD_eq_getElem?_getD, g.cells _ (Or.inr (by omega)), g.froz]
      rw [show i + m.length + (j - i - m.length) = j by omega]
      exact h j hj2
theorem Arr.sub {w : World} {r off : Nat} {l : List Nat} (h : Arr w r off l) (i n : Nat) : Arr w r (off + i) ((l.drop i).take n) := by
  intro j hj
  simp only [List.length_take, List.length_drop] at hj
  have := h (i + j) (by omega)
  rw [List.getD_eq_getElem?_getD, List.getElem?_take_of_lt (by omega), List.getElem?_drop, ← List.getD_eq_getElem?_getD, Nat.add_assoc]
  exact this
theorem Arr.take {w : World} {r off : Nat} {l : List Nat} (h : Arr w r off l) (k : Nat) : Arr w r off (l.take k) := by
  have := h.sub 0 k
  rwa [List.drop_zero, Nat.add_zero] at this
/-- one limb has been written -/
theorem Arr.set {w : World} {r off i : Nat} {l : List Nat} (h : Arr w r off l) (hi : i < l.length) (x : Nat) : Arr (w.setCell ⟨r, off + i, none⟩ (.int .i64 x)) r off (l.set i x) := by
  intro j hj
  rw [List.length_set] at hj
  rw [List.getD_eq_getElem?_getD]
  by_cases e : j = i
  · subst e
    rw [List.getElem?_set_self hj, World.cell?_setCell_same' _ _ _ (by rw [(h j hj).1]; rfl)]
    exact ⟨rfl, by rw [World.frozen?_setCell]; exact (h j hj).2⟩
  · rw [List.getElem?_set_ne (by omega), World.cell?_setCell_other _ _ _ _ (by intro hc; have := congrArg Addr.off hc; simp at this; omega), ← List.getD_eq_getElem?_getD]
    exact ⟨(h j hj).1, by rw [World.frozen?_setCell]; exact (h j hj).2⟩
end Go.Proofs.YtjpjnbgfodlkcaaGreatDoor
/- Leaf contracts of chapter 2: limb, fit, trim, Valid, addTimes. -/
namespace Go.Proofs.YtjpjnbgfodlkcaaGreatDoor
open Go Go.RowKit Go.Sort
set_option maxRecDepth 100000
set_option linter.unusedVariables false

theorem getD_ge {l : List Nat} {i : Nat} (h : ¬ i < l.length) : l.getD i 0 = 0 := by
  rw [List.getD_eq_getElem?_getD, List.getElem?_eq_none (by omega)]; rfl
theorem limb_any {p : Nat → Prop} {v : Value} {l : List Nat} (i : Nat) (w : World) (h : Rd p w v l) :
    Calls Tryz.prog 74 #[v, .int .i64 i] w fun e w' => e = .returned (.int .i64 (l.getD i 0 : Nat)) ∧ w = w' := by
  obtain ⟨a, cap, rfl, hl, hcap, H⟩ := h
  by_cases hlt : i < l.length
  · obtain ⟨b, off, rfl, -, hc⟩ := H i hlt
    clear H
    generalize l.getD i 0 = x at *
    go_enter Tryz.func74, Tryz.ntmps74
    go_wp2
    go_ret
    exact ⟨rfl, rfl⟩
  · rw [getD_ge hlt]
    clear H
    have d : decide (i < l.length) = false := by simpa using hlt
    go_enter Tryz.func74, Tryz.ntmps74
    go_wp2
    go_ret
    exact ⟨rfl, rfl⟩

theorem fit_ok {p : Nat → Prop} {v : Value} {l : List Nat} (w : World) (h : Rd p w v l) (hl : l.length ≤ 256) :
    Calls Tryz.prog 72 #[v] w fun e w' => e = .returned (.tuple #[v, .int .i64 0]) ∧ w = w' := by
  obtain ⟨a, cap, rfl, hl', hcap, H⟩ := h
  clear H
  have d : decide (256 < l.length) = false := by simpa using hl
  go_enter Tryz.func72, Tryz.ntmps72
  go_wp2
  go_ret2
  exact ⟨rfl, rfl⟩
theorem fit_no {p : Nat → Prop} {v : Value} {l : List Nat} (w : World) (h : Rd p w v l) (hl : 256 < l.length) :
    Calls Tryz.prog 72 #[v] w fun e w' => e = .returned (.tuple #[.slice none 0 0, .int .i64 5]) ∧ w = w' := by
  obtain ⟨a, cap, rfl, hl', hcap, H⟩ := h
  clear H
  have d : decide (256 < l.length) = true := by simpa using hl
  go_enter Tryz.func72, Tryz.ntmps72
  go_wp2
  go_ret2
  exact ⟨rfl, rfl⟩

theorem nd_nv_le {l : List Nat} (h : Lim l) : (nd (nv l)).length ≤ l.length := (nd_len _ _).2 (nv_lt h)
theorem nd_take {l : List Nat} (h : Lim l) : nd (nv l) = l.take (nd (nv l)).length := by
  have hle := nd_nv_le h
  refine nv_inj (lim_nd _) (lim_take h _) (by rw [List.length_take, Nat.min_eq_left hle]) ?_
  rw [nv_nd]
  have e := nv_take_drop l _ hle
  have hhi := nd_hi (nv l)
  have : nv (l.drop (nd (nv l)).length) = 0 := by
    apply Decidable.byContradiction; intro hc
    have := Nat.mul_le_mul_left (1073741824 ^ (nd (nv l)).length) (Nat.pos_of_ne_zero hc)
    omega
  rw [this] at e
  omega
/-- the canonical limbs at the front of l -/
def TrimPost (p : Nat → Prop) (w : World) (l : List Nat) (e : Ending) (w' : World) : Prop := ∃ v, e = .returned v ∧ Rd p w v (nd (nv l)) ∧ w = w'
theorem trim_at {p : Nat → Prop} {a : Option Addr} {n cap : Nat} {l : List Nat} (w : World) (h : Rd p w (.slice a n cap) l) (hL : Lim l) :
    Calls Tryz.prog 73 #[.slice a n cap] w fun e w' => e = .returned (.slice a (nd (nv l)).length cap) ∧ w = w' := by
  obtain ⟨a', cap', e, hl', hcap, H⟩ := h
  cases e
  have HH := Lib.hid H
  clear H
  go_enter Tryz.func73, Tryz.ntmps73
  go_wp2
  go_loop [0] (fun s => ∃ k : Nat, k ≤ l.length ∧ s = .slice a k cap ∧ nv (l.take k) = nv l) (fun s => match s with | .slice _ n _ => n | _ => 0)
  case atStart => exact ⟨l.length, Nat.le_refl _, rfl, by rw [List.take_length]⟩
  case round =>
    obtain ⟨k, hk, rfl, hv⟩ := hrel
    have HV := Lib.hid hv
    clear hv
    by_cases hk0 : 0 < k
    · obtain ⟨k, rfl⟩ : ∃ j, k = j + 1 := ⟨k - 1, by omega⟩
      obtain ⟨b, off, rfl, -, hc⟩ := HH.out k (by omega)
      have d1 : decide (0 < k + 1) = true := by simp
      have d2 : decide ((0 : Int) < (k : Int) + 1) = true := by simp
      have e1 : (k : Int) + 1 - 1 = (k : Int) := by omega
      by_cases hz : l.getD k 0 = 0
      · rw [hz] at hc
        have hk1 : (k : Int) ≤ (cap : Int) := by omega
        go_wp2
        go_round
        case rel => exact ⟨k, by omega, rfl, by rw [← nv_trim1 l hz]; exact HV.out⟩
        case measure => simp
      · have hz2 : (((l.getD k 0 : Nat) : Int) == 0) = false := by simpa using hz
        generalize hx : l.getD k 0 = x at *
        have HX := Lib.hid hx
        clear hx
        go_wp2
        go_ret
        have e : l.take (k + 1) = nd (nv l) := by
          rw [← HV.out]
          refine nd_of_last (lim_take hL _) (.inr ?_)
          rw [List.length_take, Nat.min_eq_left (by omega)]
          rw [List.getD_eq_getElem?_getD, List.getElem?_take_of_lt (by omega), ← List.getD_eq_getElem?_getD]
          rw [show k + 1 - 1 = k by omega, HX.out]; exact hz
        have e2 : (nd (nv l)).length = k + 1 := by rw [← e, List.length_take]; omega
        rw [e2]
        exact ⟨rfl, rfl⟩
    · obtain rfl : k = 0 := by omega
      go_wp2
      go_ret
      have e : nv l = 0 := by rw [← HV.out]; rfl
      rw [e, nd_zero]
      exact ⟨rfl, rfl⟩
theorem trim_any {p : Nat → Prop} {v : Value} {l : List Nat} (w : World) (h : Rd p w v l) (hL : Lim l) :
    Calls Tryz.prog 73 #[v] w (TrimPost p w l) := by
  obtain ⟨a, cap, e, hl', hcap, H⟩ := h
  subst e
  have h : Rd p w (.slice a l.length cap) l := ⟨a, cap, rfl, hl', hcap, H⟩
  refine (trim_at w h hL).mono ?_
  rintro e w' ⟨rfl, rfl⟩
  refine ⟨_, rfl, ?_, rfl⟩
  have e := nd_take hL
  have := Rd.take h (k := (nd (nv l)).length) (nd_nv_le hL)
  rw [← e] at this
  exact this
end Go.Proofs.YtjpjnbgfodlkcaaGreatDoor
