/- Several texts in one. -/
import Derived.Lib.Hide
import Derived.Test.YtkpejaiigopmgaaGreatDoorGr
import Derived.WalkKit
import Derived.WalkSpells
import Derived.WalkLawsBesides
import Derived.WalkSmall
import Derived.Handy
import Derived.BigQuiet
import Derived.Deep.QuietTactic
import Derived.Deep.RegionHeld3
import Derived.Deep.DeepFit
import Derived.Below
import Derived.Lib.QuietBelow
import Derived.Maps.AppendAt
import Derived.Laws.OwnMore
import Derived.Laws.CopyOwn
import Derived.OwnWalk
/- One's complement sums as plain numbers. -/
namespace Go.Proofs.YtkpejaiigopmgaaGreatDoor
open Go
set_option maxRecDepth 100000
set_option linter.unusedVariables false
/-- the one's complement sum of a plain sum -/
def oc (s : Nat) : Nat := if s = 0 then 0 else (s - 1) % 65535 + 1
theorem oc_le (s : Nat) : oc s ≤ 65535 := by unfold oc; split <;> omega
theorem oc_small {s : Nat} (h : s ≤ 65535) : oc s = s := by unfold oc; split <;> omega
theorem oc_pos {s : Nat} (h : 0 < s) : 0 < oc s := by unfold oc; split <;> omega
theorem oc_mod (s : Nat) : oc s % 65535 = s % 65535 := by unfold oc; split <;> omega
theorem oc_congr {a b : Nat} (ha : 0 < a) (hb : 0 < b) (h : a % 65535 = b % 65535) : oc a = oc b := by
  unfold oc; rw [if_neg (by omega), if_neg (by omega)]; omega
theorem oc_fold {s : Nat} (h : 65535 < s) : oc (s / 65536 + s % 65536) = oc s := oc_congr (by omega) (by omega) (by omega)
theorem fold_lt {s : Nat} (h : 65535 < s) : s / 65536 + s % 65536 < s := by omega
theorem oc_add (a b : Nat) : oc (oc a + b) = oc (a + b) := by
  by_cases h : a = 0
  · subst h; rfl
  · have := oc_pos (s := a) (by omega)
    have := oc_mod a
    exact oc_congr (by omega) (by omega) (by omega)
theorem oc_add' (a b : Nat) : oc (a + oc b) = oc (a + b) := by rw [Nat.add_comm, oc_add, Nat.add_comm]
/-- the sum of bytes, taken in pairs: p says that the first is the less significant of its pair -/
def wsum : Bool → List Nat → Nat
  | _, [] => 0
  | false, x :: t => 256 * x + wsum true t
  | true, x :: t => x + wsum false t
def par (p : Bool) (n : Nat) : Bool := if n % 2 = 0 then p else !p
theorem par_succ (p : Bool) (n : Nat) : par p (n + 1) = par (!p) n := by
  unfold par; rcases Nat.mod_two_eq_zero_or_one n with h | h
  · rw [if_neg (by omega), if_pos h]
  · rw [if_pos (by omega), if_neg (by omega)]; simp
theorem wsum_append (p : Bool) (l m : List Nat) : wsum p (l ++ m) = wsum p l + wsum (par p l.length) m := by
  induction l generalizing p with
  | nil => cases p <;> simp [wsum, par]
  | cons x t ih => cases p <;> simp only [List.cons_append, wsum, ih, List.length_cons, par_succ, Bool.not_true, Bool.not_false] <;> omega
theorem wsum_even {l m : List Nat} (h : l.length % 2 = 0) : wsum false (l ++ m) = wsum false l + wsum false m := by
  rw [wsum_append]; unfold par; rw [if_pos h]
theorem take_add_one (l : List Nat) {i : Nat} (h : i < l.length) : l.take (i + 1) = l.take i ++ [l.getD i 0] := by
  rw [List.take_succ_eq_append_getElem h, List.getD_eq_getElem?_getD, List.getElem?_eq_getElem h]; rfl
theorem wsum_take_even {l : List Nat} {i : Nat} (h : i < l.length) (he : i % 2 = 0) : wsum false (l.take (i + 1)) = wsum false (l.take i) + 256 * l.getD i 0 := by
  rw [take_add_one l h, wsum_even (by rw [List.length_take, Nat.min_eq_left (by omega)]; exact he)]; simp [wsum]
theorem wsum_take_odd {l : List Nat} {i : Nat} (h : i < l.length) (he : i % 2 = 1) : wsum false (l.take (i + 1)) = wsum false (l.take i) + l.getD i 0 := by
  rw [take_add_one l h, wsum_append]; unfold par
  rw [List.length_take, Nat.min_eq_left (by omega), if_neg (by omega)]; simp [wsum]
theorem getD_lt {l : List Nat} (h : ∀ x ∈ l, x < 256) (i : Nat) : l.getD i 0 < 256 := by
  rw [List.getD_eq_getElem?_getD]
  cases hx : l[i]? with
  | none => simp
  | some y => exact h y (List.mem_of_getElem? hx)
theorem wsum_le (p : Bool) (l : List Nat) (h : ∀ x ∈ l, x < 256) : wsum p l ≤ 65280 * l.length := by
  induction l generalizing p with
  | nil => cases p <;> simp [wsum]
  | cons x t ih =>
    have hx := h x (List.mem_cons_self ..)
    have := ih (!p) (fun y hy => h y (List.mem_cons_of_mem _ hy))
    cases p <;> simp only [wsum, List.length_cons, Bool.not_true, Bool.not_false] at this ⊢ <;> omega
theorem wsum_pos {p : Bool} {l : List Nat} {i : Nat} (h : l.getD i 0 ≠ 0) : 0 < wsum p l := by
  induction l generalizing p i with
  | nil => simp at h
  | cons x t ih =>
    cases i with
    | zero =>
      have : x ≠ 0 := by simpa using h
      cases p <;> simp only [wsum] <;> omega
    | succ i =>
      have := ih (p := !p) (i := i) (by simpa using h)
      cases p <;> simp only [wsum, Bool.not_true, Bool.not_false] at this ⊢ <;> omega
theorem wsum_set_even (p : Bool) {l : List Nat} {i : Nat} (h : i < l.length) (x : Nat) (he : par p i = false) : wsum p (l.set i x) + 256 * l.getD i 0 = wsum p l + 256 * x := by
  induction l generalizing p i with
  | nil => simp at h
  | cons y t ih =>
    cases i with
    | zero =>
      have : p = false := by simpa [par] using he
      subst this
      simp [wsum]; omega
    | succ i =>
      rw [par_succ] at he
      have := ih (!p) (i := i) (by simpa using h) he
      cases p <;> simp only [wsum, List.set_cons_succ, List.getD_cons_succ, Bool.not_true, Bool.not_false] at this ⊢ <;> omega
theorem wsum_set_odd (p : Bool) {l : List Nat} {i : Nat} (h : i < l.length) (x : Nat) (he : par p i = true) : wsum p (l.set i x) + l.getD i 0 = wsum p l + x := by
  induction l generalizing p i with
  | nil => simp at h
  | cons y t ih =>
    cases i with
    | zero =>
      have : p = true := by simpa [par] using he
      subst this
      simp [wsum]; omega
    | succ i =>
      rw [par_succ] at he
      have := ih (!p) (i := i) (by simpa using h) he
      cases p <;> simp only [wsum, List.set_cons_succ, List.getD_cons_succ, Bool.not_true, Bool.not_false] at this ⊢ <;> omega
/-- a pair is replaced -/
theorem wsum_pair {l : List Nat} {k : Nat} (h : k + 1 < l.length) (he : k % 2 = 0) (x y : Nat) :
    wsum false ((l.set k x).set (k + 1) y) + (256 * l.getD k 0 + l.getD (k + 1) 0) = wsum false l + (256 * x + y) := by
  have h1 := wsum_set_even false (l := l) (i := k) (by omega) x (by unfold par; rw [if_pos he])
  have h2 := wsum_set_odd false (l := l.set k x) (i := k + 1) (by simpa using h) y (by unfold par; rw [if_neg (by omega)]; rfl)
  have h3 : (l.set k x).getD (k + 1) 0 = l.getD (k + 1) 0 := by
    rw [List.getD_eq_getElem?_getD, List.getD_eq_getElem?_getD, List.getElem?_set_ne (by omega)]
  omega
/-- the checksum's update -/
theorem update_oc {W old now X : Nat} (h : X + old = W + now) (hX : 0 < X) (ho : old ≤ 65535) : oc (65535 - (65535 - oc W) + (65535 - old) + now) = oc X := by
  have h1 := oc_le W
  have h2 := oc_mod W
  have h3 : 0 < W → 0 < oc W := oc_pos
  refine oc_congr ?_ hX ?_
  · by_cases hw : 0 < W
    · have := h3 hw; omega
    · omega
  · omega
/-- what the document's Add makes of a plain sum -/
theorem oc_two {a b : Nat} (ha : a ≤ 65535) (hb : b ≤ 65535) : (a + b) % 65536 + (a + b) / 65536 = oc (a + b) := by
  by_cases h : a + b ≤ 65535
  · rw [oc_small h]; omega
  · have := oc_fold (s := a + b) (by omega)
    rw [oc_small (by omega)] at this
    omega
theorem oc_three (a b c : Nat) : oc (oc (a + b) + c) = oc (a + b + c) := oc_add _ _
/-- the number in bytes, the most significant one first -/
def bnum (l : List Nat) : Nat := l.foldl (fun n x => n * 256 + x) 0
theorem bnum_snoc (l : List Nat) (x : Nat) : bnum (l ++ [x]) = bnum l * 256 + x := by simp [bnum]
theorem bnum_take {l : List Nat} {k : Nat} (h : k < l.length) : bnum (l.take (k + 1)) = bnum (l.take k) * 256 + l.getD k 0 := by rw [take_add_one l h, bnum_snoc]
theorem bnum_lt {l : List Nat} (h : ∀ x ∈ l, x < 256) (k : Nat) : bnum (l.take k) < 256 ^ k := by
  induction k with
  | zero => simp [bnum]
  | succ k ih =>
    by_cases hk : k < l.length
    · rw [bnum_take hk]
      have := getD_lt h k
      rw [Nat.pow_succ]; omega
    · rw [List.take_of_length_le (by omega)]
      rw [List.take_of_length_le (by omega)] at ih
      rw [Nat.pow_succ]; omega
/-- the bytes of a number, the most significant one first -/
def bput (n : Nat) : Nat → List Nat
  | 0 => []
  | k + 1 => n / 256 ^ k % 256 :: bput n k
theorem bput_len (n k : Nat) : (bput n k).length = k := by induction k with | zero => rfl | succ k ih => simp [bput, ih]
theorem bput_lt (n k : Nat) : ∀ x ∈ bput n k, x < 256 := by
  induction k with
  | zero => intro x h; simp [bput] at h
  | succ k ih =>
    intro x h
    rcases List.mem_cons.1 h with rfl | h
    · exact Nat.mod_lt _ (by omega)
    · exact ih x h
theorem bput_at (n k i : Nat) (h : i < k) : (bput n k).getD (k - 1 - i) 0 = n / 256 ^ i % 256 := by
  induction k with
  | zero => omega
  | succ k ih =>
    by_cases e : i = k
    · subst e
      rw [show i + 1 - 1 - i = 0 by omega]; rfl
    · rw [show k + 1 - 1 - i = (k - 1 - i) + 1 by omega]
      simp only [bput, List.getD_cons_succ]
      exact ih (by omega)
end Go.Proofs.YtkpejaiigopmgaaGreatDoor
/- Bytes in memory: slices that read as lists; append. -/
namespace Go.Proofs.YtkpejaiigopmgaaGreatDoor
open Go Go.RowKit Go.Sort
set_option maxRecDepth 100000
set_option linter.unusedVariables false

/-- the bytes l can be read through the slice v, in blocks of which p is true -/
def Rb (p : Nat → Prop) (w : World) (v : Value) (l : List Nat) : Prop :=
  ∃ (a : Option Addr) (cap : Nat), v = .slice a l.length cap ∧ l.length ≤ cap ∧ cap ≤ 9223372036854775807 ∧ (a = none → cap = 0) ∧ (∀ x ∈ l, x < 256) ∧
    ∀ i, i < l.length → ∃ b off : Nat, a = some ⟨b, off, none⟩ ∧ p b ∧ w.cell? ⟨b, off + i, none⟩ = some (.int .u8 (l.getD i 0 : Nat))
theorem Rb.imp {p q : Nat → Prop} {w : World} {v : Value} {l : List Nat} (h : Rb p w v l) (hpq : ∀ b, b < w.heap.size → p b → q b) : Rb q w v l := by
  obtain ⟨a, cap, e, hl, hc, hn, hx, H⟩ := h
  exact ⟨a, cap, e, hl, hc, hn, hx, fun i hi => by
    obtain ⟨b, off, ea, hp, hcell⟩ := H i hi
    exact ⟨b, off, ea, hpq b (World.block_lt_of_cell? _ _ hcell) hp, hcell⟩⟩
theorem Rb.any {p : Nat → Prop} {w : World} {v : Value} {l : List Nat} (h : Rb p w v l) : Rb (fun _ => True) w v l := h.imp fun _ _ _ => trivial
theorem Rb.gr {p : Nat → Prop} {w w' : World} {v : Value} {l : List Nat} (h : Rb p w v l) (g : Gr w w') : Rb p w' v l := by
  obtain ⟨a, cap, e, hl, hc, hn, hx, H⟩ := h
  exact ⟨a, cap, e, hl, hc, hn, hx, fun i hi => by
    obtain ⟨b, off, ea, hp, hcell⟩ := H i hi
    exact ⟨b, off, ea, hp, by rw [(Gr.cells g).1 _ _ (World.block_lt_of_cell? _ _ hcell)]; exact hcell⟩⟩
theorem Rb.ex {r : Nat} {p : Nat → Prop} {w w' : World} {v : Value} {l : List Nat} (h : Rb p w v l) (g : Ex r w w') (hr : ∀ b, p b → b ≠ r) : Rb p w' v l := by
  obtain ⟨a, cap, e, hl, hc, hn, hx, H⟩ := h
  exact ⟨a, cap, e, hl, hc, hn, hx, fun i hi => by
    obtain ⟨b, off, ea, hp, hcell⟩ := H i hi
    exact ⟨b, off, ea, hp, by rw [g.cell _ _ (hr _ hp) (World.block_lt_of_cell? _ _ hcell)]; exact hcell⟩⟩
theorem Rb.nil (p : Nat → Prop) (w : World) : Rb p w (.slice none 0 0) [] := ⟨none, 0, rfl, by simp, by omega, fun _ => rfl, fun _ h => by simp at h, fun i hi => by simp at hi⟩
theorem Rb.bytes {p : Nat → Prop} {w : World} {v : Value} {l : List Nat} (h : Rb p w v l) : ∀ x ∈ l, x < 256 := by
  obtain ⟨a, cap, e, hl, hc, hn, hx, H⟩ := h
  exact hx
theorem Rb.form {p : Nat → Prop} {w : World} {v : Value} {l : List Nat} (h : Rb p w v l) : ∃ a cap, v = .slice a l.length cap ∧ l.length ≤ cap ∧ cap ≤ 9223372036854775807 := by
  obtain ⟨a, cap, e, hl, hc, hn, hx, H⟩ := h
  exact ⟨a, cap, e, hl, hc⟩
theorem Rb.at' {p : Nat → Prop} {w : World} {a : Option Addr} {n cap : Nat} {l : List Nat} (h : Rb p w (.slice a n cap) l) {i : Nat} (hi : i < l.length) : ∃ b off : Nat, a = some ⟨b, off, none⟩ ∧ p b ∧ w.cell? ⟨b, off + i, none⟩ = some (.int .u8 (l.getD i 0 : Nat)) := by
  obtain ⟨a', cap', e, hl, hc, hn, hx, H⟩ := h
  cases e
  exact H i hi
theorem Rb.take {p : Nat → Prop} {w : World} {a : Option Addr} {n cap : Nat} {l : List Nat} (h : Rb p w (.slice a n cap) l) {k : Nat} (hk : k ≤ l.length) : Rb p w (.slice a k cap) (l.take k) := by
  obtain ⟨a', cap', e, hl, hc, hn, hx, H⟩ := h
  cases e
  have e : (l.take k).length = k := by simp; omega
  refine ⟨a, cap, by rw [e], by omega, hc, hn, fun x hm => hx x (List.mem_of_mem_take hm), fun i hi => ?_⟩
  rw [e] at hi
  obtain ⟨b, off, ea, hp, hcell⟩ := H i (by omega)
  refine ⟨b, off, ea, hp, ?_⟩
  rw [hcell, List.getD_eq_getElem?_getD, List.getD_eq_getElem?_getD, List.getElem?_take_of_lt hi]
/-- a part from k on, not empty -/
theorem Rb.part {p : Nat → Prop} {w : World} {b off n cap : Nat} {l : List Nat} (h : Rb p w (.slice (some ⟨b, off, none⟩) n cap) l) {k m : Nat} (hk : k + m ≤ l.length) : Rb p w (.slice (some ⟨b, off + k, none⟩) m (cap - k)) ((l.drop k).take m) := by
  obtain ⟨a', cap', e, hl, hc, hn, hx, H⟩ := h
  cases e
  have e : ((l.drop k).take m).length = m := by simp; omega
  refine ⟨_, cap - k, by rw [e], by omega, by omega, (fun h => by cases h), fun x hm => hx x (List.mem_of_mem_drop (List.mem_of_mem_take hm)), fun i hi => ?_⟩
  rw [e] at hi
  obtain ⟨b', off', ea, hp, hcell⟩ := H (k + i) (by omega)
  cases ea
  refine ⟨_, _, rfl, hp, ?_⟩
  rw [Nat.add_assoc, hcell, List.getD_eq_getElem?_getD, List.getD_eq_getElem?_getD, List.getElem?_take_of_lt hi, List.getElem?_drop]
/-- bytes as cells -/
def cellsB (l : List Nat) : List Value := l.map fun x : Nat => Value.int .u8 (x : Int)
theorem cellsB_len (l : List Nat) : (cellsB l).length = l.length := by simp [cellsB]
theorem cellsB_append (l m : List Nat) : cellsB (l ++ m) = cellsB l ++ cellsB m := by simp [cellsB]
theorem cellsB_at (l : List Nat) {i : Nat} (h : i < l.length) : (cellsB l)[i]? = some (.int .u8 (l.getD i 0 : Nat)) := by
  simp [cellsB, List.getD_eq_getElem?_getD, List.getElem?_eq_getElem h]
theorem cellsB_one (l : List Nat) : ∀ u ∈ cellsB l, u.oneCell' = true := by
  intro u hu
  rw [cellsB, List.mem_map] at hu
  obtain ⟨n, -, rfl⟩ := hu
  rfl
theorem cellsB_set (l : List Nat) (i x : Nat) (y : Int) (hy : y = (x : Int)) : (cellsB l).set i (.int .u8 y) = cellsB (l.set i x) := by
  subst hy; simp [cellsB, List.map_set]
/-- a row of the call's own -/
def OwB (base : Nat) (w : World) (v : Value) (l : List Nat) : Prop := w.ownsRow base 5 1 v l.length (cellsB l) ∧ ∀ x ∈ l, x < 256
theorem OwB.nil (base : Nat) (w : World) : OwB base w (.slice none 0 0) [] := ⟨World.ownsRow_nil _ _ _ _, fun _ h => by simp at h⟩
theorem OwB.rb {base : Nat} {w : World} {v : Value} {l : List Nat} (h : OwB base w v l) : Rb (fun b => base ≤ b) w v l := by
  obtain ⟨h1, h2⟩ := h
  rcases h1.2 with ⟨rfl, h0⟩ | ⟨g, cap, cur, rfl, hg, hh, hn, hcap, hsz, htake⟩
  · have : l = [] := List.eq_nil_of_length_eq_zero h0
    subst this
    exact Rb.nil _ _
  · unfold maxLen at hcap
    refine ⟨_, cap, rfl, hn, by omega, (fun h => by cases h), h2, fun i hi => ⟨g, 0, rfl, hg, ?_⟩⟩
    rw [Nat.zero_add, h1.cellAt i (by omega), cellsB_at l hi]
theorem OwB.form {base : Nat} {w : World} {v : Value} {l : List Nat} (h : OwB base w v l) (hl : 0 < l.length) : ∃ g cap, v = .slice (some ⟨g, 0, none⟩) l.length cap ∧ base ≤ g ∧ g < w.heap.size ∧ l.length ≤ cap := by
  rcases h.1.2 with ⟨_, h0⟩ | ⟨g, cap, cur, hv, hg, hh, hc, _⟩
  · omega
  · refine ⟨g, cap, hv, hg, ?_, hc⟩
    rcases Nat.lt_or_ge g w.heap.size with h | h
    · exact h
    · rw [Array.getElem?_eq_none h] at hh; cases hh
theorem OwB.grow {base : Nat} {w w' : World} {v : Value} {l : List Nat} {row : Option Nat} (h : OwB base w v l) (g : w.grownBy w' row) (hr : v.ownBlock = none ∨ v.ownBlock ≠ row) : OwB base w' v l := ⟨World.ownsRow.kept h.1 g hr, h.2⟩
theorem Gr.grownBy {w w' : World} (g : Gr w w') : w.grownBy w' none := ⟨Below.os g, Below.tape g, Below.output g, Below.size g, fun k hk _ => Below.block g k hk⟩
theorem OwB.gr {base : Nat} {w w' : World} {v : Value} {l : List Nat} (h : OwB base w v l) (g : Gr w w') : OwB base w' v l := by
  refine h.grow (Gr.grownBy g) ?_
  cases hv : v.ownBlock with
  | none => exact .inl rfl
  | some k => exact .inr (by simp)
/-- a stretch that writes new blocks alone -/
theorem Gr.grownNew {u v w : World} {row : Option Nat} (h : Gr u v) (g : v.grownBy w row) (hr : ∀ k, row = some k → u.heap.size ≤ k) : Gr u w :=
  ⟨g.os.trans (Below.os h), g.tape.trans (Below.tape h), g.output.trans (Below.output h), Nat.le_trans (Below.size h) g.size, fun j hj => (g.block j (Nat.lt_of_lt_of_le hj (Below.size h)) (fun hc => by have := hr j hc.symm; omega)).trans (Below.block h j hj)⟩
theorem OwB.above {base : Nat} {w : World} {v : Value} {l : List Nat} (h : OwB base w v l) : ∀ k, v.ownBlock = some k → base ≤ k := by
  intro k hk
  rcases h.1.2 with ⟨rfl, h0⟩ | ⟨g, cap, cur, rfl, hg, _⟩
  · cases hk
  · simp [Value.ownBlock] at hk; omega
theorem byteInfoB : ∃ i, Tryz.prog.info? 5 = some i ∧ i.zero = some (.int .u8 0) ∧ i.size = 1 ∧ i.bytes = 1 := by
  have h : (match Tryz.prog.info? 5 with | some i => (match i.zero with | some (.int .u8 0) => i.size == 1 && i.bytes == 1 | _ => false) | none => false) = true := by kernel_rfl
  cases h1 : Tryz.prog.info? 5 with
  | none => rw [h1] at h; cases h
  | some i =>
    rw [h1] at h
    simp only at h
    split at h
    · next h2 =>
      simp only [Bool.and_eq_true, beq_iff_eq] at h
      exact ⟨i, rfl, h2, h.1, h.2⟩
    · cases h
/-- append of bytes that can be read, nil or not, onto a row of the call's own -/
theorem wpList_app {base : Nat} {p : Nat → Prop} {w : World} {ops : Array Oper} {rest : List Oper} {o : Oper} {a : Act} {Q : Exit → Act → World → Prop} (hgd : o.guard = none) (s x : Operand)
    (ho : o.op = .call { callee := .builtin .append, args := #[s, x], argTypes := #[22, 22] }) {v xv : Value} {l m : List Nat}
    (hs : a.eval s = v) (hown : OwB base w v l) (hx : a.eval x = xv) (hr : Rb p w xv m) (h63 : l.length + m.length ≤ 100000) (hbase : base ≤ w.heap.size)
    (h : ∀ v' w', OwB base w' v' (l ++ m) → w.grownBy w' v.ownBlock → wpList Tryz.prog ops Q rest (a.put o.dst v') w') : wpList Tryz.prog ops Q (o :: rest) a w := by
  obtain ⟨i, hi1, hi2, hi3, hi4⟩ := byteInfoB
  obtain ⟨ad, cap, rfl, hl, hc, hn, hb, H⟩ := hr
  have hlt : ∀ y ∈ l ++ m, y < 256 := fun y hy => (List.mem_append.1 hy).elim (hown.2 y) (hb y)
  cases ad with
  | none =>
    have hm : m = [] := by
      cases m with
      | nil => rfl
      | cons y t => obtain ⟨b, off, e, _⟩ := H 0 (by simp); cases e
    subst hm
    obtain rfl := hn rfl
    refine wpList_plain hgd fun K hK => ?_
    have hrun := run_append_owned_none (P := Tryz.prog) w base 22 o.type 5 i 1 Tryz.underlying22 hi1 v l.length (cellsB l) hown.1
    unfold Oper.wp execOp
    simp only [ho, resolve, invoke, builtin, Sem.run_bind, Sem.run_pure, Result.andThen_ok, List.map_toArray, List.map_cons, List.map_nil, hs, hx, List.length_nil, hrun]
    exact hK _ _ (h v w (by rw [List.append_nil]; exact hown) ⟨rfl, rfl, rfl, Nat.le_refl _, fun _ _ _ => rfl⟩)
  | some ad =>
    refine wpList_append_own_at w hgd s x 22 ho base 5 i (.int .u8 0) 1 1 Tryz.underlying22 hi1 hi2 hi3 hi4 rfl (by decide) v l.length (cellsB l) hs hown.1 ad m.length cap (cellsB m) hx (by rw [cellsB_len, Nat.mul_one]) ?_ (cellsB_one m) (by unfold maxLen; omega) (by omega) hbase ?_
    · intro j u hj
      have hjm : j < m.length := by
        rcases Nat.lt_or_ge j m.length with h | h
        · exact h
        · rw [List.getElem?_eq_none (by rw [cellsB_len]; exact h)] at hj; cases hj
      rw [cellsB_at m hjm] at hj
      obtain rfl := Option.some.inj hj
      obtain ⟨b, off, e, _, hcell⟩ := H j hjm
      cases e
      rw [show (⟨b, off, none⟩ : Addr).add j = ⟨b, off + j, none⟩ by unfold Addr.add; split <;> simp_all]
      exact hcell
    · intro v' w' h2 h3 _ _
      refine h v' w' ⟨?_, hlt⟩ h3
      rw [List.length_append, cellsB_append]
      exact h2
end Go.Proofs.YtkpejaiigopmgaaGreatDoor
/- The package wire: sums. -/
namespace Go.Proofs.YtkpejaiigopmgaaGreatDoor
open Go Go.RowKit Go.Sort
set_option maxRecDepth 100000
set_option linter.unusedVariables false

theorem and_mask16 (n : Int) : bits .and .i64 n 65535 = n % 65536 := by
  have h255 : (BitVec.ofInt 64 65535).toNat = 2 ^ 16 - 1 := by decide
  have key : (BitVec.ofInt 64 n &&& BitVec.ofInt 64 65535).toNat = (n % ((2 ^ 64 : Nat) : Int)).toNat % 2 ^ 16 := by
    rw [BitVec.toNat_and, BitVec.toNat_ofInt, h255, Nat.and_two_pow_sub_one_eq_mod]
  show IntKind.i64.wrap ((BitVec.ofInt 64 n &&& BitVec.ofInt 64 65535).toNat : Nat) = n % 65536
  rw [key, IntKind.wrap_i64]
  omega
theorem wfold_any (s : Nat) (w : World) (hs : s ≤ 4611686018427387904) :
    Calls Tryz.prog 102 #[.int .i64 s] w fun e w' => e = .returned (.int .i64 (oc s : Nat)) ∧ w = w' := by
  go_enter Tryz.func102, Tryz.ntmps102
  go_wp2
  go_loop [0] (fun v => ∃ t : Nat, t ≤ s ∧ oc t = oc s ∧ v = .int .i64 t) (fun v => (intOf v).toNat)
  case atStart => exact ⟨s, Nat.le_refl _, rfl, rfl⟩
  case round =>
    obtain ⟨t, ht, ho, rfl⟩ := hrel
    have HO := Lib.hid ho
    clear ho
    by_cases h : 65535 < t
    · have d : (65535 : Int) < (t : Int) := by omega
      have d2 : decide ((65535 : Int) < (t : Int)) = true := by simpa using d
      have e1 := and_mask16 (t : Int)
      go_wp2
      go_round
      case rel => exact ⟨t / 65536 + t % 65536, by omega, by rw [oc_fold h]; exact HO.out, by go_num⟩
      case measure => simp [intOf]; omega
    · have d : ¬ (65535 : Int) < (t : Int) := by omega
      have d2 : decide ((65535 : Int) < (t : Int)) = false := by simpa using d
      go_wp2
      go_ret
      exact ⟨ret_int (by rw [← HO.out, oc_small (by omega)]), rfl⟩
theorem inPair_any (n : Int) (w : World) :
    Calls Tryz.prog 111 #[.int .i64 n] w fun e w' => e = .returned (.bool (decide (0 ≤ n ∧ n ≤ 65535))) ∧ w = w' := by
  by_cases h0 : 0 ≤ n
  · by_cases h1 : n ≤ 65535
    · have d1 : decide (0 ≤ n) = true := by simpa using h0
      have d2 : decide (n ≤ 65535) = true := by simpa using h1
      have H := Lib.hid (show decide (0 ≤ n ∧ n ≤ 65535) = true from by simp; omega)
      go_enter Tryz.func111, Tryz.ntmps111
      go_wp2
      go_ret
      first | exact ⟨ret_bool H.out.symm, rfl⟩ | exact ⟨rfl, rfl⟩
    · have d1 : decide (0 ≤ n) = true := by simpa using h0
      have d2 : decide (n ≤ 65535) = false := by simpa using h1
      have H := Lib.hid (show decide (0 ≤ n ∧ n ≤ 65535) = false from by simp; omega)
      go_enter Tryz.func111, Tryz.ntmps111
      go_wp2
      go_ret
      first | exact ⟨ret_bool H.out.symm, rfl⟩ | exact ⟨rfl, rfl⟩
  · have d1 : decide (0 ≤ n) = false := by simpa using h0
    have H := Lib.hid (show decide (0 ≤ n ∧ n ≤ 65535) = false from by simp; omega)
    go_enter Tryz.func111, Tryz.ntmps111
    go_wp2
    go_ret
    first | exact ⟨ret_bool H.out.symm, rfl⟩ | exact ⟨rfl, rfl⟩
theorem inPair_yes (n : Int) (w : World) (h : 0 ≤ n ∧ n ≤ 65535) :
    Calls Tryz.prog 111 #[.int .i64 n] w fun e w' => e = .returned (.bool true) ∧ w = w' := by
  rw [← show decide (0 ≤ n ∧ n ≤ 65535) = true from by simpa using h]; exact inPair_any n w
theorem inPair_no (n : Int) (w : World) (h : ¬ (0 ≤ n ∧ n ≤ 65535)) :
    Calls Tryz.prog 111 #[.int .i64 n] w fun e w' => e = .returned (.bool false) ∧ w = w' := by
  rw [← show decide (0 ≤ n ∧ n ≤ 65535) = false from by simpa using h]; exact inPair_any n w
/-- what Add answers -/
def adR (x y : Int) : Int := if (0 ≤ x ∧ x ≤ 65535) ∧ 0 ≤ y ∧ y ≤ 65535 then (oc (x + y).toNat : Nat) else 0
theorem adR_yes {x y : Int} (hx : 0 ≤ x ∧ x ≤ 65535) (hy : 0 ≤ y ∧ y ≤ 65535) : adR x y = (oc (x + y).toNat : Nat) := if_pos ⟨hx, hy⟩
theorem adR_nox {x y : Int} (hx : ¬ (0 ≤ x ∧ x ≤ 65535)) : adR x y = 0 := if_neg fun h => hx h.1
theorem adR_noy {x y : Int} (hy : ¬ (0 ≤ y ∧ y ≤ 65535)) : adR x y = 0 := if_neg fun h => hy h.2
theorem adR_nat {x y : Nat} (hx : x ≤ 65535) (hy : y ≤ 65535) : adR x y = (oc (x + y) : Nat) := by
  rw [adR_yes (by omega) (by omega)]; congr 2
theorem wadd_any (x y : Int) (w : World) :
    Calls Tryz.prog 110 #[.int .i64 x, .int .i64 y] w fun e w' => e = .returned (.int .i64 (adR x y)) ∧ w = w' := by
  by_cases hx : 0 ≤ x ∧ x ≤ 65535
  · by_cases hy : 0 ≤ y ∧ y ≤ 65535
    · have H := Lib.hid (adR_yes hx hy)
      have HX := Lib.hid hx
      have HY := Lib.hid hy
      obtain ⟨x, rfl⟩ := Int.eq_ofNat_of_zero_le hx.1
      obtain ⟨y, rfl⟩ := Int.eq_ofNat_of_zero_le hy.1
      have hxx := hx.2
      have hyy := hy.2
      clear hx hy
      have HF := Lib.hid (fun w => wfold_any (x + y) w (by omega))
      go_enter Tryz.func110, Tryz.ntmps110
      go_wp2_with (first | (go_at_call 111; refine (inPair_yes _ _ (by omega)).mono ?_; rintro e w1 ⟨rfl, rfl⟩) | (go_at_call 102; refine (HF.out _).mono ?_; rintro e w1 ⟨rfl, rfl⟩))
      go_ret
      exact ⟨ret_int (by rw [H.out]; congr 2), rfl⟩
    · have H := Lib.hid (adR_noy (x := x) hy)
      have HX := Lib.hid hx
      have HY := Lib.hid hy
      clear hx hy
      go_enter Tryz.func110, Tryz.ntmps110
      go_wp2_with fail
      refine (inPair_yes _ _ HX.out).mono ?_
      rintro e w1 ⟨rfl, rfl⟩
      go_wp2_with fail
      refine (inPair_no _ _ HY.out).mono ?_
      rintro e w1 ⟨rfl, rfl⟩
      go_wp2_with fail
      go_ret
      exact ⟨ret_int H.out.symm, rfl⟩
  · have H := Lib.hid (adR_nox (y := y) hx)
    have HX := Lib.hid hx
    clear hx
    go_enter Tryz.func110, Tryz.ntmps110
    go_wp2_with fail
    refine (inPair_no _ _ HX.out).mono ?_
    rintro e w1 ⟨rfl, rfl⟩
    go_wp2_with fail
    go_ret
    exact ⟨ret_int H.out.symm, rfl⟩
/-- what Update answers -/
def upR (s o n : Int) : Int := if (0 ≤ s ∧ s ≤ 65535) ∧ (0 ≤ o ∧ o ≤ 65535) ∧ 0 ≤ n ∧ n ≤ 65535 then 65535 - (oc (65535 - s + 65535 - o + n).toNat : Nat) else 0
theorem upR_yes {s o n : Int} (hs : 0 ≤ s ∧ s ≤ 65535) (ho : 0 ≤ o ∧ o ≤ 65535) (hn : 0 ≤ n ∧ n ≤ 65535) : upR s o n = 65535 - (oc (65535 - s + 65535 - o + n).toNat : Nat) := if_pos ⟨hs, ho, hn⟩
theorem upR_nos {s o n : Int} (h : ¬ (0 ≤ s ∧ s ≤ 65535)) : upR s o n = 0 := if_neg fun k => h k.1
theorem upR_noo {s o n : Int} (h : ¬ (0 ≤ o ∧ o ≤ 65535)) : upR s o n = 0 := if_neg fun k => h k.2.1
theorem upR_non {s o n : Int} (h : ¬ (0 ≤ n ∧ n ≤ 65535)) : upR s o n = 0 := if_neg fun k => h k.2.2
theorem wsum_any {p : Nat → Prop} {v : Value} {l : List Nat} (w : World) (h : Rb p w v l) (hl : l.length ≤ 100000) :
    Calls Tryz.prog 89 #[v] w fun e w' => e = .returned (.int .i64 (oc (wsum false l) : Nat)) ∧ w = w' := by
  have hb := h.bytes
  obtain ⟨a, cap, rfl, hcap, hmx⟩ := h.form
  have H := Lib.hid h
  have HL := Lib.hid (wsum_le false l hb)
  have HB := Lib.hid (fun i => getD_lt hb i)
  have HF := Lib.hid (fun w => wfold_any (wsum false l) w (by have := wsum_le false l hb; omega))
  clear h hb
  go_enter Tryz.func89, Tryz.ntmps89
  go_wp2
  go_loop [3, 8] (fun s i => ∃ k : Nat, k ≤ l.length ∧ i = .int .i64 k ∧ s = .int .i64 (wsum false (l.take k) : Nat)) (fun _ i => l.length - (intOf i).toNat)
  case atStart => exact ⟨0, Nat.zero_le _, rfl, rfl⟩
  case round =>
    obtain ⟨k, hk, rfl, rfl⟩ := hrel
    by_cases hlt : k < l.length
    · obtain ⟨b, off, rfl, -, hc⟩ := H.out.at' hlt
      have hx := HB.out k
      have hbd : wsum false (l.take k) ≤ 65280 * 100000 := by
        have := wsum_le false (l.take k) (fun x hm => H.out.bytes x (List.mem_of_mem_take hm))
        have : (l.take k).length ≤ l.length := List.length_take_le' _ _
        omega
      have d1 : (k : Int) < (l.length : Int) := by omega
      rcases Nat.mod_two_eq_zero_or_one k with he | he
      · have HS := Lib.hid (wsum_take_even hlt he)
        have d2 : (((k : Int) % 2) == 0) = true := by simp; omega
        generalize l.getD k 0 = x at *
        generalize wsum false (l.take k) = S at *
        have HE := Lib.hid he
        clear he
        go_wp2
        go_round
        case rel => exact ⟨k + 1, by omega, by go_num, by rw [HS.out]; go_num⟩
        case measure => simp [intOf]; omega
      · have HS := Lib.hid (wsum_take_odd hlt he)
        have d2 : (((k : Int) % 2) == 0) = false := by simp; omega
        generalize l.getD k 0 = x at *
        generalize wsum false (l.take k) = S at *
        have HE := Lib.hid he
        clear he
        go_wp2
        go_round
        case rel => exact ⟨k + 1, by omega, by go_num, by rw [HS.out]; go_num⟩
        case measure => simp [intOf]; omega
    · obtain rfl : k = l.length := by omega
      rw [List.take_length]
      go_wp2_with (go_at_call 102; refine (HF.out _).mono ?_; rintro e w1 ⟨rfl, rfl⟩)
      go_ret
      exact ⟨rfl, rfl⟩
theorem wchk_any {p : Nat → Prop} {v : Value} {l : List Nat} (w : World) (h : Rb p w v l) (hl : l.length ≤ 100000) :
    Calls Tryz.prog 59 #[v] w fun e w' => e = .returned (.int .i64 (65535 - (oc (wsum false l) : Nat))) ∧ w = w' := by
  have HF := Lib.hid (wsum_any w h hl)
  have hR := oc_le (wsum false l)
  obtain ⟨a, cap, rfl, -, -⟩ := h.form
  clear h
  generalize oc (wsum false l) = R at *
  go_enter Tryz.func59, Tryz.ntmps59
  go_wp2_with (go_at_call 89; refine HF.out.mono ?_; rintro e w1 ⟨rfl, rfl⟩)
  go_ret
  exact ⟨rfl, rfl⟩
end Go.Proofs.YtkpejaiigopmgaaGreatDoor
/- The package wire: Get. -/
namespace Go.Proofs.YtkpejaiigopmgaaGreatDoor
open Go Go.RowKit Go.Sort
set_option maxRecDepth 100000
set_option linter.unusedVariables false
theorem or_low (n x : Nat) (hn : n < 36028797018963968) (hx : x < 256) : bits .or .i64 ((n : Int) * 256) (x : Int) = ((n * 256 + x : Nat) : Int) := by
  have e1 : (BitVec.ofInt 64 ((n : Int) * 256)).toNat = n * 256 := by rw [BitVec.toNat_ofInt]; omega
  have e2 : (BitVec.ofInt 64 (x : Int)).toNat = x := by rw [BitVec.toNat_ofInt]; omega
  have e3 : n * 256 ||| x = n * 256 + x := by
    have := Nat.shiftLeft_add_eq_or_of_lt (a := n) (b := x) (i := 8) (by omega)
    rw [Nat.shiftLeft_eq] at this
    exact this.symm
  show IntKind.i64.wrap ((BitVec.ofInt 64 ((n : Int) * 256) ||| BitVec.ofInt 64 (x : Int)).toNat : Nat) = _
  rw [BitVec.toNat_or, e1, e2, e3, IntWalk.i64_in _ (by omega)]
def wOk (k : Int) : Prop := 1 ≤ k ∧ k ≤ 7
theorem vw_any (k : Int) (w : World) (c : Bool) (hc : c = decide (1 ≤ k ∧ k ≤ 7)) :
    Calls Tryz.prog 100 #[.int .i64 k] w fun e w' => e = .returned (.bool c) ∧ w = w' := by
  have HC := Lib.hid hc
  clear hc
  by_cases h0 : 1 ≤ k
  · have d1 : decide (1 ≤ k) = true := by simpa using h0
    by_cases h1 : k ≤ 7
    · have d2 : decide (k ≤ 7) = true := by simpa using h1
      have H := Lib.hid (show c = true from HC.out.trans (by simp; omega))
      go_enter Tryz.func100, Tryz.ntmps100
      go_wp2
      go_ret
      first | exact ⟨ret_bool H.out.symm, rfl⟩ | (rw [H.out]; exact ⟨rfl, rfl⟩)
    · have d2 : decide (k ≤ 7) = false := by simpa using h1
      have H := Lib.hid (show c = false from HC.out.trans (by simp; omega))
      go_enter Tryz.func100, Tryz.ntmps100
      go_wp2
      go_ret
      first | exact ⟨ret_bool H.out.symm, rfl⟩ | (rw [H.out]; exact ⟨rfl, rfl⟩)
  · have d1 : decide (1 ≤ k) = false := by simpa using h0
    have H := Lib.hid (show c = false from HC.out.trans (by simp; omega))
    go_enter Tryz.func100, Tryz.ntmps100
    go_wp2
    go_ret
    first | exact ⟨ret_bool H.out.symm, rfl⟩ | (rw [H.out]; exact ⟨rfl, rfl⟩)
theorem vw_yes (k : Int) (w : World) (h : 1 ≤ k ∧ k ≤ 7) :
    Calls Tryz.prog 100 #[.int .i64 k] w fun e w' => e = .returned (.bool true) ∧ w = w' := vw_any k w true (by simpa using h)
theorem vw_no (k : Int) (w : World) (h : ¬ (1 ≤ k ∧ k ≤ 7)) :
    Calls Tryz.prog 100 #[.int .i64 k] w fun e w' => e = .returned (.bool false) ∧ w = w' := vw_any k w false (by simpa using h)
/-- what Get answers -/
def gtN (l : List Nat) (i k : Int) : Int := if (1 ≤ k ∧ k ≤ 7) ∧ 0 ≤ i ∧ i + k ≤ l.length then (bnum ((l.drop i.toNat).take k.toNat) : Nat) else 0
def gtE (l : List Nat) (i k : Int) : Int := if (1 ≤ k ∧ k ≤ 7) ∧ 0 ≤ i then (if i + k ≤ l.length then 0 else 3) else 1
theorem get_yes {p : Nat → Prop} {v : Value} {l : List Nat} (i k : Nat) (w : World) (h : Rb p w v l) (hk0 : 1 ≤ k) (hk1 : k ≤ 7) (hik : i + k ≤ l.length) :
    Calls Tryz.prog 82 #[v, .int .i64 i, .int .i64 k] w fun e w' => e = .returned (.tuple #[.int .i64 (bnum ((l.drop i).take k) : Nat), .int .i64 0]) ∧ w = w' := by
  have hb := h.bytes
  obtain ⟨a, cap, rfl, hcap, hmx⟩ := h.form
  obtain ⟨b, off, rfl, -, -⟩ := h.at' (i := i) (by omega)
  have HP := Lib.hid (h.part (k := i) (m := k) hik)
  have hlen : ((l.drop i).take k).length = k := by simp; omega
  have HB := Lib.hid (HP.out.bytes)
  have HV := Lib.hid (fun w => vw_yes (k : Int) w (by omega))
  clear h hb
  generalize (l.drop i).take k = m at *
  have HM := Lib.hid hlen
  clear hlen
  have d1 : decide ((i : Int) < 0) = false := by simp
  have d2 : decide ((l.length : Int) - (k : Int) < (i : Int)) = false := by simp; omega
  have u1 : ¬ cap = i := by omega
  have u2 : (i : Int) + (k : Int) ≤ (cap : Int) := by omega
  have u3 : (i : Int) + (k : Int) ≤ 9223372036854775807 := by omega
  have u4 : (l.length : Int) ≤ 9223372036854775807 := by omega
  go_enter Tryz.func82, Tryz.ntmps82
  go_wp2_with (go_at_call 100; refine (HV.out _).mono ?_; rintro e w1 ⟨rfl, rfl⟩)
  go_loop [8, 31] (fun n j => ∃ t : Nat, t ≤ k ∧ j = .int .i64 t ∧ n = .int .i64 (bnum (m.take t) : Nat)) (fun _ j => k - (intOf j).toNat)
  case atStart => exact ⟨0, Nat.zero_le _, rfl, rfl⟩
  case round =>
    obtain ⟨t, ht, rfl, rfl⟩ := hrel
    by_cases hlt : t < k
    · obtain ⟨b', off', eb, -, hc⟩ := HP.out.at' (i := t) (by rw [HM.out]; exact hlt)
      cases eb
      have hx := getD_lt HB.out t
      have HS := Lib.hid (bnum_take (l := m) (k := t) (by rw [HM.out]; exact hlt))
      have hN : bnum (m.take t) < 281474976710656 := by
        have h1 := bnum_lt HB.out t
        have h2 : 256 ^ t ≤ 256 ^ 6 := Nat.pow_le_pow_right (by omega) (by omega)
        omega
      have e1 := or_low (bnum (m.take t)) (m.getD t 0) (by omega) hx
      have d3 : (t : Int) < (k : Int) := by omega
      have u5 : t < i + k - i := by omega
      generalize m.getD t 0 = x at *
      generalize bnum (m.take t) = N at *
      go_wp2
      go_round
      case rel => exact ⟨t + 1, by omega, by go_num, by rw [HS.out]; go_num⟩
      case measure => simp [intOf]; omega
    · obtain rfl : t = k := by omega
      have e : m.take t = m := List.take_of_length_le (by rw [HM.out]; exact Nat.le_refl _)
      rw [e]
      go_wp2
      exact bodyPost_ret (v := .tuple #[.int .i64 (bnum m : Nat), .int .i64 0]) (by simp [results, Tryz.results82, go_sem]) rfl ⟨rfl, rfl⟩
theorem get_range {p : Nat → Prop} {v : Value} {l : List Nat} (i k : Int) (w : World) (h : Rb p w v l) (hr : ¬ ((1 ≤ k ∧ k ≤ 7) ∧ 0 ≤ i)) :
    Calls Tryz.prog 82 #[v, .int .i64 i, .int .i64 k] w fun e w' => e = .returned (.tuple #[.int .i64 0, .int .i64 1]) ∧ w = w' := by
  obtain ⟨a, cap, rfl, hcap, hmx⟩ := h.form
  clear h
  have u4 : (l.length : Int) ≤ 9223372036854775807 := by omega
  by_cases hk : 1 ≤ k ∧ k ≤ 7
  · have hi : i < 0 := by omega
    have d1 : decide (i < 0) = true := by simpa using hi
    have HV := Lib.hid (fun w => vw_yes k w hk)
    clear hr hk
    go_enter Tryz.func82, Tryz.ntmps82
    go_wp2_with (go_at_call 100; refine (HV.out _).mono ?_; rintro e w1 ⟨rfl, rfl⟩)
    go_ret2
    exact ⟨rfl, rfl⟩
  · have HV := Lib.hid (fun w => vw_no k w hk)
    clear hr hk
    go_enter Tryz.func82, Tryz.ntmps82
    go_wp2_with (go_at_call 100; refine (HV.out _).mono ?_; rintro e w1 ⟨rfl, rfl⟩)
    go_ret2
    exact ⟨rfl, rfl⟩
theorem get_short {p : Nat → Prop} {v : Value} {l : List Nat} (i k : Int) (w : World) (h : Rb p w v l) (hk : 1 ≤ k ∧ k ≤ 7) (hi : 0 ≤ i) (hs : ¬ i + k ≤ l.length) :
    Calls Tryz.prog 82 #[v, .int .i64 i, .int .i64 k] w fun e w' => e = .returned (.tuple #[.int .i64 0, .int .i64 3]) ∧ w = w' := by
  obtain ⟨a, cap, rfl, hcap, hmx⟩ := h.form
  clear h
  have u4 : (l.length : Int) ≤ 9223372036854775807 := by omega
  have HV := Lib.hid (fun w => vw_yes k w hk)
  have k0 := hk.1
  have k1 := hk.2
  have d1 : decide (i < 0) = false := by simp; omega
  have d2 : decide ((l.length : Int) - k < i) = true := by simp; omega
  clear hk
  go_enter Tryz.func82, Tryz.ntmps82
  go_wp2_with (go_at_call 100; refine (HV.out _).mono ?_; rintro e w1 ⟨rfl, rfl⟩)
  go_ret2
  exact ⟨rfl, rfl⟩
theorem get_any {p : Nat → Prop} {v : Value} {l : List Nat} (i k : Int) (w : World) (h : Rb p w v l) :
    Calls Tryz.prog 82 #[v, .int .i64 i, .int .i64 k] w fun e w' => e = .returned (.tuple #[.int .i64 (gtN l i k), .int .i64 (gtE l i k)]) ∧ w = w' := by
  by_cases hr : (1 ≤ k ∧ k ≤ 7) ∧ 0 ≤ i
  · by_cases hs : i + k ≤ l.length
    · obtain ⟨i, rfl⟩ := Int.eq_ofNat_of_zero_le hr.2
      obtain ⟨k, rfl⟩ := Int.eq_ofNat_of_zero_le (show 0 ≤ k by omega)
      have h1 : gtN l (i : Int) (k : Int) = (bnum ((l.drop i).take k) : Nat) := if_pos ⟨hr.1, hr.2, hs⟩
      have h2 : gtE l (i : Int) (k : Int) = 0 := (if_pos hr).trans (if_pos hs)
      rw [h1, h2]
      exact get_yes i k w h (by omega) (by omega) (by omega)
    · have h1 : gtN l i k = 0 := if_neg fun c => hs c.2.2
      have h2 : gtE l i k = 3 := (if_pos hr).trans (if_neg hs)
      rw [h1, h2]
      exact get_short i k w h hr.1 hr.2 hs
  · have h1 : gtN l i k = 0 := if_neg fun c => hr ⟨c.1, c.2.1⟩
    have h2 : gtE l i k = 1 := if_neg hr
    rw [h1, h2]
    exact get_range i k w h hr
end Go.Proofs.YtkpejaiigopmgaaGreatDoor
/- Put: the package's and the document's. -/
namespace Go.Proofs.YtkpejaiigopmgaaGreatDoor
open Go Go.RowKit Go.Sort
set_option maxRecDepth 100000
set_option linter.unusedVariables false
theorem pow_256 (k : Nat) : (2 : Int) ^ (8 * k) = ((256 ^ k : Nat) : Int) := by
  rw [Int.natCast_pow, Int.pow_mul]; rfl
theorem pow_256_le {k : Nat} (h : k ≤ 7) : 256 ^ k ≤ 72057594037927936 := by
  have : 256 ^ k ≤ 256 ^ 7 := Nat.pow_le_pow_right (by omega) h
  omega
theorem shl_one (k : Nat) (hk : k ≤ 7) (w : World) : (Op.shift .shl .i64 1 .i64 (8 * (k : Int))).run Tryz.prog w = .ok (.int .i64 (256 ^ k : Nat)) w := by
  unfold Op.shift
  rw [if_neg (by omega), show IntKind.i64.bits = 64 from rfl, show min (8 * (k : Int)).toNat 64 = 8 * k by omega]
  show Result.ok _ _ = _
  have := pow_256_le hk
  rw [pow_256, Int.one_mul]
  generalize 256 ^ k = P at *
  rw [IntWalk.i64_in _ (by omega)]
theorem shr_byte (n i : Nat) (hi : i ≤ 7) (w : World) : (Op.shift .shr .i64 (n : Int) .i64 (8 * (i : Int))).run Tryz.prog w = .ok (.int .i64 (n / 256 ^ i : Nat)) w := by
  unfold Op.shift
  rw [if_neg (by omega), show IntKind.i64.bits = 64 from rfl, show min (8 * (i : Int)).toNat 64 = 8 * i by omega]
  show Result.ok _ _ = _
  rw [pow_256, Int.fdiv_eq_ediv_of_nonneg _ (Int.natCast_nonneg _), ← Int.natCast_ediv]
theorem wrap_pow {k : Nat} (hk : k ≤ 7) : wrap64 ((2 : Int) ^ (8 * k)) = ((256 ^ k : Nat) : Int) := by
  have := pow_256_le hk
  rw [pow_256]
  generalize 256 ^ k = P at *
  unfold wrap64; omega
theorem wrap_byte (x : Nat) : IntKind.u8.wrap (x : Int) = ((x % 256 : Nat) : Int) := by rw [IntKind.wrap_u8]; omega
theorem ext_getD {l m : List Nat} (h : l.length = m.length) (H : ∀ i, i < l.length → l.getD i 0 = m.getD i 0) : l = m := by
  apply List.ext_getElem h
  intro i h1 h2
  have := H i h1
  rw [List.getD_eq_getElem?_getD, List.getD_eq_getElem?_getD, List.getElem?_eq_getElem h1, List.getElem?_eq_getElem h2] at this
  exact this
theorem getD_set (l : List Nat) (a b x : Nat) : (l.set a x).getD b 0 = if a = b ∧ b < l.length then x else l.getD b 0 := by
  rw [List.getD_eq_getElem?_getD, List.getD_eq_getElem?_getD]
  by_cases h : a = b
  · subst h
    by_cases hl : a < l.length
    · rw [List.getElem?_set_self hl, if_pos ⟨rfl, hl⟩]; rfl
    · rw [if_neg (fun c => hl c.2), List.getElem?_eq_none (by rw [List.length_set]; omega), List.getElem?_eq_none (by omega)]
  · rw [List.getElem?_set_ne h, if_neg (fun c => h c.1)]
/-- what Put answers: the bytes, or ErrRange -/
def PtPost (w : World) (l : List Nat) (n k : Int) (e : Ending) (w' : World) : Prop :=
  ∃ (v : Value) (er : Int), e = .returned (.tuple #[v, .int .i64 er]) ∧ ((((1 ≤ k ∧ k ≤ 7) ∧ 0 ≤ n ∧ n < (256 ^ k.toNat : Nat)) ∧ er = 0 ∧ Rb (fun _ => True) w' v (l ++ bput n.toNat k.toNat)) ∨ (¬ ((1 ≤ k ∧ k ≤ 7) ∧ 0 ≤ n ∧ n < (256 ^ k.toNat : Nat)) ∧ er = 1 ∧ v = .slice none 0 0)) ∧ Gr w w'
/-- a block of bytes that is known whole, as a row of the call's own -/
theorem owb_block {w : World} {base g : Nat} {L : List Nat} (h : w.heap[g]? = some (.cells (cellsB L).toArray 5 (0, 0))) (hb : base ≤ g) (hL : L.length ≤ 1000000) (hx : ∀ x ∈ L, x < 256) : OwB base w (.slice (some ⟨g, 0, none⟩) L.length L.length) L :=
  ⟨⟨by rw [cellsB_len]; omega, .inr ⟨g, L.length, (cellsB L).toArray, rfl, hb, h, Nat.le_refl _, by unfold maxLen; omega, by simp [cellsB_len], by rw [List.take_of_length_le]; rw [cellsB_len]; omega⟩⟩, hx⟩
theorem block_of_own {w : World} {base g n : Nat} {xs : List Value} (h : w.ownsRow base 5 1 (.slice (some ⟨g, 0, none⟩) n n) n xs) : w.heap[g]? = some (.cells xs.toArray 5 (0, 0)) := by
  rcases h.2 with ⟨h', _⟩ | ⟨g', cap, cur, h', _, hh, _, _, hsz, htake⟩
  · cases h'
  · cases h'
    rw [hh]
    have e : cur.toList = xs := by rw [← htake, List.take_of_length_le]; rw [Array.length_toList]; omega
    rw [← e]
theorem made_zero {w w1 : World} {m : Nat} (h : w1.ownsRow w.heap.size 5 1 (.slice (some ⟨w.heap.size, 0, none⟩) m m) m (madeCells (Value.int .u8 0).cells (m * 1)).toList) : w1.heap[w.heap.size]? = some (.cells (cellsB (List.replicate m 0)).toArray 5 (0, 0)) := by
  rw [block_of_own h]
  congr 3
  rw [Nat.mul_one, show (Value.int .u8 0).cells = #[Value.int .u8 0] from rfl, toList_madeCells_one, cellsB, List.map_replicate]
  rfl
theorem sizeB : (Tryz.prog.info? 5).map (·.size) = some 1 := by kernel_rfl
theorem src_cells {p : Nat → Prop} {w w1 : World} {a : Option Addr} {l : List Nat} (H : ∀ i, i < l.length → ∃ b off : Nat, a = some ⟨b, off, none⟩ ∧ p b ∧ w.cell? ⟨b, off + i, none⟩ = some (.int .u8 (l.getD i 0 : Nat))) (g : Gr w w1) (h0 : 0 < l.length) :
    ∃ ad, a = some ad ∧ ∀ j v, (cellsB l)[j]? = some v → w1.cell? (ad.add j) = some v := by
  obtain ⟨b, off, rfl, -, -⟩ := H 0 h0
  refine ⟨_, rfl, fun j u hj => ?_⟩
  have hjm : j < l.length := by
    rcases Nat.lt_or_ge j l.length with h | h
    · exact h
    · rw [List.getElem?_eq_none (by rw [cellsB_len]; exact h)] at hj; cases hj
  rw [cellsB_at l hjm] at hj
  obtain rfl := Option.some.inj hj
  obtain ⟨b', off', e, _, hcell⟩ := H j hjm
  cases e
  rw [show (⟨b, off, none⟩ : Addr).add j = ⟨b, off + j, none⟩ by unfold Addr.add; split <;> simp_all]
  rw [(Gr.cells g).1 _ _ (World.block_lt_of_cell? _ _ hcell)]; exact hcell
theorem splice_zero (l : List Nat) (m k : Nat) (hm : m = l.length + k) : splice (cellsB (List.replicate m 0)) 0 (cellsB l) = cellsB (l ++ List.replicate k 0) := by
  subst hm
  unfold splice
  rw [List.take_zero, List.nil_append, cellsB_len, Nat.zero_add, cellsB_append]
  congr 1
  simp [cellsB]
theorem OwB.set {base g n cap : Nat} {w : World} {L : List Nat} (h : OwB base w (.slice (some ⟨g, 0, none⟩) n cap) L) (hn : L.length = n) (i x : Nat) (hx : x < 256) : OwB base (w.setCell ⟨g, i, none⟩ (.int .u8 (x : Int))) (.slice (some ⟨g, 0, none⟩) n cap) (L.set i x) := by
  subst hn
  refine ⟨?_, ?_⟩
  · rw [List.length_set, ← cellsB_set L i x _ rfl]
    exact (h.1.stored i _).1
  · intro y hy
    rcases List.mem_or_eq_of_mem_set hy with hy | rfl
    · exact h.2 y hy
    · exact hx
theorem OwB.cell {base g n cap : Nat} {w : World} {L : List Nat} (h : OwB base w (.slice (some ⟨g, 0, none⟩) n cap) L) (hn : L.length = n) {i : Nat} (hi : i < n) : w.cell? ⟨g, i, none⟩ = some (.int .u8 (L.getD i 0 : Nat)) ∧ w.frozen? ⟨g, i, none⟩ = false := by
  subst hn
  exact ⟨by rw [h.1.cellAt i (by omega), cellsB_at L hi], h.1.frozenAt i⟩
set_option maxHeartbeats 2000000 in
theorem put_own {p : Nat → Prop} {v : Value} {l : List Nat} (n k : Nat) (w : World) (h : Rb p w v l) (hl : l.length ≤ 100000) (hk0 : 1 ≤ k) (hk1 : k ≤ 7) (hn : n < 256 ^ k) :
    Calls Tryz.prog 87 #[v, .int .i64 n, .int .i64 k] w fun e w' => ∃ v', e = .returned (.tuple #[v', .int .i64 0]) ∧ OwB w.heap.size w' v' (l ++ bput n k) ∧ Gr w w' := by
  have h0 := h
  obtain ⟨a, cap, rfl, hcap, hmx, hnil, hbx, hcells⟩ := h
  have HC := Lib.hid hcells
  have HBX := Lib.hid hbx
  have HV := Lib.hid (fun w => vw_yes (k : Int) w (by omega))
  have hp7 := pow_256_le hk1
  have hsh := wrap_pow hk1
  have d1 : decide ((n : Int) < 0) = false := by simp
  have d2 : decide (((256 ^ k : Nat) : Int) ≤ (n : Int)) = false := by simp; exact_mod_cast hn
  have d3 : decide (256 ^ k ≤ n) = false := by simp; exact hn
  obtain ⟨m, hm⟩ : ∃ m, m = l.length + k := ⟨_, rfl⟩
  have e0 : (l.length : Int) + (k : Int) = (m : Int) := by omega
  have hm1 : m ≤ 100007 := by omega
  have hlm : l.length ≤ m := by omega
  have HM := Lib.hid hm
  have HN := Lib.hid hn
  obtain ⟨ti, hi1, hi2, hi3, hi4⟩ := byteInfoB
  clear h0 hcells hbx hnil hm hn
  generalize 256 ^ k = P at *
  go_enter Tryz.func87, Tryz.ntmps87
  go_wp2_with (first
    | (go_at_call 100; refine (HV.out _).mono ?_; rintro e w1 ⟨rfl, rfl⟩)
    | (refine wpList_make_full _ rfl _ _ 22 rfl w.heap.size 5 ti (.int .u8 0) 1 Tryz.underlying22 hi1 hi2 hi3 .i64 .i64 _ _ m rfl rfl (by simp) (by simp) (by rw [hi4]; omega) (by unfold maxLen; omega) (Nat.le_refl _) ?_; intro w1 hown1 hgrow1; have hblk := made_zero hown1; have hG1 : Gr w w1 := Gr.grownNew (Gr.refl _) hgrow1 (fun _ h => by cases h); clear hown1 hgrow1)
    | (refine wpList_copy_splice rfl (.tmp 29) (.tmp 30) 22 22 rfl 5 Tryz.underlying22 sizeB (some ⟨w.heap.size, 0, none⟩) a m m l.length cap rfl rfl w.heap.size 0 (cellsB (List.replicate m 0)) 5 hblk (cellsB l) (by rw [cellsB_len]; exact (Nat.min_eq_left hlm).symm) (fun h0 => ⟨rfl, src_cells (HC.out) hG1 (by rw [cellsB_len] at h0; exact h0)⟩) (by rw [cellsB_len, cellsB_len, List.length_replicate]; omega) (cellsB_one l) w.heap.size w hG1 (Nat.le_refl _) ?_; intro w2 hblk2 hG2))
  have HS := Lib.hid (splice_zero l m k HM.out)
  have hL0 : (l ++ List.replicate k 0).length = m := by rw [List.length_append, List.length_replicate]; exact HM.out.symm
  have hblk3 := hblk2.out
  rw [HS.out] at hblk3
  have O0 := Lib.hid (owb_block (L := l ++ List.replicate k 0) hblk3 (Nat.le_refl w.heap.size) (by omega) (fun x hx => (List.mem_append.1 hx).elim (HBX.out x) (fun h => by have := List.eq_of_mem_replicate h; omega)))
  have HG2 := Lib.hid (show Gr w w2 from hG2)
  clear hblk hblk2 hblk3 HS hG1 hG2 hi1 hi2 hi3 hi4 hsh d1 d2 d3
  go_loopw [9, 33] (fun _ i wr => ∃ (t : Nat) (L : List Nat), t ≤ k ∧ i = .int .i64 t ∧ OwB w.heap.size wr (.slice (some ⟨w.heap.size, 0, none⟩) m m) L ∧ L.length = m ∧ (∀ j, j < l.length → L.getD j 0 = l.getD j 0) ∧ (∀ j, j < t → L.getD (m - 1 - j) 0 = n / 256 ^ j % 256) ∧ Gr w wr) (fun _ i _ => k - (intOf i).toNat)
  case atStart =>
    refine ⟨0, l ++ List.replicate k 0, Nat.zero_le _, rfl, ?_, hL0, ?_, fun j hj => by omega, HG2.out⟩
    · have := O0.out
      rw [hL0] at this
      exact this
    · intro j hj
      rw [List.getD_eq_getElem?_getD, List.getElem?_append_left hj, ← List.getD_eq_getElem?_getD]
  case round =>
    obtain ⟨t, L, ht, rfl, hO, hLl, hA, hB, hgr⟩ := hrel
    have HO := Lib.hid hO
    have HL := Lib.hid hLl
    have HA := Lib.hid hA
    have HB := Lib.hid hB
    by_cases hlt : t < k
    · have d4 : (t : Int) < (k : Int) := by omega
      have hI : m - 1 - t < m := by have := HM.out; omega
      obtain ⟨hcl, hfr⟩ := hO.cell hLl hI
      clear hO hLl hA hB
      have e3 : (m : Int) - 1 - (t : Int) = ((m - 1 - t : Nat) : Int) := by have := HM.out; omega
      have e5 : (n : Int) / 2 ^ (8 * t) = ((n / 256 ^ t : Nat) : Int) := by rw [pow_256, ← Int.natCast_ediv]
      have HI := Lib.hid (show m - 1 - t ≥ l.length ∧ ∀ j, j < t → m - 1 - t ≠ m - 1 - j from ⟨by have := HM.out; omega, fun j hj => by have := HM.out; omega⟩)
      obtain ⟨I, hII⟩ : ∃ I, I = m - 1 - t := ⟨_, rfl⟩
      rw [← hII] at hI hcl hfr e3 HI
      have HII := Lib.hid hII
      obtain ⟨M, hM⟩ : ∃ M, M = n / 256 ^ t := ⟨_, rfl⟩
      rw [← hM] at e5
      have HMM := Lib.hid hM
      have e6 : (M : Int) % 256 = ((M % 256 : Nat) : Int) := by omega
      have e7 := wrap_byte M
      have hB256 : M % 256 < 256 := Nat.mod_lt _ (by omega)
      have HBb := Lib.hid (show M % 256 = n / 256 ^ t % 256 by rw [hM])
      generalize M % 256 = B at *
      clear hII hM
      go_wp2
      go_roundw
      case rel =>
        refine ⟨t + 1, L.set I B, by omega, by go_num, HO.out.set HL.out I B hB256, by rw [List.length_set]; exact HL.out, ?_, ?_, ?_⟩
        · intro j hj
          have := HI.out.1
          rw [getD_set, if_neg (fun c => by omega)]
          exact HA.out j hj
        · intro j hj
          rw [getD_set]
          by_cases hjt : j = t
          · subst hjt
            rw [if_pos ⟨HII.out, by rw [HL.out]; omega⟩]
            exact HBb.out
          · rw [if_neg (fun c => HI.out.2 j (by omega) (by omega))]
            exact HB.out j (by omega)
        · exact Gr.setCell hgr (Nat.le_refl _) _
      case measure => simp [intOf]; omega
    · obtain rfl : t = k := by omega
      have e : L = l ++ bput n t := by
        refine ext_getD (by rw [List.length_append, bput_len]; exact HL.out.trans HM.out) (fun i hi => ?_)
        rw [HL.out] at hi
        by_cases hil : i < l.length
        · rw [List.getD_eq_getElem?_getD (l := l ++ _), List.getElem?_append_left hil, ← List.getD_eq_getElem?_getD]
          exact HA.out i hil
        · have := HM.out
          rw [List.getD_eq_getElem?_getD (l := l ++ _), List.getElem?_append_right (by omega), ← List.getD_eq_getElem?_getD]
          have h1 := HB.out (m - 1 - i) (by omega)
          have h2 := bput_at n t (m - 1 - i) (by omega)
          rw [show m - 1 - (m - 1 - i) = i by omega] at h1
          rw [show t - 1 - (m - 1 - i) = i - l.length by omega] at h2
          rw [h1, h2]
      subst e
      have R := Lib.hid HO.out
      clear hO hLl hA hB
      go_wp2
      exact bodyPost_ret (v := .tuple #[.slice (some ⟨w.heap.size, 0, none⟩) m m, .int .i64 0]) (by simp [results, Tryz.results87, go_sem]) rfl ⟨_, rfl, R.out, hgr⟩
theorem put_yes {p : Nat → Prop} {v : Value} {l : List Nat} (n k : Nat) (w : World) (h : Rb p w v l) (hl : l.length ≤ 100000) (hk0 : 1 ≤ k) (hk1 : k ≤ 7) (hn : n < 256 ^ k) :
    Calls Tryz.prog 87 #[v, .int .i64 n, .int .i64 k] w fun e w' => ∃ v', e = .returned (.tuple #[v', .int .i64 0]) ∧ Rb (fun _ => True) w' v' (l ++ bput n k) ∧ Gr w w' := by
  refine (put_own n k w h hl hk0 hk1 hn).mono ?_
  rintro e w' ⟨v', rfl, ho, hg⟩
  exact ⟨v', rfl, ho.rb.any, hg⟩
theorem put_no (a : Option Addr) (len cap : Nat) (n k : Int) (w : World) (h : ¬ ((1 ≤ k ∧ k ≤ 7) ∧ 0 ≤ n ∧ n < (256 ^ k.toNat : Nat))) :
    Calls Tryz.prog 87 #[.slice a len cap, .int .i64 n, .int .i64 k] w fun e w' => e = .returned (.tuple #[.slice none 0 0, .int .i64 1]) ∧ w = w' := by
  by_cases hk : 1 ≤ k ∧ k ≤ 7
  · have HV := Lib.hid (fun w => vw_yes k w hk)
    by_cases hn : n < 0
    · have d1 : decide (n < 0) = true := by simpa using hn
      clear h hk
      go_enter Tryz.func87, Tryz.ntmps87
      go_wp2_with (go_at_call 100; refine (HV.out _).mono ?_; rintro e w1 ⟨rfl, rfl⟩)
      go_ret2
      exact ⟨rfl, rfl⟩
    · have d1 : decide (n < 0) = false := by simpa using hn
      obtain ⟨n, rfl⟩ := Int.eq_ofNat_of_zero_le (show 0 ≤ n by omega)
      obtain ⟨k, rfl⟩ := Int.eq_ofNat_of_zero_le (show 0 ≤ k by omega)
      have hp7 := pow_256_le (k := k) (by omega)
      have hsh := wrap_pow (k := k) (by omega)
      have hge : 256 ^ k ≤ n := by
        rcases Nat.lt_or_ge n (256 ^ k) with h2 | h2
        · exact absurd ⟨hk, by omega, by simpa using (by exact_mod_cast h2)⟩ h
        · exact h2
      clear h
      generalize 256 ^ k = P at *
      have d2 : decide ((P : Int) ≤ (n : Int)) = true := by rw [decide_eq_true_eq]; omega
      have d3 : decide (P ≤ n) = true := by simpa using hge
      go_enter Tryz.func87, Tryz.ntmps87
      go_wp2_with (go_at_call 100; refine (HV.out _).mono ?_; rintro e w1 ⟨rfl, rfl⟩)
      go_ret2
      exact ⟨rfl, rfl⟩
  · have HV := Lib.hid (fun w => vw_no k w hk)
    clear h hk
    go_enter Tryz.func87, Tryz.ntmps87
    go_wp2_with (go_at_call 100; refine (HV.out _).mono ?_; rintro e w1 ⟨rfl, rfl⟩)
    go_ret2
    exact ⟨rfl, rfl⟩
theorem put_any {p : Nat → Prop} {v : Value} {l : List Nat} (n k : Int) (w : World) (h : Rb p w v l) (hl : l.length ≤ 100000) :
    Calls Tryz.prog 87 #[v, .int .i64 n, .int .i64 k] w (PtPost w l n k) := by
  by_cases hr : (1 ≤ k ∧ k ≤ 7) ∧ 0 ≤ n ∧ n < (256 ^ k.toNat : Nat)
  · obtain ⟨n, rfl⟩ := Int.eq_ofNat_of_zero_le hr.2.1
    obtain ⟨k, rfl⟩ := Int.eq_ofNat_of_zero_le (show 0 ≤ k by omega)
    refine (put_yes n k w h hl (by omega) (by omega) (by have := hr.2.2; rw [Int.toNat_natCast] at this; omega)).mono ?_
    rintro e w' ⟨v', rfl, hv, hg⟩
    exact ⟨v', 0, rfl, .inl ⟨hr, rfl, hv⟩, hg⟩
  · obtain ⟨a, cap, rfl, -, -⟩ := h.form
    refine (put_no a _ cap n k w hr).mono ?_
    rintro e w' ⟨rfl, rfl⟩
    exact ⟨_, 1, rfl, .inr ⟨hr, rfl, rfl⟩, Gr.refl _⟩
end Go.Proofs.YtkpejaiigopmgaaGreatDoor
