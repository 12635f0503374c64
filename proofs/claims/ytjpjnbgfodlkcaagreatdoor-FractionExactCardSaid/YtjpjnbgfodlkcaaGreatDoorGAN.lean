/- Several texts in one. -/
import Derived.Lib.Hide
import Derived.Test.YtjpjnbgfodlkcaaGreatDoorGAA
import Derived.WalkKit
import Derived.WalkSpells
import Derived.WalkLawsBesides
import Derived.WalkSmall
import Derived.Handy
import Derived.BigQuiet
import Derived.Deep.QuietTactic
import Derived.Deep.RegionHeld3
import Derived.Deep.DeepFit
import Derived.Below
import Derived.Lib.QuietBelow
import Derived.Maps.AppendAt
import Derived.Laws.OwnMore
import Derived.Test.YtjpjnbgfodlkcaaGreatDoorGAK
import Derived.Test.YtjpjnbgfodlkcaaGreatDoorGAL
import Derived.Deep.DeepCutAuto
/- One's complement sums as plain numbers. -/
namespace Go.Proofs.YtjpjnbgfodlkcaaGreatDoor
open Go
set_option maxRecDepth 100000
set_option linter.unusedVariables false
/-- the one's complement sum of a plain sum -/
def oc (s : Nat) : Nat := if s = 0 then 0 else (s - 1) % 65535 + 1
theorem oc_le (s : Nat) : oc s ≤ 65535 := by unfold oc; split <;> omega
theorem oc_small {s : Nat} (h : s ≤ 65535) : oc s = s := by unfold oc; split <;> omega
theorem oc_pos {s : Nat} (h : 0 < s) : 0 < oc s := by unfold oc; split <;> omega
theorem oc_mod (s : Nat) : oc s % 65535 = s % 65535 := by unfold oc; split <;> omega
theorem oc_congr {a b : Nat} (ha : 0 < a) (hb : 0 < b) (h : a % 65535 = b % 65535) : oc a = oc b := by
  unfold oc; rw [if_neg (by omega), if_neg (by omega)]; omega
theorem oc_fold {s : Nat} (h : 65535 < s) : oc (s / 65536 + s % 65536) = oc s := oc_congr (by omega) (by omega) (by omega)
theorem fold_lt {s : Nat} (h : 65535 < s) : s / 65536 + s % 65536 < s := by omega
theorem oc_add (a b : Nat) : oc (oc a + b) = oc (a + b) := by
  by_cases h : a = 0
  · subst h; rfl
  · have := oc_pos (s := a) (by omega)
    have := oc_mod a
    exact oc_congr (by omega) (by omega) (by omega)
theorem oc_add' (a b : Nat) : oc (a + oc b) = oc (a + b) := by rw [Nat.add_comm, oc_add, Nat.add_comm]
/-- the sum of bytes, taken in pairs: p says that the first is the less significant of its pair -/
def wsum : Bool → List Nat → Nat
  | _, [] => 0
  | false, x :: t => 256 * x + wsum true t
  | true, x :: t => x + wsum false t
def par (p : Bool) (n : Nat) : Bool := if n % 2 = 0 then p else !p
theorem par_succ (p : Bool) (n : Nat) : par p (n + 1) = par (!p) n := by
  unfold par; rcases Nat.mod_two_eq_zero_or_one n with h | h
  · rw [if_neg (by omega), if_pos h]
  · rw [if_pos (by omega), if_neg (by omega)]; simp
theorem wsum_append (p : Bool) (l m : List Nat) : wsum p (l ++ m) = wsum p l + wsum (par p l.length) m := by
  induction l generalizing p with
  | nil => cases p <;> simp [wsum, par]
  | cons x t ih => cases p <;> simp only [List.cons_append, wsum, ih, List.length_cons, par_succ, Bool.not_true, Bool.not_false] <;> omega
theorem wsum_even {l m : List Nat} (h : l.length % 2 = 0) : wsum false (l ++ m) = wsum false l + wsum false m := by
  rw [wsum_append]; unfold par; rw [if_pos h]
theorem take_add_one (l : List Nat) {i : Nat} (h : i < l.length) : l.take (i + 1) = l.take i ++ [l.getD i 0] := by
  rw [List.take_succ_eq_append_getElem h, List.getD_eq_getElem?_getD, List.getElem?_eq_getElem h]; rfl
theorem wsum_take_even {l : List Nat} {i : Nat} (h : i < l.length) (he : i % 2 = 0) : wsum false (l.take (i + 1)) = wsum false (l.take i) + 256 * l.getD i 0 := by
  rw [take_add_one l h, wsum_even (by rw [List.length_take, Nat.min_eq_left (by omega)]; exact he)]; simp [wsum]
theorem wsum_take_odd {l : List Nat} {i : Nat} (h : i < l.length) (he : i % 2 = 1) : wsum false (l.take (i + 1)) = wsum false (l.take i) + l.getD i 0 := by
  rw [take_add_one l h, wsum_append]; unfold par
  rw [List.length_take, Nat.min_eq_left (by omega), if_neg (by omega)]; simp [wsum]
theorem getD_lt {l : List Nat} (h : ∀ x ∈ l, x < 256) (i : Nat) : l.getD i 0 < 256 := by
  rw [List.getD_eq_getElem?_getD]
  cases hx : l[i]? with
  | none => simp
  | some y => exact h y (List.mem_of_getElem? hx)
theorem wsum_le (p : Bool) (l : List Nat) (h : ∀ x ∈ l, x < 256) : wsum p l ≤ 65280 * l.length := by
  induction l generalizing p with
  | nil => cases p <;> simp [wsum]
  | cons x t ih =>
    have hx := h x (List.mem_cons_self ..)
    have := ih (!p) (fun y hy => h y (List.mem_cons_of_mem _ hy))
    cases p <;> simp only [wsum, List.length_cons, Bool.not_true, Bool.not_false] at this ⊢ <;> omega
theorem wsum_pos {p : Bool} {l : List Nat} {i : Nat} (h : l.getD i 0 ≠ 0) : 0 < wsum p l := by
  induction l generalizing p i with
  | nil => simp at h
  | cons x t ih =>
    cases i with
    | zero =>
      have : x ≠ 0 := by simpa using h
      cases p <;> simp only [wsum] <;> omega
    | succ i =>
      have := ih (p := !p) (i := i) (by simpa using h)
      cases p <;> simp only [wsum, Bool.not_true, Bool.not_false] at this ⊢ <;> omega
theorem wsum_set_even (p : Bool) {l : List Nat} {i : Nat} (h : i < l.length) (x : Nat) (he : par p i = false) : wsum p (l.set i x) + 256 * l.getD i 0 = wsum p l + 256 * x := by
  induction l generalizing p i with
  | nil => simp at h
  | cons y t ih =>
    cases i with
    | zero =>
      have : p = false := by simpa [par] using he
      subst this
      simp [wsum]; omega
    | succ i =>
      rw [par_succ] at he
      have := ih (!p) (i := i) (by simpa using h) he
      cases p <;> simp only [wsum, List.set_cons_succ, List.getD_cons_succ, Bool.not_true, Bool.not_false] at this ⊢ <;> omega
theorem wsum_set_odd (p : Bool) {l : List Nat} {i : Nat} (h : i < l.length) (x : Nat) (he : par p i = true) : wsum p (l.set i x) + l.getD i 0 = wsum p l + x := by
  induction l generalizing p i with
  | nil => simp at h
  | cons y t ih =>
    cases i with
    | zero =>
      have : p = true := by simpa [par] using he
      subst this
      simp [wsum]; omega
    | succ i =>
      rw [par_succ] at he
      have := ih (!p) (i := i) (by simpa using h) he
      cases p <;> simp only [wsum, List.set_cons_succ, List.getD_cons_succ, Bool.not_true, Bool.not_false] at this ⊢ <;> omega
/-- a pair is replaced -/
theorem wsum_pair {l : List Nat} {k : Nat} (h : k + 1 < l.length) (he : k % 2 = 0) (x y : Nat) :
    wsum false ((l.set k x).set (k + 1) y) + (256 * l.getD k 0 + l.getD (k + 1) 0) = wsum false l + (256 * x + y) := by
  have h1 := wsum_set_even false (l := l) (i := k) (by omega) x (by unfold par; rw [if_pos he])
  have h2 := wsum_set_odd false (l := l.set k x) (i := k + 1) (by simpa using h) y (by unfold par; rw [if_neg (by omega)]; rfl)
  have h3 : (l.set k x).getD (k + 1) 0 = l.getD (k + 1) 0 := by
    rw [List.getD_eq_getElem?_getD, List.getD_eq_getElem?_getD, List.getElem?_set_ne (by omega)]
  omega
/-- the checksum's update -/
theorem update_oc {W old now X : Nat} (h : X + old = W + now) (hX : 0 < X) (ho : old ≤ 65535) : oc (65535 - (65535 - oc W) + (65535 - old) + now) = oc X := by
  have h1 := oc_le W
  have h2 := oc_mod W
  have h3 : 0 < W → 0 < oc W := oc_pos
  refine oc_congr ?_ hX ?_
  · by_cases hw : 0 < W
    · have := h3 hw; omega
    · omega
  · omega
/-- what the document's Add makes of a plain sum -/
theorem oc_two {a b : Nat} (ha : a ≤ 65535) (hb : b ≤ 65535) : (a + b) % 65536 + (a + b) / 65536 = oc (a + b) := by
  by_cases h : a + b ≤ 65535
  · rw [oc_small h]; omega
  · have := oc_fold (s := a + b) (by omega)
    rw [oc_small (by omega)] at this
    omega
theorem oc_three (a b c : Nat) : oc (oc (a + b) + c) = oc (a + b + c) := oc_add _ _
/-- the number in bytes, the most significant one first -/
def bnum (l : List Nat) : Nat := l.foldl (fun n x => n * 256 + x) 0
theorem bnum_snoc (l : List Nat) (x : Nat) : bnum (l ++ [x]) = bnum l * 256 + x := by simp [bnum]
theorem bnum_take {l : List Nat} {k : Nat} (h : k < l.length) : bnum (l.take (k + 1)) = bnum (l.take k) * 256 + l.getD k 0 := by rw [take_add_one l h, bnum_snoc]
theorem bnum_lt {l : List Nat} (h : ∀ x ∈ l, x < 256) (k : Nat) : bnum (l.take k) < 256 ^ k := by
  induction k with
  | zero => simp [bnum]
  | succ k ih =>
    by_cases hk : k < l.length
    · rw [bnum_take hk]
      have := getD_lt h k
      rw [Nat.pow_succ]; omega
    · rw [List.take_of_length_le (by omega)]
      rw [List.take_of_length_le (by omega)] at ih
      rw [Nat.pow_succ]; omega
/-- the bytes of a number, the most significant one first -/
def bput (n : Nat) : Nat → List Nat
  | 0 => []
  | k + 1 => n / 256 ^ k % 256 :: bput n k
theorem bput_len (n k : Nat) : (bput n k).length = k := by induction k with | zero => rfl | succ k ih => simp [bput, ih]
theorem bput_lt (n k : Nat) : ∀ x ∈ bput n k, x < 256 := by
  induction k with
  | zero => intro x h; simp [bput] at h
  | succ k ih =>
    intro x h
    rcases List.mem_cons.1 h with rfl | h
    · exact Nat.mod_lt _ (by omega)
    · exact ih x h
theorem bput_at (n k i : Nat) (h : i < k) : (bput n k).getD (k - 1 - i) 0 = n / 256 ^ i % 256 := by
  induction k with
  | zero => omega
  | succ k ih =>
    by_cases e : i = k
    · subst e
      rw [show i + 1 - 1 - i = 0 by omega]; rfl
    · rw [show k + 1 - 1 - i = (k - 1 - i) + 1 by omega]
      simp only [bput, List.getD_cons_succ]
      exact ih (by omega)
end Go.Proofs.YtjpjnbgfodlkcaaGreatDoor
/- Bytes in memory: slices that read as lists; append. -/
namespace Go.Proofs.YtjpjnbgfodlkcaaGreatDoor
open Go Go.RowKit Go.Sort
set_option maxRecDepth 100000
set_option linter.unusedVariables false

/-- the bytes l can be read through the slice v, in blocks of which p is true -/
def Rb (p : Nat → Prop) (w : World) (v : Value) (l : List Nat) : Prop :=
  ∃ (a : Option Addr) (cap : Nat), v = .slice a l.length cap ∧ l.length ≤ cap ∧ cap ≤ 9223372036854775807 ∧ (a = none → cap = 0) ∧ (∀ x ∈ l, x < 256) ∧
    ∀ i, i < l.length → ∃ b off : Nat, a = some ⟨b, off, none⟩ ∧ p b ∧ w.cell? ⟨b, off + i, none⟩ = some (.int .u8 (l.getD i 0 : Nat))
theorem Rb.imp {p q : Nat → Prop} {w : World} {v : Value} {l : List Nat} (h : Rb p w v l) (hpq : ∀ b, b < w.heap.size → p b → q b) : Rb q w v l := by
  obtain ⟨a, cap, e, hl, hc, hn, hx, H⟩ := h
  exact ⟨a, cap, e, hl, hc, hn, hx, fun i hi => by
    obtain ⟨b, off, ea, hp, hcell⟩ := H i hi
    exact ⟨b, off, ea, hpq b (World.block_lt_of_cell? _ _ hcell) hp, hcell⟩⟩
theorem Rb.any {p : Nat → Prop} {w : World} {v : Value} {l : List Nat} (h : Rb p w v l) : Rb (fun _ => True) w v l := h.imp fun _ _ _ => trivial
theorem Rb.gr {p : Nat → Prop} {w w' : World} {v : Value} {l : List Nat} (h : Rb p w v l) (g : Gr w w') : Rb p w' v l := by
  obtain ⟨a, cap, e, hl, hc, hn, hx, H⟩ := h
  exact ⟨a, cap, e, hl, hc, hn, hx, fun i hi => by
    obtain ⟨b, off, ea, hp, hcell⟩ := H i hi
    exact ⟨b, off, ea, hp, by rw [(Gr.cells g).1 _ _ (World.block_lt_of_cell? _ _ hcell)]; exact hcell⟩⟩
theorem Rb.ex {r : Nat} {p : Nat → Prop} {w w' : World} {v : Value} {l : List Nat} (h : Rb p w v l) (g : Ex r w w') (hr : ∀ b, p b → b ≠ r) : Rb p w' v l := by
  obtain ⟨a, cap, e, hl, hc, hn, hx, H⟩ := h
  exact ⟨a, cap, e, hl, hc, hn, hx, fun i hi => by
    obtain ⟨b, off, ea, hp, hcell⟩ := H i hi
    exact ⟨b, off, ea, hp, by rw [g.cell _ _ (hr _ hp) (World.block_lt_of_cell? _ _ hcell)]; exact hcell⟩⟩
theorem Rb.nil (p : Nat → Prop) (w : World) : Rb p w (.slice none 0 0) [] := ⟨none, 0, rfl, by simp, by omega, fun _ => rfl, fun _ h => by simp at h, fun i hi => by simp at hi⟩
theorem Rb.bytes {p : Nat → Prop} {w : World} {v : Value} {l : List Nat} (h : Rb p w v l) : ∀ x ∈ l, x < 256 := by
  obtain ⟨a, cap, e, hl, hc, hn, hx, H⟩ := h
  exact hx
theorem Rb.form {p : Nat → Prop} {w : World} {v : Value} {l : List Nat} (h : Rb p w v l) : ∃ a cap, v = .slice a l.length cap ∧ l.length ≤ cap ∧ cap ≤ 9223372036854775807 := by
  obtain ⟨a, cap, e, hl, hc, hn, hx, H⟩ := h
  exact ⟨a, cap, e, hl, hc⟩
theorem Rb.at' {p : Nat → Prop} {w : World} {a : Option Addr} {n cap : Nat} {l : List Nat} (h : Rb p w (.slice a n cap) l) {i : Nat} (hi : i < l.length) : ∃ b off : Nat, a = some ⟨b, off, none⟩ ∧ p b ∧ w.cell? ⟨b, off + i, none⟩ = some (.int .u8 (l.getD i 0 : Nat)) := by
  obtain ⟨a', cap', e, hl, hc, hn, hx, H⟩ := h
  cases e
  exact H i hi
theorem Rb.take {p : Nat → Prop} {w : World} {a : Option Addr} {n cap : Nat} {l : List Nat} (h : Rb p w (.slice a n cap) l) {k : Nat} (hk : k ≤ l.length) : Rb p w (.slice a k cap) (l.take k) := by
  obtain ⟨a', cap', e, hl, hc, hn, hx, H⟩ := h
  cases e
  have e : (l.take k).length = k := by simp; omega
  refine ⟨a, cap, by rw [e], by omega, hc, hn, fun x hm => hx x (List.mem_of_mem_take hm), fun i hi => ?_⟩
  rw [e] at hi
  obtain ⟨b, off, ea, hp, hcell⟩ := H i (by omega)
  refine ⟨b, off, ea, hp, ?_⟩
  rw [hcell, List.getD_eq_getElem?_getD, List.getD_eq_getElem?_getD, List.getElem?_take_of_lt hi]
/-- a part from k on, not empty -/
theorem Rb.part {p : Nat → Prop} {w : World} {b off n cap : Nat} {l : List Nat} (h : Rb p w (.slice (some ⟨b, off, none⟩) n cap) l) {k m : Nat} (hk : k + m ≤ l.length) : Rb p w (.slice (some ⟨b, off + k, none⟩) m (cap - k)) ((l.drop k).take m) := by
  obtain ⟨a', cap', e, hl, hc, hn, hx, H⟩ := h
  cases e
  have e : ((l.drop k).take m).length = m := by simp; omega
  refine ⟨_, cap - k, by rw [e], by omega, by omega, (fun h => by cases h), fun x hm => hx x (List.mem_of_mem_drop (List.mem_of_mem_take hm)), fun i hi => ?_⟩
  rw [e] at hi
  obtain ⟨b', off', ea, hp, hcell⟩ := H (k + i) (by omega)
  cases ea
  refine ⟨_, _, rfl, hp, ?_⟩
  rw [Nat.add_assoc, hcell, List.getD_eq_getElem?_getD, List.getD_eq_getElem?_getD, List.getElem?_take_of_lt hi, List.getElem?_drop]
/-- bytes as cells -/
def cellsB (l : List Nat) : List Value := l.map fun x : Nat => Value.int .u8 (x : Int)
theorem cellsB_len (l : List Nat) : (cellsB l).length = l.length := by simp [cellsB]
theorem cellsB_append (l m : List Nat) : cellsB (l ++ m) = cellsB l ++ cellsB m := by simp [cellsB]
theorem cellsB_at (l : List Nat) {i : Nat} (h : i < l.length) : (cellsB l)[i]? = some (.int .u8 (l.getD i 0 : Nat)) := by
  simp [cellsB, List.getD_eq_getElem?_getD, List.getElem?_eq_getElem h]
theorem cellsB_one (l : List Nat) : ∀ u ∈ cellsB l, u.oneCell' = true := by
  intro u hu
  rw [cellsB, List.mem_map] at hu
  obtain ⟨n, -, rfl⟩ := hu
  rfl
theorem cellsB_set (l : List Nat) (i x : Nat) (y : Int) (hy : y = (x : Int)) : (cellsB l).set i (.int .u8 y) = cellsB (l.set i x) := by
  subst hy; simp [cellsB, List.map_set]
/-- a row of the call's own -/
def OwB (base : Nat) (w : World) (v : Value) (l : List Nat) : Prop := w.ownsRow base 5 1 v l.length (cellsB l) ∧ ∀ x ∈ l, x < 256
theorem OwB.nil (base : Nat) (w : World) : OwB base w (.slice none 0 0) [] := ⟨World.ownsRow_nil _ _ _ _, fun _ h => by simp at h⟩
theorem OwB.rb {base : Nat} {w : World} {v : Value} {l : List Nat} (h : OwB base w v l) : Rb (fun b => base ≤ b) w v l := by
  obtain ⟨h1, h2⟩ := h
  rcases h1.2 with ⟨rfl, h0⟩ | ⟨g, cap, cur, rfl, hg, hh, hn, hcap, hsz, htake⟩
  · have : l = [] := List.eq_nil_of_length_eq_zero h0
    subst this
    exact Rb.nil _ _
  · unfold maxLen at hcap
    refine ⟨_, cap, rfl, hn, by omega, (fun h => by cases h), h2, fun i hi => ⟨g, 0, rfl, hg, ?_⟩⟩
    rw [Nat.zero_add, h1.cellAt i (by omega), cellsB_at l hi]
theorem OwB.form {base : Nat} {w : World} {v : Value} {l : List Nat} (h : OwB base w v l) (hl : 0 < l.length) : ∃ g cap, v = .slice (some ⟨g, 0, none⟩) l.length cap ∧ base ≤ g ∧ g < w.heap.size ∧ l.length ≤ cap := by
  rcases h.1.2 with ⟨_, h0⟩ | ⟨g, cap, cur, hv, hg, hh, hc, _⟩
  · omega
  · refine ⟨g, cap, hv, hg, ?_, hc⟩
    rcases Nat.lt_or_ge g w.heap.size with h | h
    · exact h
    · rw [Array.getElem?_eq_none h] at hh; cases hh
theorem OwB.grow {base : Nat} {w w' : World} {v : Value} {l : List Nat} {row : Option Nat} (h : OwB base w v l) (g : w.grownBy w' row) (hr : v.ownBlock = none ∨ v.ownBlock ≠ row) : OwB base w' v l := ⟨World.ownsRow.kept h.1 g hr, h.2⟩
theorem Gr.grownBy {w w' : World} (g : Gr w w') : w.grownBy w' none := ⟨Below.os g, Below.tape g, Below.output g, Below.size g, fun k hk _ => Below.block g k hk⟩
theorem OwB.gr {base : Nat} {w w' : World} {v : Value} {l : List Nat} (h : OwB base w v l) (g : Gr w w') : OwB base w' v l := by
  refine h.grow (Gr.grownBy g) ?_
  cases hv : v.ownBlock with
  | none => exact .inl rfl
  | some k => exact .inr (by simp)
/-- a stretch that writes new blocks alone -/
theorem Gr.grownNew {u v w : World} {row : Option Nat} (h : Gr u v) (g : v.grownBy w row) (hr : ∀ k, row = some k → u.heap.size ≤ k) : Gr u w :=
  ⟨g.os.trans (Below.os h), g.tape.trans (Below.tape h), g.output.trans (Below.output h), Nat.le_trans (Below.size h) g.size, fun j hj => (g.block j (Nat.lt_of_lt_of_le hj (Below.size h)) (fun hc => by have := hr j hc.symm; omega)).trans (Below.block h j hj)⟩
theorem OwB.above {base : Nat} {w : World} {v : Value} {l : List Nat} (h : OwB base w v l) : ∀ k, v.ownBlock = some k → base ≤ k := by
  intro k hk
  rcases h.1.2 with ⟨rfl, h0⟩ | ⟨g, cap, cur, rfl, hg, _⟩
  · cases hk
  · simp [Value.ownBlock] at hk; omega
theorem byteInfoB : ∃ i, Tryz.prog.info? 5 = some i ∧ i.zero = some (.int .u8 0) ∧ i.size = 1 ∧ i.bytes = 1 := by
  have h : (match Tryz.prog.info? 5 with | some i => (match i.zero with | some (.int .u8 0) => i.size == 1 && i.bytes == 1 | _ => false) | none => false) = true := by kernel_rfl
  cases h1 : Tryz.prog.info? 5 with
  | none => rw [h1] at h; cases h
  | some i =>
    rw [h1] at h
    simp only at h
    split at h
    · next h2 =>
      simp only [Bool.and_eq_true, beq_iff_eq] at h
      exact ⟨i, rfl, h2, h.1, h.2⟩
    · cases h
/-- append of bytes that can be read, nil or not, onto a row of the call's own -/
theorem wpList_app {base : Nat} {p : Nat → Prop} {w : World} {ops : Array Oper} {rest : List Oper} {o : Oper} {a : Act} {Q : Exit → Act → World → Prop} (hgd : o.guard = none) (s x : Operand)
    (ho : o.op = .call { callee := .builtin .append, args := #[s, x], argTypes := #[22, 22] }) {v xv : Value} {l m : List Nat}
    (hs : a.eval s = v) (hown : OwB base w v l) (hx : a.eval x = xv) (hr : Rb p w xv m) (h63 : l.length + m.length ≤ 100000) (hbase : base ≤ w.heap.size)
    (h : ∀ v' w', OwB base w' v' (l ++ m) → w.grownBy w' v.ownBlock → wpList Tryz.prog ops Q rest (a.put o.dst v') w') : wpList Tryz.prog ops Q (o :: rest) a w := by
  obtain ⟨i, hi1, hi2, hi3, hi4⟩ := byteInfoB
  obtain ⟨ad, cap, rfl, hl, hc, hn, hb, H⟩ := hr
  have hlt : ∀ y ∈ l ++ m, y < 256 := fun y hy => (List.mem_append.1 hy).elim (hown.2 y) (hb y)
  cases ad with
  | none =>
    have hm : m = [] := by
      cases m with
      | nil => rfl
      | cons y t => obtain ⟨b, off, e, _⟩ := H 0 (by simp); cases e
    subst hm
    obtain rfl := hn rfl
    refine wpList_plain hgd fun K hK => ?_
    have hrun := run_append_owned_none (P := Tryz.prog) w base 22 o.type 5 i 1 Tryz.underlying22 hi1 v l.length (cellsB l) hown.1
    unfold Oper.wp execOp
    simp only [ho, resolve, invoke, builtin, Sem.run_bind, Sem.run_pure, Result.andThen_ok, List.map_toArray, List.map_cons, List.map_nil, hs, hx, List.length_nil, hrun]
    exact hK _ _ (h v w (by rw [List.append_nil]; exact hown) ⟨rfl, rfl, rfl, Nat.le_refl _, fun _ _ _ => rfl⟩)
  | some ad =>
    refine wpList_append_own_at w hgd s x 22 ho base 5 i (.int .u8 0) 1 1 Tryz.underlying22 hi1 hi2 hi3 hi4 rfl (by decide) v l.length (cellsB l) hs hown.1 ad m.length cap (cellsB m) hx (by rw [cellsB_len, Nat.mul_one]) ?_ (cellsB_one m) (by unfold maxLen; omega) (by omega) hbase ?_
    · intro j u hj
      have hjm : j < m.length := by
        rcases Nat.lt_or_ge j m.length with h | h
        · exact h
        · rw [List.getElem?_eq_none (by rw [cellsB_len]; exact h)] at hj; cases hj
      rw [cellsB_at m hjm] at hj
      obtain rfl := Option.some.inj hj
      obtain ⟨b, off, e, _, hcell⟩ := H j hjm
      cases e
      rw [show (⟨b, off, none⟩ : Addr).add j = ⟨b, off + j, none⟩ by unfold Addr.add; split <;> simp_all]
      exact hcell
    · intro v' w' h2 h3 _ _
      refine h v' w' ⟨?_, hlt⟩ h3
      rw [List.length_append, cellsB_append]
      exact h2
end Go.Proofs.YtjpjnbgfodlkcaaGreatDoor
/- Spoilt: bytes with one byte changed, left out or added. -/
namespace Go.Proofs.YtjpjnbgfodlkcaaGreatDoor
open Go Go.RowKit Go.Sort
set_option maxRecDepth 100000
set_option linter.unusedVariables false
/-- two of which either may come first -/
theorem next_two {P : Program} {ops : Array Oper} {Q : Exit → Act → World → Prop} {md : Region.Mode} {S : World → Prop} (i j : Nat) {fuel : Nat} {listed : Array Bool} {a : Act} {w : World} {oi oj : Oper} (hi : ops[i]? = some oi) (hj : ops[j]? = some oj)
    (hr : Region.ready md ops listed = [i, j]) (hwi : Region.wanted oi (yielded ops a.tmps) = true) (hwj : Region.wanted oj (yielded ops a.tmps) = true)
    (h1 : ∀ K : Act → World → Prop, (∀ a w, S w → wpAnyH P md ops Q S fuel (listed.setIfInBounds i true) a w → K a w) → oi.wp P a w K Q)
    (h2 : ∀ K : Act → World → Prop, (∀ a w, S w → wpAnyH P md ops Q S fuel (listed.setIfInBounds j true) a w → K a w) → oj.wp P a w K Q) : wpAnyH P md ops Q S (fuel + 1) listed a w := by
  refine wpAnyH_all hr (by simp) (fun m hm => ?_)
  rcases List.mem_cons.1 hm with rfl | hm
  · unfold wpOp
    simp only [hi, hwi, if_true]
    exact .inl (h1 _ (fun a w hS hw => ⟨hS, hw⟩))
  · rw [List.mem_singleton] at hm
    subst hm
    unfold wpOp
    simp only [hj, hwj, if_true]
    exact .inl (h2 _ (fun a w hS hw => ⟨hS, hw⟩))
theorem ownsRow_ex {w w' : World} {base b n : Nat} {e : TypeId} {v : Value} {xs : List Value} (h : w.ownsRow base e 1 v n xs) (g : Ex b w w') (hb : b < base) : w'.ownsRow base e 1 v n xs := by
  refine World.ownsRow.kept (row := some b) h ⟨g.os, g.tape, g.output, g.size, fun k hk hne => g.block k (fun e => hne (by rw [e])) hk⟩ ?_
  cases hv : v.ownBlock with
  | none => exact .inl rfl
  | some k => exact .inr (fun e => by have := (World.ownsRow.lt h k hv).1; cases e; omega)
theorem own_form {w : World} {base n : Nat} {e : TypeId} {v : Value} {xs : List Value} (h : w.ownsRow base e 1 v n xs) (hn : 0 < n) : ∃ g cap, v = .slice (some ⟨g, 0, none⟩) n cap ∧ base ≤ g ∧ g < w.heap.size ∧ n ≤ cap := by
  obtain ⟨h1, h2⟩ := h
  rcases h2 with ⟨_, h0⟩ | ⟨g, cap, cur, hv, hg, hh, hc, _⟩
  · omega
  · refine ⟨g, cap, hv, hg, ?_, hc⟩
    rcases Nat.lt_or_ge g w.heap.size with h | h
    · exact h
    · rw [Array.getElem?_eq_none h] at hh; cases hh
theorem own_take {w : World} {base n g cap m : Nat} {e : TypeId} {xs : List Value} (h : w.ownsRow base e 1 (.slice (some ⟨g, 0, none⟩) n cap) n xs) (hm : m ≤ n) : w.ownsRow base e 1 (.slice (some ⟨g, 0, none⟩) m cap) m (xs.take m) := by
  obtain ⟨h1, h2⟩ := h
  rcases h2 with ⟨h0, _⟩ | ⟨g', cap', cur, hv, hg, hh, hn, hcap, hsz, htake⟩
  · cases h0
  · cases hv
    refine ⟨by rw [List.length_take]; omega, .inr ⟨g, cap, cur, rfl, hg, hh, by omega, hcap, hsz, ?_⟩⟩
    rw [← htake, List.take_take]
    congr 1; omega
theorem xor_u8 (a b : Int) : 0 ≤ bits .xor .u8 a b ∧ bits .xor .u8 a b < 256 := by
  show 0 ≤ IntKind.u8.wrap _ ∧ IntKind.u8.wrap _ < 256
  rw [IntKind.wrap_u8]; omega
/-- the bytes that come back: a slice of the call's own -/
def SpPostB (b m : Nat) (w : World) (e : Ending) (w' : World) : Prop :=
  ∃ (v : Value) (ys : List Int), e = .returned v ∧ w'.ownsRow w.heap.size 5 1 v ys.length (ys.map (Value.int .u8)) ∧ ys.length ≤ m + 1 ∧ Ex b w w' ∧ ∀ y ∈ ys, 0 ≤ y ∧ y < 256
theorem Ex.grownB {b : Nat} {u v w : World} {row : Option Nat} (h : Ex b u v) (g : v.grownBy w row) (hr : ∀ k, row = some k → u.heap.size ≤ k) : Ex b u w :=
  ⟨g.os.trans h.os, g.tape.trans h.tape, g.output.trans h.output, Nat.le_trans h.size g.size, fun j hne hj => (g.block j (Nat.lt_of_lt_of_le hj h.size) (fun hc => by have := hr j hc.symm; omega)).trans (h.block j hne hj)⟩
theorem map_cell {xs : List Int} : ∀ u ∈ xs.map (Value.int .u8), u.oneCell' = true := by
  intro u hu
  rw [List.mem_map] at hu
  obtain ⟨n, -, rfl⟩ := hu
  rfl
/-- an append in a region that draws its order -/
theorem oper_append {P : Program} {o : Oper} {a : Act} {w : World} {Q : Exit → Act → World → Prop} {K : Act → World → Prop} (s x : Operand) (t : TypeId)
    (ho : o.op = .call { callee := .builtin .append, args := #[s, x], argTypes := #[t, t] })
    (base : Nat) (e : TypeId) (i : TypeInfo) (z : Value) (size bytes : Nat) (ht : P.underlying t = some (.slice e)) (hi : P.info? e = some i) (hz : i.zero = some z)
    (hsize : i.size = size) (hby : i.bytes = bytes) (hzs : z.cells.size = size) (hsz : 0 < size)
    (v : Value) (n : Nat) (xs : List Value) (hs : a.eval s = v) (hown : w.ownsRow base e size v n xs)
    (ad : Addr) (m c : Nat) (news : List Value) (hx : a.eval x = .slice (some ad) m c) (hl : news.length = m * size) (hnews : ∀ j u, news[j]? = some u → w.cell? (ad.add j) = some u) (h1 : ∀ u ∈ news, u.oneCell' = true)
    (h63 : n + m ≤ maxLen) (hbytes : (n + m) * bytes ≤ 140737488355328) (hbase : base ≤ w.heap.size)
    (h : ∀ v' w', w'.ownsRow base e size v' (n + m) (xs ++ news) → w.grownBy w' v.ownBlock → K (a.put o.dst v') w') : o.wp P a w K Q := by
  obtain ⟨v', w', hr, h2, h3, -, -⟩ := run_append_own_at (P := P) w base t o.type e i z size bytes ht hi hz hsize hby hzs hsz v n xs hown ad m c news hl hnews h1 h63 hbytes hbase
  have hk := h v' w' h2 h3
  unfold Oper.wp execOp
  simp only [ho, resolve, invoke, builtin, Sem.run_bind, Sem.run_pure, Result.andThen_ok, List.map_toArray, List.map_cons, List.map_nil, hs, hx, hr]
  exact hk
set_option maxHeartbeats 2000000 in
theorem spoilt_any {B : Nat} (b k cap : Nat) (xs : List Int) (w : World) (h : Cod B w b) (hne : 0 < xs.length) (hl : xs.length ≤ 3000) (hcap : xs.length ≤ cap)
    (hrow : ∀ j u, (xs.map (Value.int .u8))[j]? = some u → w.cell? ((⟨k, 0, none⟩ : Addr).add j) = some u) (hkb : k ≠ b) (hk : k < w.heap.size) (hbx : ∀ y ∈ xs, 0 ≤ y ∧ y < 256) :
    Calls Tryz.prog 31 #[.pointer (some ⟨b, 0, none⟩), .slice (some ⟨k, 0, none⟩) xs.length cap] w (SpPostB b xs.length w) := by
  have hbl := h.lt
  obtain ⟨ti, hi1, hi2, hi3, hi4⟩ := byteInfoB
  have HROW := Lib.hid hrow
  have HBX := Lib.hid hbx
  clear hrow hbx
  obtain ⟨n, hn⟩ : ∃ n, n = xs.length := ⟨_, rfl⟩
  have HN := Lib.hid hn
  rw [← hn] at hne hl hcap ⊢
  clear hn
  go_enter Tryz.func31, Tryz.ntmps31
  go_wp2_with (at_builtin; refine wpList_append_own_at _ rfl _ _ 22 rfl w.heap.size 5 ti (.int .u8 0) 1 1 Tryz.underlying22 hi1 hi2 hi3 hi4 rfl (by decide) _ _ _ rfl (World.ownsRow_nil _ _ _ _) ⟨k, 0, none⟩ n cap (xs.map (Value.int .u8)) rfl (by rw [List.length_map, Nat.mul_one]; exact HN.out.symm) HROW.out map_cell (by unfold maxLen; omega) (by omega) (by omega) ?_; intro v1 w1 hown hgrow hnil hloc; clear hnil hloc; rw [Nat.zero_add, List.nil_append] at hown; have hg1 : Gr w w1 := Gr.grownNew (Gr.refl _) hgrow (fun _ h => by cases h); clear hgrow; obtain ⟨g, c1, rfl, hgb, hgl, hc1⟩ := own_form hown hne)
  have d0 : ((n : Int) == 0) = false := by rw [beq_eq_false_iff_ne]; omega
  go_wp2_with fail
  refine (next_any b n _ (by omega) (by omega) (h.gr hg1)).mono ?_
  rintro e w2 ⟨x, rfl, x0, x1, hc2, he2⟩
  obtain ⟨x, rfl⟩ := Int.eq_ofNat_of_zero_le x0
  have hown := ownsRow_ex hown he2 hbl
  have hE := (Ex.ofGr (b := b) hg1).trans he2
  clear hg1 he2 hgl
  go_wp2_with fail
  refine (next_any b 4 _ (by omega) (by omega) hc2).mono ?_
  rintro e w3 ⟨z, rfl, z0, z1, hc3, he3⟩
  have hown := ownsRow_ex hown he3 hbl
  have hE := hE.trans he3
  clear he3 hc2
  by_cases hz : z = 0
  · subst hz
    go_wp2_with fail
    have hS : True := trivial
    have u0 : decide ((x : Int) < 0) = false := by rw [decide_eq_false_iff_not]; omega
    refine region_plain (fun _ => True) (by kernel_rfl) ?_
    refine take_at 0 (some 24) (v := ?v0) rfl rfl (by kernel_rfl) (by kernel_rfl) (by kernel_rfl) (by rfl) ?y0 hS ?t0
    case y0 =>
      intro w' hSw
      go_simp
      (try rw [if_pos (by omega)])
      (try with_reducible rfl)
    simp only [Act.put, List.setIfInBounds_toArray, List.set_cons_zero, List.set_cons_succ]
    refine take_at 1 (some 25) (v := ?v1) rfl rfl (by kernel_rfl) (by kernel_rfl) (by kernel_rfl) (by rfl) ?y1 hS ?t1
    case y1 =>
      intro w' hSw
      go_simp
      (try rw [if_pos (by omega)])
      (try with_reducible rfl)
    simp only [Act.put, List.setIfInBounds_toArray, List.set_cons_zero, List.set_cons_succ]
    refine take_at 2 (some 26) (v := ?v2) rfl rfl (by kernel_rfl) (by kernel_rfl) (by kernel_rfl) (by rfl) ?y2 hS ?t2
    case y2 =>
      intro w' hSw
      go_simp
      (try rw [if_pos (by omega)])
      (try with_reducible rfl)
    simp only [Act.put, List.setIfInBounds_toArray, List.set_cons_zero, List.set_cons_succ]
    refine take_at 3 (some 27) (v := ?v3) rfl rfl (by kernel_rfl) (by kernel_rfl) (by kernel_rfl) (by rfl) ?y3 hS ?t3
    case y3 =>
      intro w' hSw
      go_simp
      (try rw [if_pos (by omega)])
      (try with_reducible rfl)
    simp only [Act.put, List.setIfInBounds_toArray, List.set_cons_zero, List.set_cons_succ]
    refine take_at 4 (some 28) (v := ?v4) rfl rfl (by kernel_rfl) (by kernel_rfl) (by kernel_rfl) (by rfl) ?y4 hS ?t4
    case y4 =>
      intro w' hSw
      go_simp
      (try rw [if_pos (by omega)])
      (try with_reducible rfl)
    simp only [Act.put, List.setIfInBounds_toArray, List.set_cons_zero, List.set_cons_succ]
    have hw : IntKind.i64.wrap ((x : Int) + 1) = ((x + 1 : Nat) : Int) := by rw [IntWalk.i64_in _ (by omega)]; omega
    obtain ⟨ad, had, hlo⟩ : ∃ ad : Addr, (if cap = x + 1 then some (⟨k, 0, none⟩ : Addr) else some ⟨k, x + 1, none⟩) = some ad ∧ (x + 1 < n → ad = ⟨k, x + 1, none⟩) := by
      by_cases hc : cap = x + 1
      · exact ⟨_, if_pos hc, fun h => by omega⟩
      · exact ⟨_, if_neg hc, fun _ => rfl⟩
    refine take_at 5 (some 29) (v := .int .i64 ((x + 1 : Nat) : Int)) rfl rfl (by kernel_rfl) (by kernel_rfl) (by kernel_rfl) (by rfl) ?y5 hS ?t5
    case y5 =>
      intro w' hSw
      go_simp
    simp only [Act.put, List.setIfInBounds_toArray, List.set_cons_zero, List.set_cons_succ]
    refine take_at 6 (some 30) (v := .slice (some ad) (n - (x + 1)) (cap - (x + 1))) rfl rfl (by kernel_rfl) (by kernel_rfl) (by kernel_rfl) (by rfl) ?y6 hS ?t6
    case y6 =>
      intro w' hSw
      go_simp
      intro hc
      have := hc (by omega)
      omega
    simp only [Act.put, List.setIfInBounds_toArray, List.set_cons_zero, List.set_cons_succ]
    refine next_at 7 rfl (by kernel_rfl) (by rfl) (fun K hK => ?_)
    have hlt : n - (x + 1) = ((xs.map (Value.int .u8)).drop (x + 1)).length := by rw [List.length_drop, List.length_map, ← HN.out]
    refine oper_append _ _ 22 rfl w.heap.size 5 ti (.int .u8 0) 1 1 Tryz.underlying22 hi1 hi2 hi3 hi4 rfl (by decide) (.slice (some ⟨g, 0, none⟩) x c1) x ((xs.map (Value.int .u8)).take x) rfl (own_take (m := x) hown.drew (by omega)) ad (n - (x + 1)) (cap - (x + 1)) ((xs.map (Value.int .u8)).drop (x + 1)) rfl (by omega) ?_ (fun u hu => map_cell u (List.mem_of_mem_drop hu)) (by unfold maxLen; omega) (by omega) (by have := hE.size; simp; omega) ?_
    · intro j u hj
      rw [List.getElem?_drop] at hj
      have hjn : x + 1 + j < n := by
        rcases Nat.lt_or_ge (x + 1 + j) n with h | h
        · exact h
        · rw [List.getElem?_eq_none (by rw [List.length_map, ← HN.out]; omega)] at hj; cases hj
      have h1 := HROW.out _ _ hj
      rw [hlo (by omega)]
      rw [show (⟨k, x + 1, none⟩ : Addr).add j = (⟨k, 0, none⟩ : Addr).add (x + 1 + j) by simp [Addr.add]]
      rw [show (⟨k, 0, none⟩ : Addr).add (x + 1 + j) = ⟨k, x + 1 + j, none⟩ by simp [Addr.add]] at h1 ⊢
      exact (hE.cell k _ hkb hk).trans h1
    · intro v' w4 hown2 hgrow
      refine hK _ _ trivial ?_
      clear hK K
      simp only [Act.put, List.setIfInBounds_toArray]
      refine next_at 8 rfl (by kernel_rfl) (by rfl) (fun K hK => ?_)
      go_simp
      refine hK _ _ hS ?_
      clear hK K
      refine wpAnyH_done (by kernel_rfl) ?_ _
      refine qz_normal ?_
      go_wp2_with fail
      go_ret
      refine ⟨_, xs.take x ++ xs.drop (x + 1), rfl, ?_, ?_, hE.drew.grownB hgrow (fun j hj => (Option.some.inj (show some g = some j from hj)) ▸ hgb), fun y hy => (List.mem_append.1 hy).elim (fun h => HBX.out y (List.mem_of_mem_take h)) (fun h => HBX.out y (List.mem_of_mem_drop h))⟩
      · have e : (xs.take x ++ xs.drop (x + 1)).length = x + (n - (x + 1)) := by
          have := HN.out
          rw [List.length_append, List.length_take, List.length_drop]; omega
        rw [e, List.map_append, List.map_take, List.map_drop]
        exact hown2
      · have := HN.out
        rw [List.length_append, List.length_take, List.length_drop]; omega
  · have dz : (z == 0) = false := by rw [beq_eq_false_iff_ne]; exact hz
    by_cases hz1 : z = 1
    · subst hz1
      go_wp2_with fail
      refine (next_any b 256 _ (by omega) (by omega) hc3).mono ?_
      rintro e w4 ⟨y, rfl, y0, y1, hc4, he4⟩
      have hown := ownsRow_ex hown he4 hbl
      have hE := hE.trans he4
      have hs4 := hE.size
      clear he4 hc3
      go_wp2_with (at_builtin; refine wpList_append_own_at _ rfl _ _ 22 rfl w.heap.size 5 ti (.int .u8 0) 1 1 Tryz.underlying22 hi1 hi2 hi3 hi4 rfl (by decide) _ _ _ rfl (hown.alloc _) ⟨w4.heap.size, 0, none⟩ 1 1 [_] rfl rfl (cell_one_new _ _ _) (by intro u hu; simp at hu; subst hu; rfl) (by unfold maxLen; omega) (by omega) (by simp; omega) ?_; intro v' w5 hown2 hgrow hnil hloc)
      go_ret
      refine ⟨_, xs ++ [y], rfl, ?_, ?_, ?_, fun u hu => (List.mem_append.1 hu).elim (fun h => HBX.out u h) (fun h => by rw [List.mem_singleton] at h; subst h; exact ⟨y0, y1⟩)⟩
      · rw [List.length_append, List.map_append, ← HN.out]
        exact hown2
      · simp; have := HN.out; omega
      · exact (hE.alloc _).grown hgrow (fun j hj => (Option.some.inj (show some g = some j from hj)) ▸ hgb)
    · have dz1 : (z == 1) = false := by rw [beq_eq_false_iff_ne]; exact hz1
      go_wp2_with fail
      have hX : ∃ X : Int, xs[x]? = some X := ⟨_, List.getElem?_eq_getElem (by have := HN.out; omega)⟩
      obtain ⟨X, hX⟩ := hX
      have hcl : w3.cell? ⟨g, x, none⟩ = some (.int .u8 X) := by rw [hown.cellAt x (by omega), List.getElem?_map, hX]; rfl
      have hS : True := trivial
      have ux : (x : Int) < (n : Int) := by omega
      refine region_plain (fun _ => True) (by kernel_rfl) ?_
      refine take_at 0 (some 40) (v := ?w0) rfl rfl (by kernel_rfl) (by kernel_rfl) (by kernel_rfl) (by rfl) ?x0 hS ?z0
      case x0 => intro w' hSw; go_simp; (try with_reducible rfl)
      simp only [Act.put, List.setIfInBounds_toArray, List.set_cons_zero, List.set_cons_succ]
      refine take_at 1 (some 41) (v := ?w1) rfl rfl (by kernel_rfl) (by kernel_rfl) (by kernel_rfl) (by rfl) ?x1 hS ?z1
      case x1 => intro w' hSw; go_simp; (try with_reducible rfl)
      simp only [Act.put, List.setIfInBounds_toArray, List.set_cons_zero, List.set_cons_succ]
      refine take_at 2 (some 42) (v := .pointer (some ⟨g, x, none⟩)) rfl rfl (by kernel_rfl) (by kernel_rfl) (by kernel_rfl) (by rfl) ?x2 hS ?z2
      case x2 => intro w' hSw; go_simp; (try with_reducible rfl)
      simp only [Act.put, List.setIfInBounds_toArray, List.set_cons_zero, List.set_cons_succ]
      refine take_at 4 (some 44) (v := ?w4) rfl rfl (by kernel_rfl) (by kernel_rfl) (by kernel_rfl) (by rfl) ?x4 hS ?z4
      case x4 => intro w' hSw; go_simp; (try with_reducible rfl)
      simp only [Act.put, List.setIfInBounds_toArray, List.set_cons_zero, List.set_cons_succ]
      refine next_two 3 5 rfl rfl (by kernel_rfl) (by rfl) (by rfl) (fun K hK => ?_) (fun K hK => ?_)
      · go_simp
        refine hK _ _ trivial ?_
        clear hK K
        refine next_at 5 rfl (by kernel_rfl) (by rfl) (fun K hK => ?_)
        go_simp
        refine (next_any b 255 _ (by omega) (by omega) (hc3.gr (Gr.drew (Gr.refl _)))).mono ?_
        rintro e w4 ⟨y, rfl, y0, y1, hc4, he4⟩
        have hown := ownsRow_ex hown.drew he4 hbl
        have hE := hE.drew.trans he4
        refine hK _ _ trivial ?_
        clear hK K hcl
        have hcl : w4.cell? ⟨g, x, none⟩ = some (.int .u8 X) := by rw [hown.cellAt x (by omega), List.getElem?_map, hX]; rfl
        have hfz := hown.frozenAt x
        refine next_at 6 rfl (by kernel_rfl) (by rfl) (fun K hK => ?_)
        go_simp
        refine hK _ _ hS ?_
        clear hK K
        refine next_at 7 rfl (by kernel_rfl) (by rfl) (fun K hK => ?_)
        go_simp
        refine hK _ _ hS ?_
        clear hK K
        refine next_at 8 rfl (by kernel_rfl) (by rfl) (fun K hK => ?_)
        go_simp
        refine hK _ _ hS ?_
        clear hK K
        refine next_at 9 rfl (by kernel_rfl) (by rfl) (fun K hK => ?_)
        go_simp
        refine hK _ _ hS ?_
        clear hK K
        refine next_at 10 rfl (by kernel_rfl) (by rfl) (fun K hK => ?_)
        go_simp
        refine hK _ _ trivial ?_
        clear hK K
        refine wpAnyH_done (by kernel_rfl) ?_ _
        refine qz_normal ?_
        go_wp2_with fail
        go_ret
        refine ⟨_, xs.set x (bits .xor .u8 X (IntKind.u8.wrap (IntKind.i64.wrap (1 + y)))), rfl, ?_, ?_, ?_, fun u hu => (List.mem_or_eq_of_mem_set hu).elim (fun h => HBX.out u h) (fun h => by subst h; exact xor_u8 _ _)⟩
        · rw [List.length_set, ← HN.out, List.map_set]
          exact (hown.stored x _).1
        · rw [List.length_set]
          have := HN.out
          omega
        · exact hE.grownB (hown.stored x _).2 (fun j hj => (Option.some.inj hj) ▸ hgb)
      · skip
        go_simp
        refine (next_any b 255 _ (by omega) (by omega) (hc3.gr (Gr.drew (Gr.refl _)))).mono ?_
        rintro e w4 ⟨y, rfl, y0, y1, hc4, he4⟩
        have hown := ownsRow_ex hown.drew he4 hbl
        have hE := hE.drew.trans he4
        refine hK _ _ trivial ?_
        clear hK K hcl
        have hcl : w4.cell? ⟨g, x, none⟩ = some (.int .u8 X) := by rw [hown.cellAt x (by omega), List.getElem?_map, hX]; rfl
        have hfz := hown.frozenAt x
        refine take_at 6 (some 46) (v := ?w6) rfl rfl (by kernel_rfl) (by kernel_rfl) (by kernel_rfl) (by rfl) ?x6 hS ?z6
        case x6 => intro w' hSw; go_simp; (try with_reducible rfl)
        simp only [Act.put, List.setIfInBounds_toArray, List.set_cons_zero, List.set_cons_succ]
        refine take_at 7 (some 47) (v := ?w7) rfl rfl (by kernel_rfl) (by kernel_rfl) (by kernel_rfl) (by rfl) ?x7 hS ?z7
        case x7 => intro w' hSw; go_simp; (try with_reducible rfl)
        simp only [Act.put, List.setIfInBounds_toArray, List.set_cons_zero, List.set_cons_succ]
        refine next_at 3 rfl (by kernel_rfl) (by rfl) (fun K hK => ?_)
        go_simp
        refine hK _ _ trivial ?_
        clear hK K
        refine next_at 8 rfl (by kernel_rfl) (by rfl) (fun K hK => ?_)
        go_simp
        refine hK _ _ hS ?_
        clear hK K
        refine next_at 9 rfl (by kernel_rfl) (by rfl) (fun K hK => ?_)
        go_simp
        refine hK _ _ hS ?_
        clear hK K
        refine next_at 10 rfl (by kernel_rfl) (by rfl) (fun K hK => ?_)
        go_simp
        refine hK _ _ trivial ?_
        clear hK K
        refine wpAnyH_done (by kernel_rfl) ?_ _
        refine qz_normal ?_
        go_wp2_with fail
        go_ret
        refine ⟨_, xs.set x (bits .xor .u8 X (IntKind.u8.wrap (IntKind.i64.wrap (1 + y)))), rfl, ?_, ?_, ?_, fun u hu => (List.mem_or_eq_of_mem_set hu).elim (fun h => HBX.out u h) (fun h => by subst h; exact xor_u8 _ _)⟩
        · rw [List.length_set, ← HN.out, List.map_set]
          exact (hown.stored x _).1
        · rw [List.length_set]
          have := HN.out
          omega
        · exact hE.grownB (hown.stored x _).2 (fun j hj => (Option.some.inj hj) ▸ hgb)
theorem wrap_byte' (x : Nat) (h : x < 256) : IntKind.u8.wrap (x : Int) = (x : Int) := by rw [IntKind.wrap_u8]; omega
theorem OwB.ex {base b : Nat} {w w' : World} {v : Value} {l : List Nat} (h : OwB base w v l) (g : Ex b w w') (hb : b < base) : OwB base w' v l := ⟨ownsRow_ex h.1 g hb, h.2⟩
theorem Rb.grown {p : Nat → Prop} {w w' : World} {v : Value} {l : List Nat} {row : Option Nat} (h : Rb p w v l) (g : w.grownBy w' row) (hr : ∀ k, p k → row ≠ some k) : Rb p w' v l := by
  obtain ⟨a, cap, e, hl, hc, hn, hx, H⟩ := h
  refine ⟨a, cap, e, hl, hc, hn, hx, fun i hi => ?_⟩
  obtain ⟨b, off, ea, hp, hcell⟩ := H i hi
  refine ⟨b, off, ea, hp, ?_⟩
  rw [World.cell?_of_block (w := w) (g.block b (World.block_lt_of_cell? _ _ hcell) (fun e => hr b hp e.symm))]
  exact hcell
theorem spoilt_nil {B : Nat} (b : Nat) (a : Option Addr) (cap : Nat) (w : World) (h : Cod B w b) (hr : Rb (fun _ => True) w (.slice a 0 cap) []) :
    Calls Tryz.prog 31 #[.pointer (some ⟨b, 0, none⟩), .slice a 0 cap] w fun e w' => ∃ v l, e = .returned v ∧ Rb (fun k => w.heap.size ≤ k) w' v l ∧ l.length ≤ 3000 ∧ Ex b w w' := by
  have HR := Lib.hid hr
  have HC := Lib.hid h
  clear hr h
  go_enter Tryz.func31, Tryz.ntmps31
  go_wp2_with (at_builtin; refine wpList_app (base := w.heap.size) rfl (.const (.slice none 0 0)) (.tmp 7) rfl rfl (OwB.nil _ _) rfl HR.out (by simp) (Nat.le_refl _) ?_; intro v1 w1 ho g1; have hg1 : Gr w w1 := Gr.grownNew (Gr.refl _) g1 (fun _ h => by cases h); obtain ⟨a1, c1, rfl, -, -⟩ := ho.rb.form; clear ho g1)
  refine (next_any b 256 _ (by omega) (by omega) (HC.out.gr hg1)).mono ?_
  rintro e w2 ⟨x, rfl, x0, x1, hc2, he2⟩
  obtain ⟨x, rfl⟩ := Int.eq_ofNat_of_zero_le x0
  have hx := wrap_byte' x (by omega)
  have hsz : w.heap.size ≤ w2.heap.size := Nat.le_trans (Gr.size hg1) he2.size
  go_wp2_with fail
  go_ret
  refine ⟨_, [x], rfl, ⟨_, 1, rfl, by simp, by omega, (fun h => by cases h), (fun y hy => by rw [List.mem_singleton] at hy; omega), fun i hi => ⟨_, 0, rfl, hsz, ?_⟩⟩, by simp, ((Ex.ofGr hg1).trans he2).trans (Ex.ofGr (Gr.alloc (Gr.refl _) _))⟩
  have : i = 0 := by simp at hi; omega
  subst this
  simp
theorem spoilt_res {B base : Nat} (b : Nat) (v : Value) (l : List Nat) (w : World) (h : Cod B w b) (ho : OwB base w v l) (hl : l.length ≤ 1600) (hb : ∀ k, v.ownBlock = some k → k ≠ b) :
    Calls Tryz.prog 31 #[.pointer (some ⟨b, 0, none⟩), v] w fun e w' => ∃ v l, e = .returned v ∧ Rb (fun k => w.heap.size ≤ k) w' v l ∧ l.length ≤ 3000 ∧ Ex b w w' := by
  by_cases h0 : 0 < l.length
  · obtain ⟨g, cap, rfl, hgb, hgl, hcap⟩ := ho.form h0
    have hx := ho.2
    have hlen : (l.map fun x : Nat => (x : Int)).length = l.length := by simp
    have hc := ho.1.cells (g := g) rfl
    have := spoilt_any b g cap (l.map fun x : Nat => (x : Int)) w h (by rw [hlen]; exact h0) (by rw [hlen]; omega) (by rw [hlen]; exact hcap) (by
      intro j u hj
      refine hc j u ?_
      rw [List.map_map] at hj
      exact hj) (hb g rfl) hgl (fun y hy => by
        rw [List.mem_map] at hy
        obtain ⟨n, hn, rfl⟩ := hy
        have := hx n hn; omega)
    rw [hlen] at this
    refine this.mono ?_
    rintro e w' ⟨v, ys, rfl, hown, hys, hE, hyb⟩
    refine ⟨v, ys.map Int.toNat, rfl, ?_, by simp; omega, hE⟩
    have e1 : ys.map (Value.int .u8) = cellsB (ys.map Int.toNat) := by
      unfold cellsB
      rw [List.map_map]
      refine List.map_congr_left (fun y hy => ?_)
      have := hyb y hy
      show Value.int .u8 y = Value.int .u8 (y.toNat : Int)
      rw [Int.toNat_of_nonneg this.1]
    have hO : OwB w.heap.size w' v (ys.map Int.toNat) := ⟨by rw [List.length_map, ← e1]; exact hown, fun x hx => by
      rw [List.mem_map] at hx
      obtain ⟨y, hy, rfl⟩ := hx
      have := hyb y hy; omega⟩
    exact hO.rb
  · have : l = [] := List.eq_nil_of_length_eq_zero (by omega)
    subst this
    have hr := ho.rb.any
    obtain ⟨a, cap, rfl, -, -⟩ := ho.rb.form
    exact spoilt_nil b a cap w h hr
end Go.Proofs.YtjpjnbgfodlkcaaGreatDoor
