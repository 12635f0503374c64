/- Tables and ints that come in. -/
import Derived.Test.YtefocmcpeigfcaaAz
import Derived.Test.YtefocmcpeigfcaaIn
import Derived.Deep.Slices
namespace Go.Proofs.Ytefocmcpeigfcaa
open Go Go.ChangeShapes Go.WideShapes Go.ChangeAt Go.RowKit Go.Deep
set_option maxRecDepth 100000
set_option linter.unusedVariables false
theorem pick_lt {α : Type} (d : α) {p : Nat → α → Prop} {n : Nat} (h : ∀ i, i < n → ∃ x, p i x) : ∃ f : Nat → α, ∀ i, i < n → p i (f i) := by
  induction n with
  | zero => exact ⟨fun _ => d, fun i hi => by omega⟩
  | succ k ih =>
    obtain ⟨f, hf⟩ := ih (fun i hi => h i (by omega))
    obtain ⟨x, hx⟩ := h k (by omega)
    refine ⟨fun i => if i = k then x else f i, fun i hi => ?_⟩
    by_cases e : i = k
    · subst e; simpa using hx
    · simpa [e] using hf i (by omega)
theorem openI {H : Type} {enc : TypeId × Value → H} {w : World} {base n : Nat} {sp : Nat → Bool} {held : Bool} {v : Value} {y : DataW H × List MemPlace} (h : DataW.trod enc Try.prog w base sp held n 24 [v] = some y) :
    ∃ l : List Int, Ri (fun b => b < w.heap.size) w v l := by
  rcases open_ints Try.underlying24 Try.underlying3 (by kernel_rfl) h with ⟨hcs, _⟩ | ⟨x, l, c, zs, hcs, _, hl, hm, hz, _, hcell, hwz⟩
  · simp at hcs
    subst hcs
    exact ⟨[], Ri.nil _ _⟩
  · simp at hcs
    subst hcs
    unfold maxLen at hm
    have hzl : l ≤ zs.length := by split at hz <;> omega
    have e : (zs.take l).length = l := by rw [List.length_take]; omega
    refine ⟨zs.take l, some x, c, by rw [e], by omega, by omega, (fun h => by cases h), fun i hi => ?_⟩
    rw [e] at hi
    obtain ⟨b, off, rfl, hc⟩ := ints_at hcell (by omega)
    have hci := hc i (by omega)
    refine ⟨b, off, rfl, World.block_lt_of_cell? w _ hci, ?_⟩
    rw [hci, List.getD_eq_getElem?_getD, List.getD_eq_getElem?_getD, List.getElem?_take_of_lt hi]
theorem fieldsR : ∃ f0 f1 f2 : Field, Try.prog.underlying 34 = some (.struct #[f0, f1, f2]) ∧ f0.type = 28 ∧ f0.offset = 0 ∧ f1.type = 24 ∧ f1.offset = 2 ∧ f2.type = 3 ∧ f2.offset = 3 :=
  ⟨_, _, _, Try.underlying34, rfl, rfl, rfl, rfl, rfl, rfl⟩
theorem fieldsP : ∃ f0 f1 : Field, Try.prog.underlying 28 = some (.struct #[f0, f1]) ∧ f0.type = 26 ∧ f0.offset = 0 ∧ f1.type = 3 ∧ f1.offset = 1 :=
  ⟨_, _, Try.underlying28, rfl, rfl, rfl, rfl⟩
theorem cellsR : Try.prog.cellsOf 34 = 4 := by kernel_rfl
theorem cellsP : Try.prog.cellsOf 28 = 2 := by kernel_rfl
theorem cellsS : Try.prog.cellsOf 24 = 1 := by kernel_rfl
theorem cellsN : Try.prog.cellsOf 3 = 1 := by kernel_rfl
theorem cellsA : Try.prog.cellsOf 26 = 1 := by kernel_rfl
/-- a prefix's two cells -/
theorem openP2 {H : Type} {enc : TypeId × Value → H} {w : World} {base n : Nat} {sp : Nat → Bool} {held : Bool} {c0 c1 : Value} {y : DataW H × List MemPlace} (h : DataW.trod enc Try.prog w base sp held n 28 [c0, c1] = some y) :
    ∃ a m : Int, c0 = .int .u32 a ∧ c1 = .int .i64 m ∧ 0 ≤ a ∧ a < 4294967296 := by
  obtain ⟨f0, f1, hs, t0, o0, t1, o1⟩ := fieldsP
  obtain ⟨xs, k, -, -, -, hlen, hf⟩ := DataW.trod_struct hs h
  have hl : xs.length = 2 := hlen
  have h0 := hf 0 f0 rfl
  have h1 := hf 1 f1 rfl
  rw [t0, o0, cellsA, List.getElem?_eq_getElem (by omega)] at h0
  rw [t1, o1, cellsN, List.getElem?_eq_getElem (by omega)] at h1
  obtain ⟨a, e0, -, w0⟩ := DataW.trod_int Try.underlying26 h0
  obtain ⟨m, e1, -, -⟩ := DataW.trod_int Try.underlying3 h1
  simp at e0 e1
  have b0 := bounds_u32 w0
  exact ⟨a, m, e0, e1, by omega, by omega⟩
/-- a route's four cells -/
theorem openR4 {H : Type} {enc : TypeId × Value → H} {w : World} {base n : Nat} {sp : Nat → Bool} {held : Bool} {cs : List Value} {y : DataW H × List MemPlace} (h : DataW.trod enc Try.prog w base sp held n 34 cs = some y) :
    ∃ z : Rt × Value, cs = rcl z ∧ z.1.ok ∧ Ri (fun b => b < w.heap.size) w z.2 z.1.nx := by
  obtain ⟨f0, f1, f2, hs, t0, o0, t1, o1, t2, o2⟩ := fieldsR
  obtain ⟨xs, k, -, -, hcl, hlen, hf⟩ := DataW.trod_struct hs h
  rw [cellsR] at hcl
  have hl : xs.length = 3 := hlen
  match cs, hcl with
  | [c0, c1, c2, c3], _ =>
    have h0 := hf 0 f0 rfl
    have h1 := hf 1 f1 rfl
    have h2 := hf 2 f2 rfl
    rw [t0, o0, cellsP, List.getElem?_eq_getElem (by omega)] at h0
    rw [t1, o1, cellsS, List.getElem?_eq_getElem (by omega)] at h1
    rw [t2, o2, cellsN, List.getElem?_eq_getElem (by omega)] at h2
    have h0' : DataW.trod enc Try.prog w base sp held k 28 [c0, c1] = some _ := h0
    have h1' : DataW.trod enc Try.prog w base sp held k 24 [c2] = some _ := h1
    obtain ⟨a, m, rfl, rfl, ha0, ha1⟩ := openP2 h0'
    obtain ⟨nx, hnx⟩ := openI h1'
    obtain ⟨bal, e3, -, -⟩ := DataW.trod_int Try.underlying3 h2
    simp at e3
    subst e3
    exact ⟨(⟨a, m, nx, bal⟩, c2), rfl, ⟨ha0, ha1⟩, hnx⟩
/-- a table that came in -/
theorem openT {H : Type} {enc : TypeId × Value → H} {w : World} {base n : Nat} {sp : Nat → Bool} {held : Bool} {v : Value} {y : DataW H × List MemPlace} (h : DataW.trod enc Try.prog w base sp held n 23 [v] = some y) :
    ∃ l : List Rt, Tb (fun b => b < w.heap.size) w v l := by
  rcases open_slice Try.underlying23 h with ⟨hcs, _⟩ | ⟨a, len, cap, m, k, D, Pl, hcs, _, hl, hm, hmm, _, hx⟩
  · simp at hcs
    subst hcs
    exact ⟨[], Tb.nil _ _⟩
  · simp at hcs
    subst hcs
    unfold maxLen at hm
    have hlm : len ≤ m := by rw [hmm]; split <;> omega
    have hplain : 0 < len → ∃ b off : Nat, a = ⟨b, off, none⟩ := fun h0 => by
      obtain ⟨cs', h1, h2⟩ := hx 0 (by omega)
      rw [cellsR] at h1
      obtain ⟨-, hcl, hc⟩ := World.cells?_some h1
      have h0 := hc 0 (by omega)
      rw [List.getElem?_eq_getElem (by omega)] at h0
      obtain ⟨b, off, spot⟩ := a
      have hspot : spot = none := by simpa [Addr.add] using World.cell?_spot h0
      subst hspot
      exact ⟨b, off, rfl⟩
    obtain ⟨f, hf⟩ := pick_lt (α := Rt × Value) (zeroR, .nilFunc) (p := fun i z => (∃ b off : Nat, a = ⟨b, off, none⟩ ∧ b < w.heap.size ∧ RC w b (off + i * 4) z) ∧ z.1.ok ∧ Ri (fun b => b < w.heap.size) w z.2 z.1.nx) (n := len) (fun i hi => by
      obtain ⟨cs', h1, h2⟩ := hx i (by omega)
      obtain ⟨z, rfl, hok, hri⟩ := openR4 h2
      rw [cellsR] at h1
      obtain ⟨-, -, hc⟩ := World.cells?_some h1
      refine ⟨z, ?_, hok, hri⟩
      have h0 := hc 0 (by omega)
      have h1 := hc 1 (by omega)
      have h2 := hc 2 (by omega)
      have h3 := hc 3 (by omega)
      obtain ⟨b, off, rfl⟩ := hplain (by omega)
      rw [add_plain, add_plain] at h0 h1 h2 h3
      exact ⟨b, off, rfl, World.block_lt_of_cell? w _ h0, h0, h1, h2, h3⟩)
    refine ⟨((List.range len).map f).map Prod.fst, (List.range len).map f, rfl, ⟨some a, cap, by simp, by simpa using hl, by omega, (fun h => by cases h), fun i z hz => ?_⟩, fun z hz => ?_⟩
    · have hi : i < len := by have := (List.getElem?_eq_some_iff.1 hz).1; simpa using this
      rw [List.getElem?_map, List.getElem?_range hi] at hz
      have e := Option.some.inj hz
      subst e
      obtain ⟨⟨b, off, rfl, hb, hrc⟩, -⟩ := hf i hi
      exact ⟨b, off, rfl, hb, hrc⟩
    · obtain ⟨i, hi, e⟩ := List.mem_map.1 hz
      subst e
      exact (hf i (List.mem_range.1 hi)).2
end Go.Proofs.Ytefocmcpeigfcaa
