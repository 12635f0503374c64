/- Routes in memory: slices of ints and of routes that read as lists; appends. -/
import Derived.Test.YtefocmcpeigfcaaAa
import Derived.Test.YtefocmcpeigfcaaCl
import Derived.WalkKit
import Derived.WalkSpells
import Derived.WalkLawsBesides
import Derived.WalkSmall
import Derived.Handy
import Derived.BigQuiet
import Derived.Deep.QuietTactic
import Derived.Deep.RegionHeld3
import Derived.Deep.DeepFit
import Derived.Below
import Derived.Lib.Hide
import Derived.Lib.QuietBelow
import Derived.Maps.AppendAt
import Derived.Laws.OwnMore
namespace Go.Proofs.Ytefocmcpeigfcaa
open Go Go.RowKit Go.Sort
set_option maxRecDepth 100000
set_option linter.unusedVariables false

theorem CL.two {w : World} {g : Nat} {a b : Value} (h : CL w g [a, b]) :
    (w.cell? ⟨g, 0, none⟩ = some a ∧ w.cell? ⟨g, 1, none⟩ = some b) ∧ w.frozen? ⟨g, 0, none⟩ = false ∧ w.frozen? ⟨g, 1, none⟩ = false :=
  ⟨⟨(h.at' 0 a rfl).1, (h.at' 1 b rfl).1⟩, (h.at' 0 a rfl).2, (h.at' 1 b rfl).2⟩
theorem CL.four {w : World} {g : Nat} {a b c d : Value} (h : CL w g [a, b, c, d]) :
    (w.cell? ⟨g, 0, none⟩ = some a ∧ w.cell? ⟨g, 1, none⟩ = some b ∧ w.cell? ⟨g, 2, none⟩ = some c ∧ w.cell? ⟨g, 3, none⟩ = some d) ∧
    w.frozen? ⟨g, 0, none⟩ = false ∧ w.frozen? ⟨g, 1, none⟩ = false ∧ w.frozen? ⟨g, 2, none⟩ = false ∧ w.frozen? ⟨g, 3, none⟩ = false :=
  ⟨⟨(h.at' 0 a rfl).1, (h.at' 1 b rfl).1, (h.at' 2 c rfl).1, (h.at' 3 d rfl).1⟩, (h.at' 0 a rfl).2, (h.at' 1 b rfl).2, (h.at' 2 c rfl).2, (h.at' 3 d rfl).2⟩

/-- the ints l can be read through the slice v, in blocks of which p is true -/
def Ri (p : Nat → Prop) (w : World) (v : Value) (l : List Int) : Prop :=
  ∃ (a : Option Addr) (cap : Nat), v = .slice a l.length cap ∧ l.length ≤ cap ∧ cap ≤ 9223372036854775807 ∧ (a = none → cap = 0) ∧
    ∀ i, i < l.length → ∃ b off : Nat, a = some ⟨b, off, none⟩ ∧ p b ∧ w.cell? ⟨b, off + i, none⟩ = some (.int .i64 (l.getD i 0))
theorem Ri.keep {p q : Nat → Prop} {w w' : World} {v : Value} {l : List Int} (h : Ri p w v l) (hk : ∀ b, p b → b < w.heap.size → q b ∧ ∀ o, w'.cell? ⟨b, o, none⟩ = w.cell? ⟨b, o, none⟩) : Ri q w' v l := by
  obtain ⟨a, cap, e, hl, hc, hn, H⟩ := h
  refine ⟨a, cap, e, hl, hc, hn, fun i hi => ?_⟩
  obtain ⟨b, off, ea, hp, hcell⟩ := H i hi
  obtain ⟨hq, ho⟩ := hk b hp (World.block_lt_of_cell? _ _ hcell)
  exact ⟨b, off, ea, hq, by rw [ho]; exact hcell⟩
theorem Ri.gr {p : Nat → Prop} {w w' : World} {v : Value} {l : List Int} (h : Ri p w v l) (g : Gr w w') : Ri p w' v l :=
  h.keep fun b hp hb => ⟨hp, fun o => (Gr.cells g).1 b o hb⟩
theorem Ri.imp {p q : Nat → Prop} {w : World} {v : Value} {l : List Int} (h : Ri p w v l) (hq : ∀ b, b < w.heap.size → p b → q b) : Ri q w v l :=
  h.keep fun b hp hb => ⟨hq b hb hp, fun o => rfl⟩
theorem Ri.nil (p : Nat → Prop) (w : World) : Ri p w (.slice none 0 0) [] := ⟨none, 0, rfl, by simp, by omega, fun _ => rfl, fun i hi => by simp at hi⟩
theorem Ri.form {p : Nat → Prop} {w : World} {v : Value} {l : List Int} (h : Ri p w v l) : ∃ a cap, v = .slice a l.length cap := by
  obtain ⟨a, cap, e, -⟩ := h
  exact ⟨a, cap, e⟩

/-- a route -/
structure Rt where
  a : Int
  n : Int
  nx : List Int
  bal : Int
/-- its prefix can be one -/
def Rt.ok (r : Rt) : Prop := 0 ≤ r.a ∧ r.a < 4294967296
/-- a route's cells, and the route as a value -/
def rcl (y : Rt × Value) : List Value := [.int .u32 y.1.a, .int .i64 y.1.n, y.2, .int .i64 y.1.bal]
def rtv (y : Rt × Value) : Value := .agg #[.int .u32 y.1.a, .int .i64 y.1.n, y.2, .int .i64 y.1.bal]
/-- four cells of a route -/
def RC (w : World) (b o : Nat) (y : Rt × Value) : Prop :=
  w.cell? ⟨b, o, none⟩ = some (.int .u32 y.1.a) ∧ w.cell? ⟨b, o + 1, none⟩ = some (.int .i64 y.1.n) ∧ w.cell? ⟨b, o + 2, none⟩ = some y.2 ∧ w.cell? ⟨b, o + 3, none⟩ = some (.int .i64 y.1.bal)
theorem RC.keep {w w' : World} {b o : Nat} {y : Rt × Value} (h : RC w b o y) (hk : ∀ o, w'.cell? ⟨b, o, none⟩ = w.cell? ⟨b, o, none⟩) : RC w' b o y :=
  ⟨by rw [hk]; exact h.1, by rw [hk]; exact h.2.1, by rw [hk]; exact h.2.2.1, by rw [hk]; exact h.2.2.2⟩
theorem RC.lt {w : World} {b o : Nat} {y : Rt × Value} (h : RC w b o y) : b < w.heap.size := World.block_lt_of_cell? _ _ h.1
/-- the routes ys can be read through the slice v -/
def Rx (p : Nat → Prop) (w : World) (v : Value) (ys : List (Rt × Value)) : Prop :=
  ∃ (a : Option Addr) (cap : Nat), v = .slice a ys.length cap ∧ ys.length ≤ cap ∧ cap ≤ 9223372036854775807 ∧ (a = none → cap = 0) ∧
    ∀ i y, ys[i]? = some y → ∃ b off : Nat, a = some ⟨b, off, none⟩ ∧ p b ∧ RC w b (off + i * 4) y
theorem Rx.keep {p q : Nat → Prop} {w w' : World} {v : Value} {ys : List (Rt × Value)} (h : Rx p w v ys) (hk : ∀ b, p b → b < w.heap.size → q b ∧ ∀ o, w'.cell? ⟨b, o, none⟩ = w.cell? ⟨b, o, none⟩) : Rx q w' v ys := by
  obtain ⟨a, cap, e, hl, hc, hn, H⟩ := h
  refine ⟨a, cap, e, hl, hc, hn, fun i y hi => ?_⟩
  obtain ⟨b, off, ea, hp, hcell⟩ := H i y hi
  obtain ⟨hq, ho⟩ := hk b hp hcell.lt
  exact ⟨b, off, ea, hq, hcell.keep ho⟩
/-- a table: routes and their next links can be read -/
def Tb (p : Nat → Prop) (w : World) (v : Value) (l : List Rt) : Prop :=
  ∃ ys : List (Rt × Value), ys.map Prod.fst = l ∧ Rx p w v ys ∧ ∀ y ∈ ys, y.1.ok ∧ Ri p w y.2 y.1.nx
theorem Tb.keep {p q : Nat → Prop} {w w' : World} {v : Value} {l : List Rt} (h : Tb p w v l) (hk : ∀ b, p b → b < w.heap.size → q b ∧ ∀ o, w'.cell? ⟨b, o, none⟩ = w.cell? ⟨b, o, none⟩) : Tb q w' v l := by
  obtain ⟨ys, e, hx, hy⟩ := h
  exact ⟨ys, e, hx.keep hk, fun y hm => ⟨(hy y hm).1, (hy y hm).2.keep hk⟩⟩
theorem Tb.gr {p : Nat → Prop} {w w' : World} {v : Value} {l : List Rt} (h : Tb p w v l) (g : Gr w w') : Tb p w' v l :=
  h.keep fun b hp hb => ⟨hp, fun o => (Gr.cells g).1 b o hb⟩
theorem Tb.ex {r : Nat} {p : Nat → Prop} {w w' : World} {v : Value} {l : List Rt} (h : Tb p w v l) (g : Ex r w w') (hr : ∀ b, p b → b ≠ r) : Tb p w' v l :=
  h.keep fun b hp hb => ⟨hp, fun o => g.cell b o (hr b hp) hb⟩
theorem Tb.imp {p q : Nat → Prop} {w : World} {v : Value} {l : List Rt} (h : Tb p w v l) (hq : ∀ b, b < w.heap.size → p b → q b) : Tb q w v l :=
  h.keep fun b hp hb => ⟨hq b hb hp, fun o => rfl⟩
theorem Tb.any {p : Nat → Prop} {w : World} {v : Value} {l : List Rt} (h : Tb p w v l) : Tb (fun _ => True) w v l := h.imp fun _ _ _ => trivial
theorem Tb.nil (p : Nat → Prop) (w : World) : Tb p w (.slice none 0 0) [] :=
  ⟨[], rfl, ⟨none, 0, rfl, by simp, by omega, fun _ => rfl, fun i y hi => by simp at hi⟩, fun y hy => by simp at hy⟩
theorem Tb.form {p : Nat → Prop} {w : World} {v : Value} {l : List Rt} (h : Tb p w v l) : ∃ a cap, v = .slice a l.length cap ∧ l.length ≤ cap ∧ cap ≤ 9223372036854775807 := by
  obtain ⟨ys, rfl, ⟨a, cap, e, hl, hc, -⟩, -⟩ := h
  exact ⟨a, cap, by simpa using e, by simpa using hl, hc⟩
/-- a route as a value -/
def Rv (p : Nat → Prop) (w : World) (v : Value) (r : Rt) : Prop := ∃ nv : Value, v = rtv (r, nv) ∧ r.ok ∧ Ri p w nv r.nx
theorem Rv.gr {p : Nat → Prop} {w w' : World} {v : Value} {r : Rt} (h : Rv p w v r) (g : Gr w w') : Rv p w' v r := by
  obtain ⟨nv, e, ho, hr⟩ := h
  exact ⟨nv, e, ho, hr.gr g⟩
theorem Rv.keep {p q : Nat → Prop} {w w' : World} {v : Value} {r : Rt} (h : Rv p w v r) (hk : ∀ b, p b → b < w.heap.size → q b ∧ ∀ o, w'.cell? ⟨b, o, none⟩ = w.cell? ⟨b, o, none⟩) : Rv q w' v r := by
  obtain ⟨nv, e, ho, hr⟩ := h
  exact ⟨nv, e, ho, hr.keep hk⟩
/-- the route at i of a table -/
theorem Tb.at' {p : Nat → Prop} {w : World} {a : Option Addr} {n cap : Nat} {l : List Rt} (h : Tb p w (.slice a n cap) l) {i : Nat} {r : Rt} (hi : l[i]? = some r) :
    ∃ (b off : Nat) (nv : Value), a = some ⟨b, off, none⟩ ∧ p b ∧ RC w b (off + i * 4) (r, nv) ∧ r.ok ∧ Ri p w nv r.nx := by
  obtain ⟨ys, rfl, ⟨a', cap', e, hl, hc, hn, H⟩, hy⟩ := h
  cases e
  rw [List.getElem?_map] at hi
  cases hys : ys[i]? with
  | none => rw [hys] at hi; cases hi
  | some y =>
    rw [hys] at hi
    obtain rfl := Option.some.inj hi
    obtain ⟨b, off, ea, hp, hcell⟩ := H i y hys
    obtain ⟨h1, h2⟩ := hy y (List.mem_of_getElem? hys)
    exact ⟨b, off, y.2, ea, hp, hcell, h1, h2⟩

/-- a table of the call's own, while it is built -/
def OwT (base : Nat) (w : World) (v : Value) (l : List Rt) : Prop :=
  ∃ ys : List (Rt × Value), ys.map Prod.fst = l ∧ w.ownsRow base 34 4 v ys.length (ys.flatMap rcl) ∧ ∀ y ∈ ys, y.1.ok ∧ Ri (fun b => base ≤ b ∧ v.ownBlock ≠ some b) w y.2 y.1.nx
theorem OwT.nil (base : Nat) (w : World) : OwT base w (.slice none 0 0) [] := ⟨[], rfl, World.ownsRow_nil _ _ _ _, fun y hy => by simp at hy⟩
theorem Gr.grownBy {w w' : World} (g : Gr w w') : w.grownBy w' none := ⟨Below.os g, Below.tape g, Below.output g, Below.size g, fun k hk _ => Below.block g k hk⟩
theorem Gr.grown {u v w : World} {row : Option Nat} (h : Gr u v) (g : v.grownBy w row) (hr : ∀ k, row = some k → u.heap.size ≤ k) : Gr u w :=
  ⟨g.os.trans (Below.os h), g.tape.trans (Below.tape h), g.output.trans (Below.output h), Nat.le_trans (Below.size h) g.size, fun j hj => (g.block j (Nat.lt_of_lt_of_le hj (Below.size h)) (fun hc => by have := hr j hc.symm; omega)).trans (Below.block h j hj)⟩
theorem grown_cell {w w' : World} {row : Option Nat} (g : w.grownBy w' row) {b : Nat} (hr : row ≠ some b) (hb : b < w.heap.size) (o : Nat) : w'.cell? ⟨b, o, none⟩ = w.cell? ⟨b, o, none⟩ :=
  World.cell?_of_block (g.block b hb (fun e => hr e.symm))
theorem OwT.gr {base : Nat} {w w' : World} {v : Value} {l : List Rt} (h : OwT base w v l) (g : Gr w w') : OwT base w' v l := by
  obtain ⟨ys, e, ho, hy⟩ := h
  exact ⟨ys, e, ho.kept (Gr.grownBy g) (Decidable.em _), fun y hm => ⟨(hy y hm).1, (hy y hm).2.gr g⟩⟩
theorem OwT.lt {base : Nat} {w : World} {v : Value} {l : List Rt} (h : OwT base w v l) : ∀ k, v.ownBlock = some k → base ≤ k ∧ k < w.heap.size := by
  obtain ⟨ys, e, ho, hy⟩ := h
  exact ho.lt
theorem rcl_at : ∀ (ys : List (Rt × Value)) (i : Nat) (y : Rt × Value), ys[i]? = some y → ∀ j, j < 4 → (ys.flatMap rcl)[i * 4 + j]? = (rcl y)[j]?
  | [], i, y, h, j, hj => by simp at h
  | x :: t, 0, y, h, j, hj => by
    simp at h; subst h
    rw [List.flatMap_cons, List.getElem?_append_left (by simp [rcl]; omega), Nat.zero_mul, Nat.zero_add]
  | x :: t, i + 1, y, h, j, hj => by
    rw [List.flatMap_cons, List.getElem?_append_right (by simp [rcl]; omega)]
    have e : (i + 1) * 4 + j - (rcl x).length = i * 4 + j := by simp [rcl]; omega
    rw [e]
    exact rcl_at t i y (by simpa using h) j hj
theorem rcl_len (ys : List (Rt × Value)) : (ys.flatMap rcl).length = ys.length * 4 := by
  induction ys with
  | nil => rfl
  | cons x t ih => rw [List.flatMap_cons, List.length_append, ih, List.length_cons]; simp [rcl]; omega
theorem OwT.tb {base : Nat} {w : World} {v : Value} {l : List Rt} (h : OwT base w v l) : Tb (fun b => base ≤ b) w v l := by
  obtain ⟨ys, e, ho, hy⟩ := h
  refine ⟨ys, e, ?_, fun y hm => ⟨(hy y hm).1, (hy y hm).2.imp fun _ _ hb => hb.1⟩⟩
  rcases ho.2 with ⟨rfl, h0⟩ | ⟨g, cap, cur, rfl, hg, hh, hn, hcap, hsz, htake⟩
  · have : ys = [] := List.eq_nil_of_length_eq_zero h0
    subst this
    exact ⟨none, 0, rfl, by simp, by omega, fun _ => rfl, fun i y hi => by simp at hi⟩
  · unfold maxLen at hcap
    refine ⟨_, cap, rfl, hn, by omega, (fun h => by cases h), fun i y hi => ⟨g, 0, rfl, hg, ?_⟩⟩
    have hil : i < ys.length := (List.getElem?_eq_some_iff.1 hi).1
    have H := fun j (hj : j < 4) => (ho.cellAt (i * 4 + j) (by omega)).trans (rcl_at ys i y hi j hj)
    have h0 := H 0 (by omega)
    have h1 := H 1 (by omega)
    have h2 := H 2 (by omega)
    have h3 := H 3 (by omega)
    rw [Nat.zero_add]
    exact ⟨h0, h1, h2, h3⟩
theorem routeInfo : ∃ i z, Try.prog.info? 34 = some i ∧ i.zero = some z ∧ i.size = 4 ∧ i.bytes = 48 ∧ z.cells.size = 4 := by
  have h : (match Try.prog.info? 34 with | some i => (match i.zero with | some z => i.size == 4 && i.bytes == 48 && z.cells.size == 4 | none => false) | none => false) = true := by kernel_rfl
  cases h1 : Try.prog.info? 34 with
  | none => rw [h1] at h; cases h
  | some i =>
    rw [h1] at h
    cases h2 : i.zero with
    | none => simp only [h2] at h; cases h
    | some z =>
      simp only [h2, Bool.and_eq_true, beq_iff_eq] at h
      exact ⟨i, z, rfl, h2, h.1.1, h.1.2, h.2⟩
theorem Ri.one {p : Nat → Prop} {w : World} {v : Value} {l : List Int} (h : Ri p w v l) : v.oneCell' = true := by
  obtain ⟨a, cap, e, -⟩ := h
  subst e; rfl
/-- append of one route, which lies in a new block, onto a table of the call's own -/
theorem wpList_addR {base : Nat} {w : World} {ops : Array Oper} {rest : List Oper} {o : Oper} {a : Act} {Q : Exit → Act → World → Prop} (hgd : o.guard = none) (s x : Operand)
    (ho : o.op = .call { callee := .builtin .append, args := #[s, x], argTypes := #[23, 23] }) {v : Value} {l : List Rt} {y : Rt × Value} {g : Nat}
    (hs : a.eval s = v) (hown : OwT base w v l) (hx : a.eval x = .slice (some ⟨g, 0, none⟩) 1 1) (hc : RC w g 0 y) (hok : y.1.ok) (hy : Ri (fun b => base ≤ b ∧ v.ownBlock ≠ some b) w y.2 y.1.nx) (hl : l.length ≤ 100000) (hbase : base ≤ w.heap.size)
    (h : ∀ v' w', OwT base w' v' (l ++ [y.1]) → w.grownBy w' v.ownBlock → wpList Try.prog ops Q rest (a.put o.dst v') w') : wpList Try.prog ops Q (o :: rest) a w := by
  obtain ⟨ti, tz, hi1, hi2, hi3, hi4, hi5⟩ := routeInfo
  obtain ⟨ys, rfl, hrow, hys⟩ := hown
  rw [List.length_map] at hl
  refine wpList_append_own_at w hgd s x 23 ho base 34 ti tz 4 48 Try.underlying23 hi1 hi2 hi3 hi4 hi5 (by decide) v ys.length (ys.flatMap rcl) hs hrow ⟨g, 0, none⟩ 1 1 (rcl y) hx rfl ?_ ?_ (by unfold maxLen; omega) (by omega) hbase ?_
  · intro j u hj
    rw [show (⟨g, 0, none⟩ : Addr).add j = ⟨g, j, none⟩ by unfold Addr.add; split <;> simp_all]
    match j, hj with
    | 0, hj => rw [← hj]; exact hc.1
    | 1, hj => rw [← hj]; exact hc.2.1
    | 2, hj => rw [← hj]; exact hc.2.2.1
    | 3, hj => rw [← hj]; exact hc.2.2.2
  · intro u hu
    simp only [rcl, List.mem_cons, List.not_mem_nil, or_false] at hu
    rcases hu with rfl | rfl | rfl | rfl
    · rfl
    · rfl
    · exact hy.one
    · rfl
  · intro v' w' h2 h3 _ h5
    refine h v' w' ⟨ys ++ [y], by simp, ?_, ?_⟩ h3
    · rw [List.length_append, List.flatMap_append]; simpa using h2
    · intro z hz
      have key : z.1.ok ∧ Ri (fun b => base ≤ b ∧ v.ownBlock ≠ some b) w z.2 z.1.nx := by
        rcases List.mem_append.1 hz with h | h
        · exact hys z h
        · rw [List.mem_singleton] at h; subst h; exact ⟨hok, hy⟩
      refine ⟨key.1, key.2.keep fun b hp hb => ⟨⟨hp.1, ?_⟩, fun o => grown_cell h3 hp.2 hb o⟩⟩
      rcases h5 with h5 | h5
      · rw [h5]; exact hp.2
      · rw [h5]; intro hc; have := Option.some.inj hc; omega
end Go.Proofs.Ytefocmcpeigfcaa
