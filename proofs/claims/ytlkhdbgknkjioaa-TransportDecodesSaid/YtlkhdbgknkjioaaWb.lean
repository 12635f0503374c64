/- Bytes in memory: slices that read as lists; append. -/
import Derived.Test.YtlkhdbgknkjioaaGr
import Derived.Test.YtlkhdbgknkjioaaWm
import Derived.WalkKit
import Derived.WalkSpells
import Derived.WalkLawsBesides
import Derived.WalkSmall
import Derived.Handy
import Derived.BigQuiet
import Derived.Deep.QuietTactic
import Derived.Deep.RegionHeld3
import Derived.Deep.DeepFit
import Derived.Below
import Derived.Lib.Hide
import Derived.Lib.QuietBelow
import Derived.Maps.AppendAt
import Derived.Laws.OwnMore
namespace Go.Proofs.Ytlkhdbgknkjioaa
open Go Go.RowKit Go.Sort
set_option maxRecDepth 100000
set_option linter.unusedVariables false

/-- the bytes l can be read through the slice v, in blocks of which p is true -/
def Rb (p : Nat → Prop) (w : World) (v : Value) (l : List Nat) : Prop :=
  ∃ (a : Option Addr) (cap : Nat), v = .slice a l.length cap ∧ l.length ≤ cap ∧ cap ≤ 9223372036854775807 ∧ (a = none → cap = 0) ∧ (∀ x ∈ l, x < 256) ∧
    ∀ i, i < l.length → ∃ b off : Nat, a = some ⟨b, off, none⟩ ∧ p b ∧ w.cell? ⟨b, off + i, none⟩ = some (.int .u8 (l.getD i 0 : Nat))
theorem Rb.imp {p q : Nat → Prop} {w : World} {v : Value} {l : List Nat} (h : Rb p w v l) (hpq : ∀ b, b < w.heap.size → p b → q b) : Rb q w v l := by
  obtain ⟨a, cap, e, hl, hc, hn, hx, H⟩ := h
  exact ⟨a, cap, e, hl, hc, hn, hx, fun i hi => by
    obtain ⟨b, off, ea, hp, hcell⟩ := H i hi
    exact ⟨b, off, ea, hpq b (World.block_lt_of_cell? _ _ hcell) hp, hcell⟩⟩
theorem Rb.any {p : Nat → Prop} {w : World} {v : Value} {l : List Nat} (h : Rb p w v l) : Rb (fun _ => True) w v l := h.imp fun _ _ _ => trivial
theorem Rb.gr {p : Nat → Prop} {w w' : World} {v : Value} {l : List Nat} (h : Rb p w v l) (g : Gr w w') : Rb p w' v l := by
  obtain ⟨a, cap, e, hl, hc, hn, hx, H⟩ := h
  exact ⟨a, cap, e, hl, hc, hn, hx, fun i hi => by
    obtain ⟨b, off, ea, hp, hcell⟩ := H i hi
    exact ⟨b, off, ea, hp, by rw [(Gr.cells g).1 _ _ (World.block_lt_of_cell? _ _ hcell)]; exact hcell⟩⟩
theorem Rb.ex {r : Nat} {p : Nat → Prop} {w w' : World} {v : Value} {l : List Nat} (h : Rb p w v l) (g : Ex r w w') (hr : ∀ b, p b → b ≠ r) : Rb p w' v l := by
  obtain ⟨a, cap, e, hl, hc, hn, hx, H⟩ := h
  exact ⟨a, cap, e, hl, hc, hn, hx, fun i hi => by
    obtain ⟨b, off, ea, hp, hcell⟩ := H i hi
    exact ⟨b, off, ea, hp, by rw [g.cell _ _ (hr _ hp) (World.block_lt_of_cell? _ _ hcell)]; exact hcell⟩⟩
theorem Rb.nil (p : Nat → Prop) (w : World) : Rb p w (.slice none 0 0) [] := ⟨none, 0, rfl, by simp, by omega, fun _ => rfl, fun _ h => by simp at h, fun i hi => by simp at hi⟩
theorem Rb.bytes {p : Nat → Prop} {w : World} {v : Value} {l : List Nat} (h : Rb p w v l) : ∀ x ∈ l, x < 256 := by
  obtain ⟨a, cap, e, hl, hc, hn, hx, H⟩ := h
  exact hx
theorem Rb.form {p : Nat → Prop} {w : World} {v : Value} {l : List Nat} (h : Rb p w v l) : ∃ a cap, v = .slice a l.length cap ∧ l.length ≤ cap ∧ cap ≤ 9223372036854775807 := by
  obtain ⟨a, cap, e, hl, hc, hn, hx, H⟩ := h
  exact ⟨a, cap, e, hl, hc⟩
theorem Rb.at' {p : Nat → Prop} {w : World} {a : Option Addr} {n cap : Nat} {l : List Nat} (h : Rb p w (.slice a n cap) l) {i : Nat} (hi : i < l.length) : ∃ b off : Nat, a = some ⟨b, off, none⟩ ∧ p b ∧ w.cell? ⟨b, off + i, none⟩ = some (.int .u8 (l.getD i 0 : Nat)) := by
  obtain ⟨a', cap', e, hl, hc, hn, hx, H⟩ := h
  cases e
  exact H i hi
theorem Rb.take {p : Nat → Prop} {w : World} {a : Option Addr} {n cap : Nat} {l : List Nat} (h : Rb p w (.slice a n cap) l) {k : Nat} (hk : k ≤ l.length) : Rb p w (.slice a k cap) (l.take k) := by
  obtain ⟨a', cap', e, hl, hc, hn, hx, H⟩ := h
  cases e
  have e : (l.take k).length = k := by simp; omega
  refine ⟨a, cap, by rw [e], by omega, hc, hn, fun x hm => hx x (List.mem_of_mem_take hm), fun i hi => ?_⟩
  rw [e] at hi
  obtain ⟨b, off, ea, hp, hcell⟩ := H i (by omega)
  refine ⟨b, off, ea, hp, ?_⟩
  rw [hcell, List.getD_eq_getElem?_getD, List.getD_eq_getElem?_getD, List.getElem?_take_of_lt hi]
/-- a part from k on, not empty -/
theorem Rb.part {p : Nat → Prop} {w : World} {b off n cap : Nat} {l : List Nat} (h : Rb p w (.slice (some ⟨b, off, none⟩) n cap) l) {k m : Nat} (hk : k + m ≤ l.length) : Rb p w (.slice (some ⟨b, off + k, none⟩) m (cap - k)) ((l.drop k).take m) := by
  obtain ⟨a', cap', e, hl, hc, hn, hx, H⟩ := h
  cases e
  have e : ((l.drop k).take m).length = m := by simp; omega
  refine ⟨_, cap - k, by rw [e], by omega, by omega, (fun h => by cases h), fun x hm => hx x (List.mem_of_mem_drop (List.mem_of_mem_take hm)), fun i hi => ?_⟩
  rw [e] at hi
  obtain ⟨b', off', ea, hp, hcell⟩ := H (k + i) (by omega)
  cases ea
  refine ⟨_, _, rfl, hp, ?_⟩
  rw [Nat.add_assoc, hcell, List.getD_eq_getElem?_getD, List.getD_eq_getElem?_getD, List.getElem?_take_of_lt hi, List.getElem?_drop]
/-- bytes as cells -/
def cellsB (l : List Nat) : List Value := l.map fun x : Nat => Value.int .u8 (x : Int)
theorem cellsB_len (l : List Nat) : (cellsB l).length = l.length := by simp [cellsB]
theorem cellsB_append (l m : List Nat) : cellsB (l ++ m) = cellsB l ++ cellsB m := by simp [cellsB]
theorem cellsB_at (l : List Nat) {i : Nat} (h : i < l.length) : (cellsB l)[i]? = some (.int .u8 (l.getD i 0 : Nat)) := by
  simp [cellsB, List.getD_eq_getElem?_getD, List.getElem?_eq_getElem h]
theorem cellsB_one (l : List Nat) : ∀ u ∈ cellsB l, u.oneCell' = true := by
  intro u hu
  rw [cellsB, List.mem_map] at hu
  obtain ⟨n, -, rfl⟩ := hu
  rfl
theorem cellsB_set (l : List Nat) (i x : Nat) (y : Int) (hy : y = (x : Int)) : (cellsB l).set i (.int .u8 y) = cellsB (l.set i x) := by
  subst hy; simp [cellsB, List.map_set]
/-- a row of the call's own -/
def OwB (base : Nat) (w : World) (v : Value) (l : List Nat) : Prop := w.ownsRow base 5 1 v l.length (cellsB l) ∧ ∀ x ∈ l, x < 256
theorem OwB.nil (base : Nat) (w : World) : OwB base w (.slice none 0 0) [] := ⟨World.ownsRow_nil _ _ _ _, fun _ h => by simp at h⟩
theorem OwB.rb {base : Nat} {w : World} {v : Value} {l : List Nat} (h : OwB base w v l) : Rb (fun b => base ≤ b) w v l := by
  obtain ⟨h1, h2⟩ := h
  rcases h1.2 with ⟨rfl, h0⟩ | ⟨g, cap, cur, rfl, hg, hh, hn, hcap, hsz, htake⟩
  · have : l = [] := List.eq_nil_of_length_eq_zero h0
    subst this
    exact Rb.nil _ _
  · unfold maxLen at hcap
    refine ⟨_, cap, rfl, hn, by omega, (fun h => by cases h), h2, fun i hi => ⟨g, 0, rfl, hg, ?_⟩⟩
    rw [Nat.zero_add, h1.cellAt i (by omega), cellsB_at l hi]
theorem OwB.form {base : Nat} {w : World} {v : Value} {l : List Nat} (h : OwB base w v l) (hl : 0 < l.length) : ∃ g cap, v = .slice (some ⟨g, 0, none⟩) l.length cap ∧ base ≤ g ∧ g < w.heap.size ∧ l.length ≤ cap := by
  rcases h.1.2 with ⟨_, h0⟩ | ⟨g, cap, cur, hv, hg, hh, hc, _⟩
  · omega
  · refine ⟨g, cap, hv, hg, ?_, hc⟩
    rcases Nat.lt_or_ge g w.heap.size with h | h
    · exact h
    · rw [Array.getElem?_eq_none h] at hh; cases hh
theorem OwB.grow {base : Nat} {w w' : World} {v : Value} {l : List Nat} {row : Option Nat} (h : OwB base w v l) (g : w.grownBy w' row) (hr : v.ownBlock = none ∨ v.ownBlock ≠ row) : OwB base w' v l := ⟨World.ownsRow.kept h.1 g hr, h.2⟩
theorem Gr.grownBy {w w' : World} (g : Gr w w') : w.grownBy w' none := ⟨Below.os g, Below.tape g, Below.output g, Below.size g, fun k hk _ => Below.block g k hk⟩
theorem OwB.gr {base : Nat} {w w' : World} {v : Value} {l : List Nat} (h : OwB base w v l) (g : Gr w w') : OwB base w' v l := by
  refine h.grow (Gr.grownBy g) ?_
  cases hv : v.ownBlock with
  | none => exact .inl rfl
  | some k => exact .inr (by simp)
/-- a stretch that writes new blocks alone -/
theorem Gr.grownNew {u v w : World} {row : Option Nat} (h : Gr u v) (g : v.grownBy w row) (hr : ∀ k, row = some k → u.heap.size ≤ k) : Gr u w :=
  ⟨g.os.trans (Below.os h), g.tape.trans (Below.tape h), g.output.trans (Below.output h), Nat.le_trans (Below.size h) g.size, fun j hj => (g.block j (Nat.lt_of_lt_of_le hj (Below.size h)) (fun hc => by have := hr j hc.symm; omega)).trans (Below.block h j hj)⟩
theorem OwB.above {base : Nat} {w : World} {v : Value} {l : List Nat} (h : OwB base w v l) : ∀ k, v.ownBlock = some k → base ≤ k := by
  intro k hk
  rcases h.1.2 with ⟨rfl, h0⟩ | ⟨g, cap, cur, rfl, hg, _⟩
  · cases hk
  · simp [Value.ownBlock] at hk; omega
theorem byteInfoB : ∃ i, Try.prog.info? 5 = some i ∧ i.zero = some (.int .u8 0) ∧ i.size = 1 ∧ i.bytes = 1 := by
  have h : (match Try.prog.info? 5 with | some i => (match i.zero with | some (.int .u8 0) => i.size == 1 && i.bytes == 1 | _ => false) | none => false) = true := by kernel_rfl
  cases h1 : Try.prog.info? 5 with
  | none => rw [h1] at h; cases h
  | some i =>
    rw [h1] at h
    simp only at h
    split at h
    · next h2 =>
      simp only [Bool.and_eq_true, beq_iff_eq] at h
      exact ⟨i, rfl, h2, h.1, h.2⟩
    · cases h
/-- append of bytes that can be read, nil or not, onto a row of the call's own -/
theorem wpList_app {base : Nat} {p : Nat → Prop} {w : World} {ops : Array Oper} {rest : List Oper} {o : Oper} {a : Act} {Q : Exit → Act → World → Prop} (hgd : o.guard = none) (s x : Operand)
    (ho : o.op = .call { callee := .builtin .append, args := #[s, x], argTypes := #[22, 22] }) {v xv : Value} {l m : List Nat}
    (hs : a.eval s = v) (hown : OwB base w v l) (hx : a.eval x = xv) (hr : Rb p w xv m) (h63 : l.length + m.length ≤ 100000) (hbase : base ≤ w.heap.size)
    (h : ∀ v' w', OwB base w' v' (l ++ m) → w.grownBy w' v.ownBlock → wpList Try.prog ops Q rest (a.put o.dst v') w') : wpList Try.prog ops Q (o :: rest) a w := by
  obtain ⟨i, hi1, hi2, hi3, hi4⟩ := byteInfoB
  obtain ⟨ad, cap, rfl, hl, hc, hn, hb, H⟩ := hr
  have hlt : ∀ y ∈ l ++ m, y < 256 := fun y hy => (List.mem_append.1 hy).elim (hown.2 y) (hb y)
  cases ad with
  | none =>
    have hm : m = [] := by
      cases m with
      | nil => rfl
      | cons y t => obtain ⟨b, off, e, _⟩ := H 0 (by simp); cases e
    subst hm
    obtain rfl := hn rfl
    refine wpList_plain hgd fun K hK => ?_
    have hrun := run_append_owned_none (P := Try.prog) w base 22 o.type 5 i 1 Try.underlying22 hi1 v l.length (cellsB l) hown.1
    unfold Oper.wp execOp
    simp only [ho, resolve, invoke, builtin, Sem.run_bind, Sem.run_pure, Result.andThen_ok, List.map_toArray, List.map_cons, List.map_nil, hs, hx, List.length_nil, hrun]
    exact hK _ _ (h v w (by rw [List.append_nil]; exact hown) ⟨rfl, rfl, rfl, Nat.le_refl _, fun _ _ _ => rfl⟩)
  | some ad =>
    refine wpList_append_own_at w hgd s x 22 ho base 5 i (.int .u8 0) 1 1 Try.underlying22 hi1 hi2 hi3 hi4 rfl (by decide) v l.length (cellsB l) hs hown.1 ad m.length cap (cellsB m) hx (by rw [cellsB_len, Nat.mul_one]) ?_ (cellsB_one m) (by unfold maxLen; omega) (by omega) hbase ?_
    · intro j u hj
      have hjm : j < m.length := by
        rcases Nat.lt_or_ge j m.length with h | h
        · exact h
        · rw [List.getElem?_eq_none (by rw [cellsB_len]; exact h)] at hj; cases hj
      rw [cellsB_at m hjm] at hj
      obtain rfl := Option.some.inj hj
      obtain ⟨b, off, e, _, hcell⟩ := H j hjm
      cases e
      rw [show (⟨b, off, none⟩ : Addr).add j = ⟨b, off + j, none⟩ by unfold Addr.add; split <;> simp_all]
      exact hcell
    · intro v' w' h2 h3 _ _
      refine h v' w' ⟨?_, hlt⟩ h3
      rw [List.length_append, cellsB_append]
      exact h2
end Go.Proofs.Ytlkhdbgknkjioaa
