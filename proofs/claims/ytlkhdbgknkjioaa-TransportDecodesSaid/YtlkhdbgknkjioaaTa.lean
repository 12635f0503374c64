/- An append of bytes in a region that draws its order. -/
import Derived.Test.YtlkhdbgknkjioaaWb
import Derived.WalkKit
import Derived.WalkSpells
import Derived.WalkLawsBesides
import Derived.WalkSmall
import Derived.Handy
import Derived.BigQuiet
import Derived.Deep.QuietTactic
import Derived.Deep.RegionHeld3
import Derived.Deep.DeepFit
import Derived.Below
import Derived.Lib.Hide
import Derived.Lib.QuietBelow
namespace Go.Proofs.Ytlkhdbgknkjioaa
open Go Go.RowKit Go.Sort
set_option maxRecDepth 100000
set_option linter.unusedVariables false
theorem run_app {base : Nat} {p : Nat → Prop} {w : World} {ty : TypeId} {v xv : Value} {l m : List Nat} (hown : OwB base w v l) (hr : Rb p w xv m) (h63 : l.length + m.length ≤ 100000) (hbase : base ≤ w.heap.size) :
    ∃ v' w', (Builtin.append_ #[22, 22] ty #[v, xv]).run Try.prog w = .ok v' w' ∧ OwB base w' v' (l ++ m) ∧ w.grownBy w' v.ownBlock := by
  obtain ⟨i, hi1, hi2, hi3, hi4⟩ := byteInfoB
  obtain ⟨ad, cap, rfl, hl, hc, hn, hb, H⟩ := hr
  have hlt : ∀ y ∈ l ++ m, y < 256 := fun y hy => (List.mem_append.1 hy).elim (hown.2 y) (hb y)
  cases ad with
  | none =>
    have hm : m = [] := by
      cases m with
      | nil => rfl
      | cons y t => obtain ⟨b, off, e, _⟩ := H 0 (by simp); cases e
    subst hm
    obtain rfl := hn rfl
    have hrun := run_append_owned_none (P := Try.prog) w base 22 ty 5 i 1 Try.underlying22 hi1 v l.length (cellsB l) hown.1
    exact ⟨v, w, hrun, by rw [List.append_nil]; exact hown, ⟨rfl, rfl, rfl, Nat.le_refl _, fun _ _ _ => rfl⟩⟩
  | some ad =>
    obtain ⟨v', w', hrn, h2, h3, -, -⟩ := run_append_own_at (P := Try.prog) w base 22 ty 5 i (.int .u8 0) 1 1 Try.underlying22 hi1 hi2 hi3 hi4 rfl (by decide) v l.length (cellsB l) hown.1 ad m.length cap (cellsB m) (by rw [cellsB_len, Nat.mul_one]) (by
      intro j u hj
      have hjm : j < m.length := by
        rcases Nat.lt_or_ge j m.length with h | h
        · exact h
        · rw [List.getElem?_eq_none (by rw [cellsB_len]; exact h)] at hj; cases hj
      rw [cellsB_at m hjm] at hj
      obtain rfl := Option.some.inj hj
      obtain ⟨b, off, e, _, hcell⟩ := H j hjm
      cases e
      rw [show (⟨b, off, none⟩ : Addr).add j = ⟨b, off + j, none⟩ by unfold Addr.add; split <;> simp_all]
      exact hcell) (cellsB_one m) (by unfold maxLen; omega) (by omega) hbase
    refine ⟨v', w', hrn, ⟨?_, hlt⟩, h3⟩
    rw [List.length_append, cellsB_append]
    exact h2
theorem oper_app {base : Nat} {p : Nat → Prop} {w : World} {o : Oper} {a : Act} {Q : Exit → Act → World → Prop} {K : Act → World → Prop} (s x : Operand)
    (ho : o.op = .call { callee := .builtin .append, args := #[s, x], argTypes := #[22, 22] }) {v xv : Value} {l m : List Nat}
    (hs : a.eval s = v) (hown : OwB base w v l) (hx : a.eval x = xv) (hr : Rb p w xv m) (h63 : l.length + m.length ≤ 100000) (hbase : base ≤ w.heap.size)
    (h : ∀ v' w', OwB base w' v' (l ++ m) → w.grownBy w' v.ownBlock → K (a.put o.dst v') w') : o.wp Try.prog a w K Q := by
  obtain ⟨v', w', hrn, h2, h3⟩ := run_app (ty := o.type) hown hr h63 hbase
  have hk := h v' w' h2 h3
  unfold Oper.wp execOp
  simp only [ho, resolve, invoke, builtin, Sem.run_bind, Sem.run_pure, Result.andThen_ok, List.map_toArray, List.map_cons, List.map_nil, hs, hx, hrn]
  exact hk
end Go.Proofs.Ytlkhdbgknkjioaa
