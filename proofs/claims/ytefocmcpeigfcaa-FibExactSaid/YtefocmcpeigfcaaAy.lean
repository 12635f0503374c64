/- Tables appended to tables, a next link written into a table; a region with two orders. -/
import Derived.Test.YtefocmcpeigfcaaAq
import Derived.Test.YtefocmcpeigfcaaAw
import Derived.WalkKit
import Derived.WalkSpells
import Derived.WalkLawsBesides
import Derived.WalkSmall
import Derived.Handy
import Derived.BigQuiet
import Derived.Deep.QuietTactic
import Derived.Deep.RegionHeld3
import Derived.Deep.DeepFit
import Derived.Below
import Derived.Lib.Hide
import Derived.Lib.QuietBelow
import Derived.Maps.AppendAt
import Derived.Laws.OwnMore
namespace Go.Proofs.Ytefocmcpeigfcaa
open Go Go.RowKit Go.Sort
set_option maxRecDepth 100000
set_option linter.unusedVariables false
theorem rcl_inv {ys : List (Rt × Value)} {j : Nat} {u : Value} (h : (ys.flatMap rcl)[j]? = some u) : ∃ y, ys[j / 4]? = some y ∧ (rcl y)[j % 4]? = some u := by
  have hj := (List.getElem?_eq_some_iff.1 h).1
  rw [rcl_len] at hj
  obtain ⟨y, hy⟩ : ∃ y, ys[j / 4]? = some y := ⟨_, List.getElem?_eq_getElem (by omega)⟩
  refine ⟨y, hy, ?_⟩
  rw [← rcl_at ys (j / 4) y hy (j % 4) (by omega), show j / 4 * 4 + j % 4 = j by omega]
  exact h
theorem run_addT {base : Nat} {q : Nat → Prop} {w : World} {ty : TypeId} {v xv : Value} {l m : List Rt} (hown : OwT base w v l) (hT : Tb q w xv m) (hq : ∀ b, q b → base ≤ b ∧ v.ownBlock ≠ some b) (h63 : l.length + m.length ≤ 100000) (hbase : base ≤ w.heap.size) :
    ∃ v' w', (Builtin.append_ #[23, 23] ty #[v, xv]).run Try.prog w = .ok v' w' ∧ OwT base w' v' (l ++ m) ∧ w.grownBy w' v.ownBlock ∧ (v'.ownBlock = v.ownBlock ∨ v'.ownBlock = some w.heap.size) := by
  obtain ⟨ti, tz, hi1, hi2, hi3, hi4, hi5⟩ := routeInfo
  obtain ⟨ys, rfl, ho, hy⟩ := hown
  obtain ⟨zs, rfl, ⟨ad, cap, rfl, hl, hc, hn, H⟩, hz⟩ := hT
  rw [List.length_map, List.length_map] at h63
  cases ad with
  | none =>
    have h0 := hn rfl
    subst h0
    have hz0 : zs = [] := List.eq_nil_of_length_eq_zero (by omega)
    subst hz0
    have hrun := run_append_owned_none (P := Try.prog) w base 23 ty 34 ti 4 Try.underlying23 hi1 v ys.length (ys.flatMap rcl) ho
    exact ⟨v, w, hrun, ⟨ys, by simp, ho, hy⟩, ⟨rfl, rfl, rfl, Nat.le_refl _, fun _ _ _ => rfl⟩, .inl rfl⟩
  | some ad =>
    have hone : ∀ u ∈ zs.flatMap rcl, u.oneCell' = true := by
      intro u hu
      rw [List.mem_flatMap] at hu
      obtain ⟨y, hy1, hy2⟩ := hu
      simp only [rcl, List.mem_cons, List.not_mem_nil, or_false] at hy2
      rcases hy2 with rfl | rfl | rfl | rfl
      · rfl
      · rfl
      · exact (hz y hy1).2.one
      · rfl
    obtain ⟨v', w', hrn, h2, h3, -, h5⟩ := run_append_own_at (P := Try.prog) w base 23 ty 34 ti tz 4 48 Try.underlying23 hi1 hi2 hi3 hi4 hi5 (by decide) v ys.length (ys.flatMap rcl) ho ad zs.length cap (zs.flatMap rcl) (rcl_len zs) (by
      intro j u hj
      obtain ⟨y, hy1, hy2⟩ := rcl_inv hj
      obtain ⟨b, off, e, -, c0, c1, c2, c3⟩ := H (j / 4) y hy1
      cases e
      rw [show (⟨b, off, none⟩ : Addr).add j = ⟨b, off + j, none⟩ by unfold Addr.add; split <;> simp_all]
      have hm : j % 4 < 4 := by omega
      have ej : off + j = off + j / 4 * 4 + j % 4 := by omega
      rw [ej]
      have hcase : j % 4 = 0 ∨ j % 4 = 1 ∨ j % 4 = 2 ∨ j % 4 = 3 := by omega
      rcases hcase with e | e | e | e <;> rw [e] at hy2 ⊢
      · rw [← hy2]; exact c0
      · rw [← hy2]; exact c1
      · rw [← hy2]; exact c2
      · rw [← hy2]; exact c3) hone (by unfold maxLen; omega) (by omega) hbase
    refine ⟨v', w', hrn, ⟨ys ++ zs, by simp, by rw [List.length_append, List.flatMap_append]; exact h2, fun y hm => ?_⟩, h3, h5⟩
    have key : y.1.ok ∧ Ri (fun b => base ≤ b ∧ v.ownBlock ≠ some b) w y.2 y.1.nx := by
      rcases List.mem_append.1 hm with h | h
      · exact hy y h
      · exact ⟨(hz y h).1, (hz y h).2.imp fun b _ hb => hq b hb⟩
    refine ⟨key.1, key.2.keep fun b hp hb => ⟨⟨hp.1, ?_⟩, fun o => grown_cell h3 hp.2 hb o⟩⟩
    rcases h5 with h5 | h5
    · rw [h5]; exact hp.2
    · rw [h5]; intro hc; have := Option.some.inj hc; omega
theorem oper_addT {base : Nat} {q : Nat → Prop} {w : World} {o : Oper} {a : Act} {Q : Exit → Act → World → Prop} {K : Act → World → Prop} (s x : Operand)
    (ho : o.op = .call { callee := .builtin .append, args := #[s, x], argTypes := #[23, 23] }) {v xv : Value} {l m : List Rt}
    (hs : a.eval s = v) (hown : OwT base w v l) (hx : a.eval x = xv) (hT : Tb q w xv m) (hq : ∀ b, q b → base ≤ b ∧ v.ownBlock ≠ some b) (h63 : l.length + m.length ≤ 100000) (hbase : base ≤ w.heap.size)
    (h : ∀ v' w', OwT base w' v' (l ++ m) → w.grownBy w' v.ownBlock → (v'.ownBlock = v.ownBlock ∨ v'.ownBlock = some w.heap.size) → K (a.put o.dst v') w') : o.wp Try.prog a w K Q := by
  obtain ⟨v', w', hrn, h2, h3, h5⟩ := run_addT (ty := o.type) hown hT hq h63 hbase
  have hk := h v' w' h2 h3 h5
  unfold Oper.wp execOp
  simp only [ho, resolve, invoke, builtin, Sem.run_bind, Sem.run_pure, Result.andThen_ok, List.map_toArray, List.map_cons, List.map_nil, hs, hx, hrn]
  exact hk
theorem region_cut3v {P : Program} {c : Code} {Q : Exit → Act → World → Prop} {a : Act} {w : World} (aF : Value → Value → Value → Act) (R : Value → World → Prop)
    (h : c.wp P (fun e a' w' => e = .normal ∧ ∃ x y z, a' = aF x y z ∧ R z w') a w) (k : ∀ x y z w', R z w' → Q .normal (aF x y z) w') : c.wp P Q a w := by
  refine Code.wp_mono (fun e a' w' h' => ?_) h
  obtain ⟨he, x, y, z, ha, hr⟩ := h'
  rw [he, ha]
  exact k x y z _ hr
theorem OwT.row {base : Nat} {w : World} {v : Value} {l : List Rt} (h : OwT base w v l) (hl : 0 < l.length) : ∃ g cap, v = .slice (some ⟨g, 0, none⟩) l.length cap ∧ base ≤ g ∧ g < w.heap.size ∧ l.length ≤ cap := by
  have hlt := h.lt
  obtain ⟨ys, rfl, ho, -⟩ := h
  rw [List.length_map] at hl ⊢
  rcases ho.2 with ⟨_, h0⟩ | ⟨g, cap, cur, hv, hg, hh, hc, _⟩
  · omega
  · exact ⟨g, cap, hv, hg, (hlt g (by rw [hv]; rfl)).2, hc⟩
/-- other next links written into a table -/
theorem OwT.setNx {base : Nat} {w : World} {g n cap : Nat} {l : List Rt} (h : OwT base w (.slice (some ⟨g, 0, none⟩) n cap) l) {i : Nat} {r : Rt} (hi : l[i]? = some r) (nv : Value) (nx : List Int) (hn : Ri (fun b => b ≠ g) w nv nx) :
    Tb (fun _ => True) (w.setCell ⟨g, i * 4 + 2, none⟩ nv) (.slice (some ⟨g, 0, none⟩) n cap) (l.set i ⟨r.a, r.n, nx, r.bal⟩) := by
  obtain ⟨ys, rfl, ho, hy⟩ := h
  have hcells : ∀ (j : Nat) (y : Rt × Value), ys[j]? = some y → RC w g (j * 4) y := by
    intro j y hj
    have hjl : j < ys.length := (List.getElem?_eq_some_iff.1 hj).1
    have hn : n = ys.length := by
      rcases ho.2 with ⟨e, _⟩ | ⟨g', cap', cur, e, _⟩
      · cases e
      · cases e; rfl
    subst hn
    have H := fun t (ht : t < 4) => (ho.cellAt (j * 4 + t) (by omega)).trans (rcl_at ys j y hj t ht)
    exact ⟨H 0 (by omega), H 1 (by omega), H 2 (by omega), H 3 (by omega)⟩
  have hform : n = ys.length ∧ n ≤ cap ∧ cap ≤ 9223372036854775807 := by
    rcases ho.2 with ⟨e, _⟩ | ⟨g', cap', cur, e, _, _, h4, h5, _⟩
    · cases e
    · cases e; unfold maxLen at h5; exact ⟨rfl, h4, by omega⟩
  rw [List.getElem?_map] at hi
  cases hyi : ys[i]? with
  | none => rw [hyi] at hi; cases hi
  | some y0 =>
    rw [hyi] at hi
    have hr : y0.1 = r := Option.some.inj hi
    have hil : i < ys.length := (List.getElem?_eq_some_iff.1 hyi).1
    refine ⟨ys.set i (⟨r.a, r.n, nx, r.bal⟩, nv), by rw [List.map_set], ⟨_, cap, by rw [List.length_set, hform.1], by rw [List.length_set]; omega, hform.2.2, (fun h => by cases h), fun j y hj => ⟨g, 0, rfl, trivial, ?_⟩⟩, fun y hm => ?_⟩
    · rw [Nat.zero_add]
      by_cases e : i = j
      · subst e
        rw [List.getElem?_set_self hil] at hj
        cases hj
        have hc := hcells i y0 hyi
        subst hr
        refine ⟨?_, ?_, ?_, ?_⟩
        · rw [World.cell?_setCell_other _ _ _ _ (by intro k; injection k; omega)]; exact hc.1
        · rw [World.cell?_setCell_other _ _ _ _ (by intro k; injection k; omega)]; exact hc.2.1
        · exact World.cell?_setCell_same' _ _ _ (by rw [hc.2.2.1]; rfl)
        · rw [World.cell?_setCell_other _ _ _ _ (by intro k; injection k; omega)]; exact hc.2.2.2
      · rw [List.getElem?_set_ne e] at hj
        have hc := hcells j y hj
        refine ⟨?_, ?_, ?_, ?_⟩
        · rw [World.cell?_setCell_other _ _ _ _ (by intro k; injection k; omega)]; exact hc.1
        · rw [World.cell?_setCell_other _ _ _ _ (by intro k; injection k; omega)]; exact hc.2.1
        · rw [World.cell?_setCell_other _ _ _ _ (by intro k; injection k; omega)]; exact hc.2.2.1
        · rw [World.cell?_setCell_other _ _ _ _ (by intro k; injection k; omega)]; exact hc.2.2.2
    · rcases List.mem_or_eq_of_mem_set hm with h | h
      · refine ⟨(hy y h).1, (hy y h).2.keep fun b hb _ => ⟨trivial, fun o => far_cell (fun e => hb.2 (by rw [e]; rfl)) _ _ _⟩⟩
      · subst h
        refine ⟨?_, hn.keep fun b hb _ => ⟨trivial, fun o => far_cell hb _ _ _⟩⟩
        have := (hy y0 (List.mem_of_getElem? hyi)).1
        rw [hr] at this
        exact this
end Go.Proofs.Ytefocmcpeigfcaa
