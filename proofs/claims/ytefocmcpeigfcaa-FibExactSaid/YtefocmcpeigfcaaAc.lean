/- A route's copy: slices.Clone of ints, own, and the document's copied. -/
import Derived.Test.YtefocmcpeigfcaaAb
import Derived.WalkKit
import Derived.WalkSpells
import Derived.WalkLawsBesides
import Derived.WalkSmall
import Derived.Handy
import Derived.BigQuiet
import Derived.Deep.QuietTactic
import Derived.Deep.RegionHeld3
import Derived.Deep.DeepFit
import Derived.Below
import Derived.Lib.Hide
import Derived.Lib.QuietBelow
import Derived.Deep.DeepCutAuto
namespace Go.Proofs.Ytefocmcpeigfcaa
open Go Go.RowKit Go.Sort
set_option maxRecDepth 100000
set_option linter.unusedVariables false
def iv (x : Int) : Value := .int .i64 x
/-- ints of the call's own -/
def OwI (base : Nat) (w : World) (v : Value) (l : List Int) : Prop := w.ownsRow base 3 1 v l.length (l.map iv)
theorem OwI.nil (base : Nat) (w : World) : OwI base w (.slice none 0 0) [] := World.ownsRow_nil _ _ _ _
theorem OwI.gr {base : Nat} {w w' : World} {v : Value} {l : List Int} (h : OwI base w v l) (g : Gr w w') : OwI base w' v l := World.ownsRow.kept h (Gr.grownBy g) (Decidable.em _)
theorem iv_at (l : List Int) {i : Nat} (h : i < l.length) : (l.map iv)[i]? = some (.int .i64 (l.getD i 0)) := by
  simp [iv, List.getD_eq_getElem?_getD, List.getElem?_eq_getElem h]
theorem iv_one (l : List Int) : ∀ u ∈ l.map iv, u.oneCell' = true := by
  intro u hu
  rw [List.mem_map] at hu
  obtain ⟨n, -, rfl⟩ := hu
  rfl
theorem OwI.ri {base : Nat} {w : World} {v : Value} {l : List Int} (h : OwI base w v l) : Ri (fun b => base ≤ b) w v l := by
  unfold OwI at h
  rcases h.2 with ⟨rfl, h0⟩ | ⟨g, cap, cur, rfl, hg, hh, hn, hcap, hsz, htake⟩
  · obtain rfl : l = [] := List.eq_nil_of_length_eq_zero h0
    exact Ri.nil _ _
  · unfold maxLen at hcap
    refine ⟨_, cap, rfl, hn, by omega, (fun h => by cases h), fun i hi => ⟨g, 0, rfl, hg, ?_⟩⟩
    rw [Nat.zero_add, h.cellAt i (by omega), iv_at l hi]
theorem intInfo : ∃ i, Try.prog.info? 3 = some i ∧ i.zero = some (.int .i64 0) ∧ i.size = 1 ∧ i.bytes = 8 := by
  have h : (Try.prog.info? 3).map (fun i => (i.zero, i.size, i.bytes)) = some (some (.int .i64 0), 1, 8) := by kernel_rfl
  obtain ⟨i, h1, h2, h3, h4⟩ := info_parts h
  exact ⟨i, h1, h2, h3, h4⟩
/-- append of ints that can be read, nil or not, onto ints of the call's own -/
theorem wpList_addI {base : Nat} {p : Nat → Prop} {w : World} {ops : Array Oper} {rest : List Oper} {o : Oper} {a : Act} {Q : Exit → Act → World → Prop} (hgd : o.guard = none) (s x : Operand)
    (ho : o.op = .call { callee := .builtin .append, args := #[s, x], argTypes := #[24, 24] }) {v xv : Value} {l m : List Int}
    (hs : a.eval s = v) (hown : OwI base w v l) (hx : a.eval x = xv) (hr : Ri p w xv m) (h63 : l.length + m.length ≤ 100000) (hbase : base ≤ w.heap.size)
    (h : ∀ v' w', OwI base w' v' (l ++ m) → w.grownBy w' v.ownBlock → wpList Try.prog ops Q rest (a.put o.dst v') w') : wpList Try.prog ops Q (o :: rest) a w := by
  obtain ⟨i, hi1, hi2, hi3, hi4⟩ := intInfo
  obtain ⟨ad, cap, rfl, hl, hc, hn, H⟩ := hr
  cases ad with
  | none =>
    have hm : m = [] := by
      cases m with
      | nil => rfl
      | cons y t => obtain ⟨b, off, e, _⟩ := H 0 (by simp); cases e
    subst hm
    obtain rfl := hn rfl
    refine wpList_plain hgd fun K hK => ?_
    have hrun := run_append_owned_none (P := Try.prog) w base 24 o.type 3 i 1 Try.underlying24 hi1 v l.length (l.map iv) hown
    unfold Oper.wp execOp
    simp only [ho, resolve, invoke, builtin, Sem.run_bind, Sem.run_pure, Result.andThen_ok, List.map_toArray, List.map_cons, List.map_nil, hs, hx, List.length_nil, hrun]
    exact hK _ _ (h v w (by rw [List.append_nil]; exact hown) ⟨rfl, rfl, rfl, Nat.le_refl _, fun _ _ _ => rfl⟩)
  | some ad =>
    refine wpList_append_own_at w hgd s x 24 ho base 3 i (.int .i64 0) 1 8 Try.underlying24 hi1 hi2 hi3 hi4 rfl (by decide) v l.length (l.map iv) hs hown ad m.length cap (m.map iv) hx (by simp) ?_ (iv_one m) (by unfold maxLen; omega) (by omega) hbase ?_
    · intro j u hj
      have hjm : j < m.length := by
        rcases Nat.lt_or_ge j m.length with h | h
        · exact h
        · rw [List.getElem?_eq_none (by simpa using h)] at hj; cases hj
      rw [iv_at m hjm] at hj
      obtain rfl := Option.some.inj hj
      obtain ⟨b, off, e, _, hcell⟩ := H j hjm
      cases e
      rw [show (⟨b, off, none⟩ : Addr).add j = ⟨b, off + j, none⟩ by unfold Addr.add; split <;> simp_all]
      exact hcell
    · intro v' w' h2 h3 _ _
      refine h v' w' ?_ h3
      unfold OwI
      rw [List.length_append, List.map_append]
      exact h2
theorem clone_any {p : Nat → Prop} (v : Value) (l : List Int) (w : World) (h : Ri p w v l) (hl : l.length ≤ 1000) :
    Calls Try.prog 49 #[v] w fun e w' => ∃ v', e = .returned v' ∧ OwI w.heap.size w' v' l ∧ Gr w w' := by
  have h0 := h
  obtain ⟨a, cap, rfl, hcap, hcap2, hn, H⟩ := h
  have H0 := Lib.hid h0
  have HH := Lib.hid H
  clear H h0
  have hnil := fun (w : World) (a : Option Addr) (n c : Nat) => Lib.run_eql_slice_nil (P := Try.prog) w 24 3 a n c 0 0 Try.underlying24
  cases a with
  | none =>
    obtain rfl : l = [] := by
      apply Decidable.byContradiction; intro hc
      have h0 : 0 < l.length := List.length_pos_iff.2 hc
      obtain ⟨b, off, e, -⟩ := HH.out 0 h0
      cases e
    go_enter Try.func49, Try.ntmps49
    go_wp2
    go_ret
    exact ⟨_, rfl, OwI.nil _ _, Gr.refl _⟩
  | some ad =>
    go_enter Try.func49, Try.ntmps49
    have hown : OwI w.heap.size (w.alloc (.cells #[] 3)) (.slice (some ⟨w.heap.size, 0, none⟩) 0 0) [] := World.ownsRow_lit (base := w.heap.size) (e := 3) (size := 1) w #[] 0 (Nat.le_refl _) (by unfold maxLen; omega) rfl
    have hr : Ri p (w.alloc (.cells #[] 3)) (.slice (some ad) l.length cap) l := H0.out.gr ((Gr.refl _).alloc _)
    have HR := Lib.hid hr
    clear hr
    go_wp2_with (at_builtin; refine wpList_addI rfl _ _ rfl rfl hown rfl HR.out (by simp; omega) (by simp) ?_; intro v' w2 hown2 hgrow)
    go_ret
    exact ⟨_, rfl, by simpa using hown2, Gr.grown ((Gr.refl _).alloc _) hgrow (fun k hk => (World.ownsRow.lt hown k hk).1)⟩
theorem far_cell {w : World} {b c : Nat} (h : b ≠ c) (o k : Nat) (x : Value) : (w.setCell ⟨c, k, none⟩ x).cell? ⟨b, o, none⟩ = w.cell? ⟨b, o, none⟩ :=
  World.cell?_setCell_other _ _ _ _ (by intro e; cases e; exact h rfl)
/-- a copy of a route -/
def CpPost (r : Rt) (w : World) (e : Ending) (w' : World) : Prop := ∃ v', e = .returned v' ∧ Rv (fun b => w.heap.size ≤ b) w' v' r ∧ Gr w w'
theorem copied_any {p : Nat → Prop} (v : Value) (r : Rt) (w : World) (h : Rv p w v r) (hl : r.nx.length ≤ 1000) :
    Calls Try.prog 38 #[v] w (CpPost r w) := by
  obtain ⟨nv, rfl, hok, hr⟩ := h
  obtain ⟨a, n, nx, bal⟩ := r
  obtain ⟨ad, cap, rfl⟩ := hr.form
  dsimp only at hl hr ⊢
  generalize hlen : nx.length = len at hl hr ⊢
  have HR := Lib.hid hr
  have HK := Lib.hid hok
  have HN := Lib.hid hlen
  clear hr hok hlen
  unfold rtv
  dsimp only
  go_enter Try.func38, Try.ntmps38
  obtain ⟨W0, hW0⟩ : ∃ W0, W0 = (w.alloc (.cells #[.int .u32 a, .int .i64 n, .slice ad len cap, .int .i64 bal] 34)).alloc (.cells #[.int .u32 0, .int .i64 0, .slice none 0 0, .int .i64 0] 34) := ⟨_, rfl⟩
  have g0 : Gr w W0 := by rw [hW0]; exact ((Gr.refl _).alloc _).alloc _
  have sz0 : W0.heap.size = w.heap.size + 1 + 1 := by rw [hW0]; simp
  have k1 : CL W0 w.heap.size [.int .u32 a, .int .i64 n, .slice ad len cap, .int .i64 bal] := by rw [hW0]; exact (CL.new _ _ _ _ rfl).gr ((Gr.refl _).alloc _)
  have k2 : CL W0 (w.heap.size + 1) [.int .u32 0, .int .i64 0, .slice none 0 0, .int .i64 0] := by rw [hW0]; exact CL.new _ _ _ _ (by simp)
  go_wp2_with (at_builtin; rw [← hW0]; refine wpList_addI (base := w.heap.size + 1 + 1) rfl (.const (.slice none 0 0)) (.tmp 4) rfl rfl (OwI.nil _ _) rfl (HR.out.gr g0) (by have := HN.out; simp; omega) (by omega) ?_; intro v' w2 hown2 hgrow; have g2 : Gr W0 w2 := (Gr.refl _).grown hgrow (fun k hk => by cases hk); clear hgrow; have K1 := Lib.hid (k1.gr g2); obtain ⟨⟨c0, c1, c2, c3⟩, f0, f1, f2, f3⟩ := (k1.gr g2).four; obtain ⟨⟨d0, d1, d2, d3⟩, e0, e1, e2, e3⟩ := (k2.gr g2).four; have HO := Lib.hid hown2; obtain ⟨a2, cp2, rfl⟩ := hown2.ri.form; clear hown2; generalize hl2 : ([] ++ nx).length = len2 at HO ⊢)
  refine bodyPost_ret (v := .agg #[.int .u32 a, .int .i64 n, .slice a2 len2 cp2, .int .i64 bal]) (by simp [results, Try.results38, go_sem, d0, d1, d2, d3]) rfl ?_
  refine ⟨_, rfl, ⟨_, rfl, HK.out, ?_⟩, ?_⟩
  · have := HO.out.ri
    dsimp only
    rw [List.nil_append] at this
    refine this.keep fun b hb hl => ⟨by omega, fun o => ?_⟩
    simp only [far_cell (show b ≠ w.heap.size by omega), far_cell (show b ≠ w.heap.size + 1 by omega)]
  · exact (((((g0.step g2).setCell (p := ⟨w.heap.size, 2, none⟩) (by simp) _).setCell (p := ⟨w.heap.size + 1, 0, none⟩) (by simp) _).setCell (p := ⟨w.heap.size + 1, 1, none⟩) (by simp) _).setCell (p := ⟨w.heap.size + 1, 2, none⟩) (by simp) _).setCell (p := ⟨w.heap.size + 1, 3, none⟩) (by simp) _
theorem own_any {p : Nat → Prop} (v : Value) (r : Rt) (w : World) (h : Rv p w v r) (hl : r.nx.length ≤ 1000) :
    Calls Try.prog 37 #[v] w (CpPost r w) := by
  obtain ⟨nv, rfl, hok, hr⟩ := h
  obtain ⟨a, n, nx, bal⟩ := r
  obtain ⟨ad, cap, rfl⟩ := hr.form
  dsimp only at hl hr ⊢
  generalize hlen : nx.length = len at hl hr ⊢
  have HR := Lib.hid hr
  have HK := Lib.hid hok
  have HN := Lib.hid hlen
  clear hr hok hlen
  unfold rtv
  dsimp only
  go_enter Try.func37, Try.ntmps37
  obtain ⟨W0, hW0⟩ : ∃ W0, W0 = (w.alloc (.cells #[.int .u32 a, .int .i64 n, .slice ad len cap, .int .i64 bal] 34)).alloc (.cells #[.int .u32 0, .int .i64 0, .slice none 0 0, .int .i64 0] 34) := ⟨_, rfl⟩
  have g0 : Gr w W0 := by rw [hW0]; exact ((Gr.refl _).alloc _).alloc _
  have sz0 : W0.heap.size = w.heap.size + 1 + 1 := by rw [hW0]; simp
  have k1 : CL W0 w.heap.size [.int .u32 a, .int .i64 n, .slice ad len cap, .int .i64 bal] := by rw [hW0]; exact (CL.new _ _ _ _ rfl).gr ((Gr.refl _).alloc _)
  have k2 : CL W0 (w.heap.size + 1) [.int .u32 0, .int .i64 0, .slice none 0 0, .int .i64 0] := by rw [hW0]; exact CL.new _ _ _ _ (by simp)
  have HW := Lib.hid hW0
  go_wp2_with fail
  rw [← HW.out]
  have hr := HR.out.gr g0
  rw [← HN.out] at hr hl ⊢
  refine (clone_any _ _ W0 hr hl).mono ?_
  rintro e w2 ⟨v', rfl, hown2, g2⟩
  obtain ⟨⟨c0, c1, c2, c3⟩, f0, f1, f2, f3⟩ := (k1.gr g2).four
  obtain ⟨⟨d0, d1, d2, d3⟩, e0, e1, e2, e3⟩ := (k2.gr g2).four
  have HO := Lib.hid hown2
  obtain ⟨a2, cp2, rfl⟩ := hown2.ri.form
  clear hown2
  generalize hl2 : nx.length = len2 at *
  go_wp2_with fail
  refine bodyPost_ret (v := .agg #[.int .u32 a, .int .i64 n, .slice a2 len2 cp2, .int .i64 bal]) (by simp [results, Try.results37, go_sem, d0, d1, d2, d3]) rfl ?_
  refine ⟨_, rfl, ⟨_, rfl, HK.out, ?_⟩, ?_⟩
  · have := HO.out.ri
    dsimp only
    refine this.keep fun b hb hl => ⟨by omega, fun o => ?_⟩
    simp only [far_cell (show b ≠ w.heap.size by omega), far_cell (show b ≠ w.heap.size + 1 by omega)]
  · exact (((((g0.step g2).setCell (p := ⟨w.heap.size, 2, none⟩) (by simp) _).setCell (p := ⟨w.heap.size + 1, 0, none⟩) (by simp) _).setCell (p := ⟨w.heap.size + 1, 1, none⟩) (by simp) _).setCell (p := ⟨w.heap.size + 1, 2, none⟩) (by simp) _).setCell (p := ⟨w.heap.size + 1, 3, none⟩) (by simp) _
end Go.Proofs.Ytefocmcpeigfcaa
