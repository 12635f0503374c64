/- The walk of the statement on decoding encodings. -/
import Derived.Test.YtlkhdbgknkjioaaKy
import Derived.Test.YtlkhdbgknkjioaaTa
import Derived.Test.YtlkhdbgknkjioaaKr
import Derived.WalkKit
import Derived.WalkSpells
import Derived.WalkLawsBesides
import Derived.WalkSmall
import Derived.Handy
import Derived.BigQuiet
import Derived.Deep.QuietTactic
import Derived.Deep.RegionHeld3
import Derived.Deep.DeepFit
import Derived.Below
import Derived.Lib.Hide
import Derived.Lib.QuietBelow
namespace Go.Proofs.Ytlkhdbgknkjioaa
open Go Go.RowKit Go.Sort
set_option maxRecDepth 100000
set_option linter.unusedVariables false
set_option linter.unusedSimpArgs false
set_option linter.unusedVariables false
/-- what the operations of the region have made -/
structure BkS where
  gA : Nat
  x : Nat
  t : Nat
  c : Nat
  gM : Nat
  an : Option Addr
  cn : Nat
  gN : Nat
theorem with_state {P : Program} {md : Region.Mode} {ops : Array Oper} {Q : Exit → Act → World → Prop} {S : World → Prop} {n : Nat} {l : Array Bool} {a : Act} {w : World} {α : Type} (m : Nat) (l2 : Array Bool) (aF : Act → α → Act) (F : α → World → Prop)
    (st : ∀ x W, F x W → wpAnyH P md ops Q S m l2 (aF a x) W) (k : (∀ x W, F x W → wpAnyH P md ops Q S m l2 (aF a x) W) → wpAnyH P md ops Q S n l a w) : wpAnyH P md ops Q S n l a w := k st
theorem next_three {P : Program} {ops : Array Oper} {Q : Exit → Act → World → Prop} {md : Region.Mode} {S : World → Prop} (i j k : Nat) {fuel : Nat} {listed : Array Bool} {a : Act} {w : World} {oi oj ok : Oper} (hi : ops[i]? = some oi) (hj : ops[j]? = some oj) (hk : ops[k]? = some ok)
    (hr : Region.ready md ops listed = [i, j, k]) (hwi : Region.wanted oi (yielded ops a.tmps) = true) (hwj : Region.wanted oj (yielded ops a.tmps) = true) (hwk : Region.wanted ok (yielded ops a.tmps) = true)
    (h1 : ∀ K : Act → World → Prop, (∀ a w, S w → wpAnyH P md ops Q S fuel (listed.setIfInBounds i true) a w → K a w) → oi.wp P a w K Q)
    (h2 : ∀ K : Act → World → Prop, (∀ a w, S w → wpAnyH P md ops Q S fuel (listed.setIfInBounds j true) a w → K a w) → oj.wp P a w K Q)
    (h3 : ∀ K : Act → World → Prop, (∀ a w, S w → wpAnyH P md ops Q S fuel (listed.setIfInBounds k true) a w → K a w) → ok.wp P a w K Q) : wpAnyH P md ops Q S (fuel + 1) listed a w := by
  refine wpAnyH_all hr (by simp) (fun m hm => ?_)
  rcases List.mem_cons.1 hm with rfl | hm
  · unfold wpOp
    simp only [hi, hwi, if_true]
    exact .inl (h1 _ (fun a w hs h => ⟨hs, h⟩))
  · rcases List.mem_cons.1 hm with rfl | hm
    · unfold wpOp
      simp only [hj, hwj, if_true]
      exact .inl (h2 _ (fun a w hs h => ⟨hs, h⟩))
    · rw [List.mem_singleton] at hm
      subst hm
      unfold wpOp
      simp only [hk, hwk, if_true]
      exact .inl (h3 _ (fun a w hs h => ⟨hs, h⟩))
theorem next_four {P : Program} {ops : Array Oper} {Q : Exit → Act → World → Prop} {md : Region.Mode} {S : World → Prop} (i j k l : Nat) {fuel : Nat} {listed : Array Bool} {a : Act} {w : World} {oi oj ok ol : Oper} (hi : ops[i]? = some oi) (hj : ops[j]? = some oj) (hk : ops[k]? = some ok) (hl : ops[l]? = some ol)
    (hr : Region.ready md ops listed = [i, j, k, l]) (hwi : Region.wanted oi (yielded ops a.tmps) = true) (hwj : Region.wanted oj (yielded ops a.tmps) = true) (hwk : Region.wanted ok (yielded ops a.tmps) = true) (hwl : Region.wanted ol (yielded ops a.tmps) = true)
    (h1 : ∀ K : Act → World → Prop, (∀ a w, S w → wpAnyH P md ops Q S fuel (listed.setIfInBounds i true) a w → K a w) → oi.wp P a w K Q)
    (h2 : ∀ K : Act → World → Prop, (∀ a w, S w → wpAnyH P md ops Q S fuel (listed.setIfInBounds j true) a w → K a w) → oj.wp P a w K Q)
    (h3 : ∀ K : Act → World → Prop, (∀ a w, S w → wpAnyH P md ops Q S fuel (listed.setIfInBounds k true) a w → K a w) → ok.wp P a w K Q)
    (h4 : ∀ K : Act → World → Prop, (∀ a w, S w → wpAnyH P md ops Q S fuel (listed.setIfInBounds l true) a w → K a w) → ol.wp P a w K Q) : wpAnyH P md ops Q S (fuel + 1) listed a w := by
  refine wpAnyH_all hr (by simp) (fun m hm => ?_)
  rcases List.mem_cons.1 hm with rfl | hm
  · unfold wpOp
    simp only [hi, hwi, if_true]
    exact .inl (h1 _ (fun a w hs h => ⟨hs, h⟩))
  · rcases List.mem_cons.1 hm with rfl | hm
    · unfold wpOp
      simp only [hj, hwj, if_true]
      exact .inl (h2 _ (fun a w hs h => ⟨hs, h⟩))
    · rcases List.mem_cons.1 hm with rfl | hm
      · unfold wpOp
        simp only [hk, hwk, if_true]
        exact .inl (h3 _ (fun a w hs h => ⟨hs, h⟩))
      · rw [List.mem_singleton] at hm
        subst hm
        unfold wpOp
        simp only [hl, hwl, if_true]
        exact .inl (h4 _ (fun a w hs h => ⟨hs, h⟩))
theorem OwB.ne_cl {base g : Nat} {w : World} {v : Value} {l : List Nat} {z : Int} {vs : List Value} (h : OwB base w v l) (hl : 0 < l.length) (k : CL w g (.int .i64 z :: vs)) : ∀ j, v.ownBlock = some j → j ≠ g := by
  obtain ⟨g', cap, rfl, -⟩ := h.form hl
  intro j hj e
  have e1 : g' = j := by simpa [Value.ownBlock] using hj
  subst e1
  subst e
  obtain ⟨b, off, ea, -, hc⟩ := h.rb.at' (i := 0) hl
  cases ea
  have := (k.at' 0 _ rfl).1
  rw [Nat.add_zero] at hc
  rw [hc] at this
  cases this
theorem Cod.grown {B b : Nat} {row : Option Nat} {w w' : World} (h : Cod B w b) (k : w.grownBy w' row) (hr : ∀ j, row = some j → b < j) : Cod B w' b := by
  have hl := h.lt
  cases row with
  | none => exact h.gr (Gr.grownNew (Gr.refl _) k (fun _ h => by cases h))
  | some g =>
    have hg := hr g rfl
    have he : Ex g w w' := ⟨k.os, k.tape, k.output, k.size, fun j hne hj => k.block j hj (fun e => hne (Option.some.inj e))⟩
    obtain ⟨a, len, cap, m, h0, h1, h2, h3, h4, h5, h6⟩ := h.ex
    have hB := h.base
    exact ⟨h.base, a, len, cap, m, by rw [he.cell b 0 (by omega) hl]; exact h0, by rw [he.cell b 1 (by omega) hl]; exact h1, h2, h3, by rw [he.frozen b 1 (by omega) hl]; exact h4, h5.ex (ne_lt (by omega) h6) he, h6⟩
def z28 : List Nat := List.replicate 28 0
theorem z28_len : z28.length = 28 := List.length_replicate
theorem OwB.ex' {base b : Nat} {w w' : World} {v : Value} {l : List Nat} (h : OwB base w v l) (g : Ex b w w') (hb : b < base) : OwB base w' v l :=
  ⟨World.ownsRow.kept (row := some b) h.1 ⟨g.os, g.tape, g.output, g.size, fun k hk hne => g.block k (fun e => hne (by rw [e])) hk⟩ (by
    cases hv : v.ownBlock with
    | none => exact .inl rfl
    | some k => exact .inr (fun e => by have := h.above k hv; have := Option.some.inj e; omega)), h.2⟩
theorem Cod.fillK {B b g : Nat} {w : World} (h : Cod B w b) (hg : b < g) (ws : List Value) (i : Nat) : Cod B (fillC w g i ws) b := by
  induction ws generalizing w i with
  | nil => exact h
  | cons v t ih => exact ih (h.set g i (by omega) (by have := h.base; omega) v) (i + 1)
theorem Ex.fillK {b g : Nat} {u v : World} (h : Ex b u v) (hg : u.heap.size ≤ g) (ws : List Value) (i : Nat) : Ex b u (fillC v g i ws) := by
  induction ws generalizing v i with
  | nil => exact h
  | cons x t ih => exact ih (h.setNew (p := ⟨g, i, none⟩) hg x) (i + 1)
theorem Ex.grown' {b : Nat} {u v w : World} {row : Option Nat} (h : Ex b u v) (g : v.grownBy w row) (hr : ∀ k, row = some k → u.heap.size ≤ k) : Ex b u w :=
  ⟨g.os.trans h.os, g.tape.trans h.tape, g.output.trans h.output, Nat.le_trans h.size g.size, fun j hne hj => (g.block j (Nat.lt_of_lt_of_le hj h.size) (fun hc => by have := hr j hc.symm; omega)).trans (h.block j hne hj)⟩
theorem made28 (W : World) : (Instr.makeSlice 22 (.int .i64 28) (.int .i64 28)).run Try.prog W = .ok (.slice (some ⟨W.heap.size, 0, none⟩) 28 28) (W.alloc (.cells (cellsB (z28)).toArray 5)) := by
  obtain ⟨ti, hi1, hi2, hi3, hi4⟩ := byteInfoB
  have := run_make (P := Try.prog) W 22 5 ti (.int .u8 0) Try.underlying22 hi1 hi2 .i64 .i64 28 28 (by omega) (Int.le_refl _) (by rw [hi4]; omega) (by omega)
  rw [hi3, show (28 : Int).toNat = 28 from rfl, Nat.mul_one] at this
  rw [this, show madeCells (Value.int .u8 0).cells 28 = (cellsB (z28)).toArray from Array.ext' (by rw [show (Value.int .u8 0).cells = #[Value.int .u8 0] from rfl, toList_madeCells_one, cellsB, z28, List.map_replicate]; rfl)]
theorem own28 (W : World) : OwB W.heap.size (W.alloc (.cells (cellsB (z28)).toArray 5)) (.slice (some ⟨W.heap.size, 0, none⟩) 28 28) (z28) :=
  ⟨World.ownsRow_lit W (cellsB (z28)).toArray 28 (Nat.le_refl _) (by unfold maxLen; decide) (by simp [cellsB_len, z28_len]), by decide⟩

set_option maxHeartbeats 8000000 in
theorem tback_walk {q : Nat → Prop} (sv vd : Value) (len : Nat) (d : List Nat) (w : World) (hl : len ≤ 9223372036854775807) (hb : BytesV w.heap.size w sv len) (hd : Rb q w vd d) :
    Calls Try.prog 4 #[sv, vd] w fun e w' => e = .returned (.bool true) ∧ Gr w w' := by
  have HD := Lib.hid hd
  have HB := Lib.hid hb
  obtain ⟨ad, cd, rfl, hcd, hmd⟩ := hd.form
  obtain ⟨N, hN⟩ : ∃ N, N = d.length := ⟨_, rfl⟩
  have HN := Lib.hid hN
  rw [← hN] at HD hcd ⊢
  clear hd hb hN
  by_cases h1 : 1400 < N
  · have d1 : decide ((1400 : Int) < (N : Int)) = true := by rw [decide_eq_true_eq]; omega
    clear h1
    go_enter Try.func4, Try.ntmps4
    go_wp2_with fail
    refine (tawake_any _).mono ?_
    rintro e w1 ⟨rfl, hg⟩
    go_wp2_with fail
    go_ret
    exact ⟨rfl, hg⟩
  have d1 : decide ((1400 : Int) < (N : Int)) = false := by rw [decide_eq_false_iff_not]; omega
  have hN2 : N ≤ 1400 := by omega
  have HN2 := Lib.hid hN2
  obtain ⟨NQ, hNQ⟩ : ∃ M, M = 28 + N := ⟨_, rfl⟩
  have HNQ := Lib.hid hNQ
  clear h1 hcd hmd hNQ hN2
  go_enter Try.func4, Try.ntmps4
  go_wp2_with fail
  refine (tawake_any _).mono ?_
  rintro e w1 ⟨rfl, hg⟩
  go_wp2_with fail
  refine (new_any sv len 120 _ (by omega) hl (HB.out.gr hg)).mono ?_
  rintro e w2 ⟨b, rfl, hbe, hc, hg2⟩
  have hbw : w.heap.size ≤ b := by have := Gr.size hg; omega
  have hG := hg.step hg2
  clear hbe hg2 hg
  go_wp2_with fail
  refine (address_any b _ hc).mono ?_
  rintro e w3 ⟨src, rfl, hsrc, hc', hx⟩
  replace hG := Ex.gr hG hbw hx
  replace hc := hc'
  clear hc' hx
  go_wp2_with fail
  refine (address_any b _ hc).mono ?_
  rintro e w4 ⟨dst, rfl, hdst, hc', hx⟩
  replace hG := Ex.gr hG hbw hx
  replace hc := hc'
  clear hc' hx
  go_wp2_with fail
  refine (next_nat b 2 _ (by omega) (by omega) hc).mono ?_
  rintro e v1 ⟨x1, rfl, hx1, hc', hx⟩
  replace hG := Ex.gr hG hbw hx
  replace hc := hc'
  clear hc' 
  clear hx
  obtain ⟨r, hr⟩ : ∃ r : Bool, ((x1 : Int) == 1) = r := ⟨_, rfl⟩
  go_wp2_with fail
  refine (next_nat b 65536 _ (by omega) (by omega) hc).mono ?_
  rintro e v2 ⟨i, rfl, hi, hc', hx⟩
  replace hG := Ex.gr hG hbw hx
  replace hc := hc'
  clear hc' 
  clear hx
  go_wp2_with fail
  refine (next_nat b 65536 _ (by omega) (by omega) hc).mono ?_
  rintro e v3 ⟨s, rfl, hs, hc', hx⟩
  replace hG := Ex.gr hG hbw hx
  replace hc := hc'
  clear hc' 
  clear hx
  have hE := CL.new v3 [.bool r, .int .i64 i, .int .i64 s, .slice ad N cd] 36 _ rfl
  have hgn := Gr.alloc (Gr.refl v3) (.cells #[.bool r, .int .i64 i, .int .i64 s, .slice ad N cd] 36)
  have hEb : v3.heap.size ≠ b := by have := hc.lt; omega
  simp only [List.toArray] at hE
  go_upto_region 6 with fail
  generalize v3.alloc (.cells #[.bool r, .int .i64 i, .int .i64 s, .slice ad N cd] 36) = v4 at hE hgn ⊢
  generalize v3.heap.size = g8 at hE hEb ⊢
  replace hG := hG.step hgn
  replace hc := hc.gr hgn
  clear hgn hr hx1
  have HE := Lib.hid hE
  have HG := Lib.hid hG
  have HM := Lib.hid (And.intro (And.intro hi hs) (And.intro hsrc hdst))
  have hb6 : b < v4.heap.size := hc.lt
  have hX : Ex b v4 v4.drew := Ex.drew (Ex.refl _ _)
  replace hc := hc.gr (Gr.drew (Gr.refl v4))
  have hS : True := trivial
  clear hE hG hi hs hsrc hdst
  refine region_plain (fun _ => True) (by kernel_rfl) ?_
  generalize v4.drew = v5 at hX hc ⊢
  refine take_at 1 (some 54) (v := ?vp1) rfl rfl (by kernel_rfl) (by kernel_rfl) (by kernel_rfl) (by rfl) ?yp1 hS ?tp1
  case yp1 =>
    intro w' hSw
    obtain - := hSw
    go_simp
    (try with_reducible rfl)
  simp only [Act.put, List.setIfInBounds_toArray, List.set_cons_zero, List.set_cons_succ]
  refine take_at 5 (some 58) (v := ?vp5) rfl rfl (by kernel_rfl) (by kernel_rfl) (by kernel_rfl) (by rfl) ?yp5 hS ?tp5
  case yp5 =>
    intro w' hSw
    obtain - := hSw
    go_simp
    (try with_reducible rfl)
  simp only [Act.put, List.setIfInBounds_toArray, List.set_cons_zero, List.set_cons_succ]
  refine take_at 8 (some 61) (v := ?vp8) rfl rfl (by kernel_rfl) (by kernel_rfl) (by kernel_rfl) (by rfl) ?yp8 hS ?tp8
  case yp8 =>
    intro w' hSw
    obtain - := hSw
    go_simp
    (try with_reducible rfl)
  simp only [Act.put, List.setIfInBounds_toArray, List.set_cons_zero, List.set_cons_succ]
  have HQL := Lib.hid (show (z28 ++ d).length = NQ by rw [List.length_append, z28_len, ← HN.out, HNQ.out])
  refine with_state (α := BkS) 1 #[true, true, true, true, true, true, true, true, true, true, true, true, false] (fun a q => (((((((((a.put (some 53) (.slice (some ⟨q.gA, 0, none⟩) 2 2)).put (some 55) (.int .i64 q.x)).put (some 56) (.pointer (some ⟨q.gA, q.x, none⟩))).put (some 57) (.int .i64 q.t)).put (some 59) (.int .i64 q.c)).put (some 60) (.slice (some ⟨q.gM, 0, none⟩) 28 28)).put (some 62) (.slice q.an NQ q.cn)).put (some 63) (.agg #[.int .i64 q.t, .int .i64 q.c, .slice q.an NQ q.cn])).put (some 9) (.pointer (some ⟨q.gN, 0, none⟩)))) (fun q W => Ex b v4 W ∧ Cod w.heap.size W b ∧ q.x < 2 ∧ (q.t = 3 ∨ q.t = 11) ∧ q.c < 256 ∧ OwB v4.heap.size W (.slice q.an NQ q.cn) (z28 ++ d) ∧ CL W q.gN [.int .i64 0, .int .i64 0, .slice none 0 0] ∧ v4.heap.size ≤ q.gN) ?s_st_121111 (fun st_121111r => ?_)
  case s_st_121111 =>
    intro q W h
    obtain ⟨gA, x, t, c, gM, an, cn, gN⟩ := q
    obtain ⟨hX, hc, hx2, ht, hcc, ho, hN, hNb⟩ := h
    simp only at hX hc hx2 ht hcc ho hN hNb
    simp only [Act.put, List.setIfInBounds_toArray, List.set_cons_zero, List.set_cons_succ]
    have hNow := ho.ne_cl (by rw [HQL.out, HNQ.out]; omega) hN
    have hgNb : b < gN := by omega
    have hcF := hN.fill [.int .i64 t, .int .i64 c, .slice an NQ cn] rfl
    have hXF := hX.fillK hNb [.int .i64 t, .int .i64 c, .slice an NQ cn] 0
    have hkF := hc.fillK hgNb [.int .i64 t, .int .i64 c, .slice an NQ cn] 0
    have hoF := ho.fill hNow [.int .i64 t, .int .i64 c, .slice an NQ cn] 0
    simp only [fillC, Nat.reduceAdd] at hcF hXF hkF hoF
    obtain ⟨⟨z0, z1, z2⟩, u0, u1, u2⟩ := hN.three
    refine next_at 12 rfl (by kernel_rfl) (by rfl) (fun K hK => ?_)
    go_simp
    refine hK _ _ trivial ?_
    clear hK K z0 z1 z2 u0 u1 u2 hN ho hX hc hNow
    generalize ((W.setCell ⟨gN, 0, none⟩ (.int .i64 t)).setCell ⟨gN, 1, none⟩ (.int .i64 c)).setCell ⟨gN, 2, none⟩ (.slice an NQ cn) = V at hcF hXF hkF hoF ⊢
    refine wpAnyH_done (by kernel_rfl) ?_ _
    refine qz_normal ?_
    have hG := Ex.gr HG.out hbw hXF
    have hE := HE.out.ex hXF hEb
    have hq := (hoF.rb.imp (q := fun k => k ≠ b) (fun k _ hk => by omega))
    have hn := hcF
    have hc := hkF
    have hgNb' : gN ≠ b := by omega
    obtain ⟨⟨hi, hs⟩, hsrc, hdst⟩ := HM.out
    clear hcF hXF hkF hoF HE HG HM hb6 hNb hgNb hx2 hS
    go_wp2_with fail
    refine (next_nat b 65536 _ (by omega) (by omega) hc).mono ?_
    rintro e k1 ⟨sp, rfl, hsp, hc', hx⟩
    replace hG := Ex.gr hG hbw hx
    replace hc := hc'
    replace hq := hq.ex hx (fun _ h => h)
    replace hE := hE.ex hx hEb
    replace hn := hn.ex hx hgNb'
    clear hc' hx
    go_wp2_with fail
    refine (next_nat b 65536 k1 (by omega) (by omega) hc).mono ?_
    rintro e k2 ⟨dp, rfl, hdp, hc', hx⟩
    replace hG := Ex.gr hG hbw hx
    replace hc := hc'
    replace hq := hq.ex hx (fun _ h => h)
    replace hE := hE.ex hx hEb
    replace hn := hn.ex hx hgNb'
    clear hc' hx
    have hU := CL.new k2 [.int .i64 sp, .int .i64 dp, .slice ad N cd] 41 _ rfl
    have hgn := Gr.alloc (Gr.refl k2) (.cells #[.int .i64 sp, .int .i64 dp, .slice ad N cd] 41)
    simp only [List.toArray] at hU
    have ngU : k2.heap.size ≠ b := by have := hc.lt; omega
    go_upto_region 8 with fail
    generalize k2.alloc (.cells #[.int .i64 sp, .int .i64 dp, .slice ad N cd] 41) = k3 at hU hgn ⊢
    generalize k2.heap.size = gU at hU ngU ⊢
    replace hG := hG.step hgn
    replace hc := hc.gr hgn
    replace hE := hE.gr hgn
    replace hn := hn.gr hgn
    replace hq := hq.gr hgn
    clear hgn
    go_wp2_with fail
    refine (next_nat b 65536 k3 (by omega) (by omega) hc).mono ?_
    rintro e k4 ⟨p1, rfl, hp1, hc', hx⟩
    replace hG := Ex.gr hG hbw hx
    replace hc := hc'
    replace hq := hq.ex hx (fun _ h => h)
    replace hE := hE.ex hx hEb
    replace hn := hn.ex hx hgNb'
    replace hU := hU.ex hx ngU
    clear hc' hx
    go_wp2_with fail
    refine (next_nat b 65536 k4 (by omega) (by omega) hc).mono ?_
    rintro e k5 ⟨p2, rfl, hp2, hc', hx⟩
    replace hG := Ex.gr hG hbw hx
    replace hc := hc'
    replace hq := hq.ex hx (fun _ h => h)
    replace hE := hE.ex hx hEb
    replace hn := hn.ex hx hgNb'
    replace hU := hU.ex hx ngU
    clear hc' hx
    go_wp2_with fail
    refine (next_nat b 65536 k5 (by omega) (by omega) hc).mono ?_
    rintro e k6 ⟨y0, rfl, hy0, hc', hx⟩
    replace hG := Ex.gr hG hbw hx
    replace hc := hc'
    replace hq := hq.ex hx (fun _ h => h)
    replace hE := hE.ex hx hEb
    replace hn := hn.ex hx hgNb'
    replace hU := hU.ex hx ngU
    clear hc' hx
    obtain ⟨sq, hsq⟩ : ∃ sq, sq = y0 * 65536 := ⟨_, rfl⟩
    have esq : (y0 : Int) * 65536 = (sq : Int) := by omega
    have hsq2 : sq < 4294967296 := by omega
    have q0 : (0 : Int) ≤ (y0 : Int) := by omega
    have q1 : (y0 : Int) < 65536 := by omega
    have wsq : IntKind.i64.wrap (sq : Int) = (sq : Int) := by rw [IntWalk.i64_in _ (by omega)]
    clear hsq
    go_wp2_with fail
    refine (next_nat b 256 k6 (by omega) (by omega) hc).mono ?_
    rintro e k7 ⟨fl, rfl, hfl, hc', hx⟩
    replace hG := Ex.gr hG hbw hx
    replace hc := hc'
    replace hq := hq.ex hx (fun _ h => h)
    replace hE := hE.ex hx hEb
    replace hn := hn.ex hx hgNb'
    replace hU := hU.ex hx ngU
    clear hc' hx
    go_wp2_with fail
    refine (next_nat b 65536 k7 (by omega) (by omega) hc).mono ?_
    rintro e k8 ⟨wi, rfl, hwi, hc', hx⟩
    replace hG := Ex.gr hG hbw hx
    replace hc := hc'
    replace hq := hq.ex hx (fun _ h => h)
    replace hE := hE.ex hx hEb
    replace hn := hn.ex hx hgNb'
    replace hU := hU.ex hx ngU
    clear hc' hx
    clear q0 q1 wsq
    have hT := CL.new k8 [.int .i64 p1, .int .i64 p2, .int .i64 sq, .int .i64 4294967295, .int .i64 fl, .int .i64 wi, .slice ad N cd] 44 _ rfl
    have hgn := Gr.alloc (Gr.refl k8) (.cells #[.int .i64 p1, .int .i64 p2, .int .i64 sq, .int .i64 4294967295, .int .i64 fl, .int .i64 wi, .slice ad N cd] 44)
    simp only [List.toArray] at hT
    have ngT : k8.heap.size ≠ b := by have := hc.lt; omega
    go_upto_region 9 with fail
    generalize k8.alloc (.cells #[.int .i64 p1, .int .i64 p2, .int .i64 sq, .int .i64 4294967295, .int .i64 fl, .int .i64 wi, .slice ad N cd] 44) = k9 at hT hgn ⊢
    generalize k8.heap.size = gT at hT ngT ⊢
    replace hG := hG.step hgn
    replace hc := hc.gr hgn
    replace hE := hE.gr hgn
    replace hn := hn.gr hgn
    replace hU := hU.gr hgn
    replace hq := hq.gr hgn
    clear hgn
    clear hc hbw hEb hgNb' ngU ngT
    have hd := HD.out
    have HNN := HN2.out
    obtain ⟨⟨z0, z1, z2, z3⟩, -⟩ := hE.four
    go_wp2_with fail
    refine (echo_ok r i s k9 (hd.gr hG) (by omega) (by omega) (by rw [← HN.out]; omega)).mono ?_
    rintro e m1 ⟨u1, rfl, he1, hg⟩
    clear z0 z1 z2 z3
    replace hG := hG.step hg
    replace hE := hE.gr hg
    replace hn := hn.gr hg
    replace hU := hU.gr hg
    replace hT := hT.gr hg
    replace hq := hq.gr hg
    clear hg
    replace he1 := he1.rb.any
    obtain ⟨a1, c1, rfl, -, -⟩ := he1.form
    rw [echo_len, ← HN.out] at he1 ⊢
    generalize hh1 : 8 + N = N1 at he1 ⊢
    clear hh1
    obtain ⟨⟨z0, z1, z2⟩, -⟩ := hn.three
    go_wp2_with fail
    refine (note_ok t c m1 hq ht hcc (by rw [HQL.out, HNQ.out]; omega) (by rw [HQL.out, HNQ.out]; omega)).mono ?_
    rintro e m2 ⟨u2, rfl, he2, hg⟩
    clear z0 z1 z2
    replace hG := hG.step hg
    replace hE := hE.gr hg
    replace hn := hn.gr hg
    replace hU := hU.gr hg
    replace hT := hT.gr hg
    replace hq := hq.gr hg
    replace he1 := he1.gr hg
    clear hg
    replace he2 := he2.rb.any
    obtain ⟨a2, c2, rfl, -, -⟩ := he2.form
    rw [note_len, HQL.out] at he2 ⊢
    generalize hh2 : 8 + NQ = N2 at he2 ⊢
    clear hh2
    obtain ⟨⟨z0, z1, z2⟩, -⟩ := hU.three
    go_wp2_with fail
    refine (udp_ok src dst sp dp m2 (hd.gr hG) hsrc hdst (by omega) (by omega) (by rw [← HN.out]; omega)).mono ?_
    rintro e m3 ⟨u3, rfl, he3, hg⟩
    clear z0 z1 z2
    replace hG := hG.step hg
    replace hE := hE.gr hg
    replace hn := hn.gr hg
    replace hU := hU.gr hg
    replace hT := hT.gr hg
    replace hq := hq.gr hg
    replace he1 := he1.gr hg
    replace he2 := he2.gr hg
    clear hg
    replace he3 := he3.rb.any
    obtain ⟨a3, c3, rfl, -, -⟩ := he3.form
    rw [udp_len, ← HN.out] at he3 ⊢
    generalize hh3 : 8 + N = N3 at he3 ⊢
    clear hh3
    obtain ⟨⟨z0, z1, z2, z3, z4, z5, z6⟩, -⟩ := hT.seven
    go_wp2_with fail
    refine (tcp_ok src dst p1 p2 sq 4294967295 fl wi m3 (hd.gr hG) hsrc hdst (by omega) (by omega) (by omega) (by decide) (by omega) (by omega) (by rw [← HN.out]; omega)).mono ?_
    rintro e m4 ⟨u4, rfl, he4, hg⟩
    clear z0 z1 z2 z3 z4 z5 z6
    replace hG := hG.step hg
    replace hE := hE.gr hg
    replace hn := hn.gr hg
    replace hU := hU.gr hg
    replace hT := hT.gr hg
    replace hq := hq.gr hg
    replace he1 := he1.gr hg
    replace he2 := he2.gr hg
    replace he3 := he3.gr hg
    clear hg
    replace he4 := he4.rb.any
    obtain ⟨a4, c4, rfl, -, -⟩ := he4.form
    rw [tcp_len, ← HN.out] at he4 ⊢
    generalize hh4 : 20 + N = N4 at he4 ⊢
    clear hh4
    go_wp2_with fail
    refine (echo_dec (r := r) m4 he1 (by omega) (by omega) (by rw [← HN.out]; omega)).mono ?_
    rintro e m5 ⟨x1, rfl, hv1, hg⟩
    replace hG := hG.step hg
    replace hE := hE.gr hg
    replace hn := hn.gr hg
    replace hU := hU.gr hg
    replace hT := hT.gr hg
    replace hq := hq.gr hg
    replace he1 := he1.gr hg
    replace he2 := he2.gr hg
    replace he3 := he3.gr hg
    replace he4 := he4.gr hg
    clear hg
    replace hv1 := hv1.rb.any
    obtain ⟨b1, f1, rfl, -, -⟩ := hv1.form
    rw [← HN.out] at hv1 ⊢
    have hD1 := CL.new m5 [.bool r, .int .i64 i, .int .i64 s, .slice b1 N f1] 36 _ rfl
    have hgn := Gr.alloc (Gr.refl m5) (.cells #[.bool r, .int .i64 i, .int .i64 s, .slice b1 N f1] 36)
    simp only [List.toArray] at hD1
    go_upto_region 14 with fail
    generalize m5.alloc (.cells #[.bool r, .int .i64 i, .int .i64 s, .slice b1 N f1] 36) = m6 at hD1 hgn ⊢
    generalize m5.heap.size = o1 at hD1  ⊢
    replace hG := hG.step hgn
    replace hE := hE.gr hgn
    replace hn := hn.gr hgn
    replace hU := hU.gr hgn
    replace hT := hT.gr hgn
    replace hq := hq.gr hgn
    replace he1 := he1.gr hgn
    replace he2 := he2.gr hgn
    replace he3 := he3.gr hgn
    replace he4 := he4.gr hgn
    replace hv1 := hv1.gr hgn
    clear hgn
    go_wp2_with fail
    refine (note_dec m6 he2 ht hcc (by rw [HQL.out, HNQ.out]; omega) (by rw [HQL.out, HNQ.out]; omega)).mono ?_
    rintro e m7 ⟨x2, rfl, hv2, hg⟩
    replace hG := hG.step hg
    replace hE := hE.gr hg
    replace hn := hn.gr hg
    replace hU := hU.gr hg
    replace hT := hT.gr hg
    replace hD1 := hD1.gr hg
    replace hq := hq.gr hg
    replace he1 := he1.gr hg
    replace he2 := he2.gr hg
    replace he3 := he3.gr hg
    replace he4 := he4.gr hg
    replace hv1 := hv1.gr hg
    clear hg
    replace hv2 := hv2.rb.any
    obtain ⟨b2, f2, rfl, -, -⟩ := hv2.form
    rw [HQL.out] at hv2 ⊢
    have hD2 := CL.new m7 [.int .i64 t, .int .i64 c, .slice b2 NQ f2] 39 _ rfl
    have hgn := Gr.alloc (Gr.refl m7) (.cells #[.int .i64 t, .int .i64 c, .slice b2 NQ f2] 39)
    simp only [List.toArray] at hD2
    go_upto_region 15 with fail
    generalize m7.alloc (.cells #[.int .i64 t, .int .i64 c, .slice b2 NQ f2] 39) = m8 at hD2 hgn ⊢
    generalize m7.heap.size = o2 at hD2  ⊢
    replace hG := hG.step hgn
    replace hE := hE.gr hgn
    replace hn := hn.gr hgn
    replace hU := hU.gr hgn
    replace hT := hT.gr hgn
    replace hD1 := hD1.gr hgn
    replace hq := hq.gr hgn
    replace he1 := he1.gr hgn
    replace he2 := he2.gr hgn
    replace he3 := he3.gr hgn
    replace he4 := he4.gr hgn
    replace hv1 := hv1.gr hgn
    replace hv2 := hv2.gr hgn
    clear hgn
    go_wp2_with fail
    refine (udp_dec m8 he3 hsrc hdst (by omega) (by omega) (by rw [← HN.out]; omega)).mono ?_
    rintro e m9 ⟨x3, rfl, hv3, hg⟩
    replace hG := hG.step hg
    replace hE := hE.gr hg
    replace hn := hn.gr hg
    replace hU := hU.gr hg
    replace hT := hT.gr hg
    replace hD1 := hD1.gr hg
    replace hD2 := hD2.gr hg
    replace hq := hq.gr hg
    replace he1 := he1.gr hg
    replace he2 := he2.gr hg
    replace he3 := he3.gr hg
    replace he4 := he4.gr hg
    replace hv1 := hv1.gr hg
    replace hv2 := hv2.gr hg
    clear hg
    replace hv3 := hv3.rb.any
    obtain ⟨b3, f3, rfl, -, -⟩ := hv3.form
    rw [← HN.out] at hv3 ⊢
    have hD3 := CL.new m9 [.int .i64 sp, .int .i64 dp, .slice b3 N f3] 41 _ rfl
    have hgn := Gr.alloc (Gr.refl m9) (.cells #[.int .i64 sp, .int .i64 dp, .slice b3 N f3] 41)
    simp only [List.toArray] at hD3
    go_upto_region 16 with fail
    generalize m9.alloc (.cells #[.int .i64 sp, .int .i64 dp, .slice b3 N f3] 41) = ma at hD3 hgn ⊢
    generalize m9.heap.size = o3 at hD3  ⊢
    replace hG := hG.step hgn
    replace hE := hE.gr hgn
    replace hn := hn.gr hgn
    replace hU := hU.gr hgn
    replace hT := hT.gr hgn
    replace hD1 := hD1.gr hgn
    replace hD2 := hD2.gr hgn
    replace hq := hq.gr hgn
    replace he1 := he1.gr hgn
    replace he2 := he2.gr hgn
    replace he3 := he3.gr hgn
    replace he4 := he4.gr hgn
    replace hv1 := hv1.gr hgn
    replace hv2 := hv2.gr hgn
    replace hv3 := hv3.gr hgn
    clear hgn
    go_wp2_with fail
    refine (tcp_dec ma he4 hsrc hdst (by omega) (by omega) (by omega) (by decide) (by omega) (by omega) (by rw [← HN.out]; omega)).mono ?_
    rintro e mb ⟨x4, rfl, hv4, hg⟩
    replace hG := hG.step hg
    replace hE := hE.gr hg
    replace hn := hn.gr hg
    replace hU := hU.gr hg
    replace hT := hT.gr hg
    replace hD1 := hD1.gr hg
    replace hD2 := hD2.gr hg
    replace hD3 := hD3.gr hg
    replace hq := hq.gr hg
    replace he1 := he1.gr hg
    replace he2 := he2.gr hg
    replace he3 := he3.gr hg
    replace he4 := he4.gr hg
    replace hv1 := hv1.gr hg
    replace hv2 := hv2.gr hg
    replace hv3 := hv3.gr hg
    clear hg
    replace hv4 := hv4.rb.any
    obtain ⟨b4, f4, rfl, -, -⟩ := hv4.form
    rw [← HN.out] at hv4 ⊢
    have hD4 := CL.new mb [.int .i64 p1, .int .i64 p2, .int .i64 sq, .int .i64 4294967295, .int .i64 fl, .int .i64 wi, .slice b4 N f4] 44 _ rfl
    have hgn := Gr.alloc (Gr.refl mb) (.cells #[.int .i64 p1, .int .i64 p2, .int .i64 sq, .int .i64 4294967295, .int .i64 fl, .int .i64 wi, .slice b4 N f4] 44)
    simp only [List.toArray] at hD4
    go_upto_region 17 with fail
    generalize mb.alloc (.cells #[.int .i64 p1, .int .i64 p2, .int .i64 sq, .int .i64 4294967295, .int .i64 fl, .int .i64 wi, .slice b4 N f4] 44) = mc at hD4 hgn ⊢
    generalize mb.heap.size = o4 at hD4  ⊢
    replace hG := hG.step hgn
    replace hE := hE.gr hgn
    replace hn := hn.gr hgn
    replace hU := hU.gr hgn
    replace hT := hT.gr hgn
    replace hD1 := hD1.gr hgn
    replace hD2 := hD2.gr hgn
    replace hD3 := hD3.gr hgn
    replace hq := hq.gr hgn
    replace he1 := he1.gr hgn
    replace he2 := he2.gr hgn
    replace he3 := he3.gr hgn
    replace he4 := he4.gr hgn
    replace hv1 := hv1.gr hgn
    replace hv2 := hv2.gr hgn
    replace hv3 := hv3.gr hgn
    replace hv4 := hv4.gr hgn
    clear hgn
    obtain ⟨⟨z0, z1, z2, z3⟩, -⟩ := hE.four
    obtain ⟨⟨y0, y1, y2, y3⟩, -⟩ := hD1.four
    go_wp2_with fail
    refine (same_echo r i s _ (hd.gr hG) hv1 (by rw [← HN.out]; omega)).mono ?_
    rintro e md ⟨rfl, hg⟩
    clear z0 z1 z2 z3 y0 y1 y2 y3
    replace hG := hG.step hg
    replace hE := hE.gr hg
    replace hn := hn.gr hg
    replace hU := hU.gr hg
    replace hT := hT.gr hg
    replace hD1 := hD1.gr hg
    replace hD2 := hD2.gr hg
    replace hD3 := hD3.gr hg
    replace hD4 := hD4.gr hg
    replace hq := hq.gr hg
    replace he1 := he1.gr hg
    replace he2 := he2.gr hg
    replace he3 := he3.gr hg
    replace he4 := he4.gr hg
    replace hv1 := hv1.gr hg
    replace hv2 := hv2.gr hg
    replace hv3 := hv3.gr hg
    replace hv4 := hv4.gr hg
    clear hg
    obtain ⟨⟨z0, z1, z2⟩, -⟩ := hn.three
    obtain ⟨⟨y0, y1, y2⟩, -⟩ := hD2.three
    go_wp2_with fail
    refine (same_note t c _ hq hv2 (by rw [HQL.out, HNQ.out]; omega)).mono ?_
    rintro e me ⟨rfl, hg⟩
    clear z0 z1 z2 y0 y1 y2
    replace hG := hG.step hg
    replace hE := hE.gr hg
    replace hn := hn.gr hg
    replace hU := hU.gr hg
    replace hT := hT.gr hg
    replace hD1 := hD1.gr hg
    replace hD2 := hD2.gr hg
    replace hD3 := hD3.gr hg
    replace hD4 := hD4.gr hg
    replace hq := hq.gr hg
    replace he1 := he1.gr hg
    replace he2 := he2.gr hg
    replace he3 := he3.gr hg
    replace he4 := he4.gr hg
    replace hv1 := hv1.gr hg
    replace hv2 := hv2.gr hg
    replace hv3 := hv3.gr hg
    replace hv4 := hv4.gr hg
    clear hg
    obtain ⟨⟨z0, z1, z2⟩, -⟩ := hU.three
    obtain ⟨⟨y0, y1, y2⟩, -⟩ := hD3.three
    go_wp2_with fail
    refine (same_udp sp dp _ (hd.gr hG) hv3 (by rw [← HN.out]; omega)).mono ?_
    rintro e mf ⟨rfl, hg⟩
    clear z0 z1 z2 y0 y1 y2
    replace hG := hG.step hg
    replace hE := hE.gr hg
    replace hn := hn.gr hg
    replace hU := hU.gr hg
    replace hT := hT.gr hg
    replace hD1 := hD1.gr hg
    replace hD2 := hD2.gr hg
    replace hD3 := hD3.gr hg
    replace hD4 := hD4.gr hg
    replace hq := hq.gr hg
    replace he1 := he1.gr hg
    replace he2 := he2.gr hg
    replace he3 := he3.gr hg
    replace he4 := he4.gr hg
    replace hv1 := hv1.gr hg
    replace hv2 := hv2.gr hg
    replace hv3 := hv3.gr hg
    replace hv4 := hv4.gr hg
    clear hg
    obtain ⟨⟨z0, z1, z2, z3, z4, z5, z6⟩, -⟩ := hT.seven
    obtain ⟨⟨y0, y1, y2, y3, y4, y5, y6⟩, -⟩ := hD4.seven
    go_wp2_with fail
    refine (same_tcp p1 p2 sq 4294967295 fl wi _ (hd.gr hG) hv4 (by rw [← HN.out]; omega)).mono ?_
    rintro e mg ⟨rfl, hg⟩
    clear z0 z1 z2 z3 z4 z5 z6 y0 y1 y2 y3 y4 y5 y6
    replace hG := hG.step hg
    replace hE := hE.gr hg
    replace hn := hn.gr hg
    replace hU := hU.gr hg
    replace hT := hT.gr hg
    replace hD1 := hD1.gr hg
    replace hD2 := hD2.gr hg
    replace hD3 := hD3.gr hg
    replace hD4 := hD4.gr hg
    replace hq := hq.gr hg
    replace he1 := he1.gr hg
    replace he2 := he2.gr hg
    replace he3 := he3.gr hg
    replace he4 := he4.gr hg
    replace hv1 := hv1.gr hg
    replace hv2 := hv2.gr hg
    replace hv3 := hv3.gr hg
    replace hv4 := hv4.gr hg
    clear hg
    go_wp2_with fail
    go_ret
    exact ⟨rfl, hG⟩
  simp only [Act.put, List.setIfInBounds_toArray, List.set_cons_zero, List.set_cons_succ] at st_121111r
  have st_121111 := Lib.hid st_121111r
  clear st_121111r
  refine with_state (α := BkS) 2 #[true, true, true, true, true, true, true, true, true, true, true, false, false] (fun a q => ((((((((a.put (some 53) (.slice (some ⟨q.gA, 0, none⟩) 2 2)).put (some 55) (.int .i64 q.x)).put (some 56) (.pointer (some ⟨q.gA, q.x, none⟩))).put (some 57) (.int .i64 q.t)).put (some 59) (.int .i64 q.c)).put (some 60) (.slice (some ⟨q.gM, 0, none⟩) 28 28)).put (some 62) (.slice q.an NQ q.cn)).put (some 63) (.agg #[.int .i64 q.t, .int .i64 q.c, .slice q.an NQ q.cn]))) (fun q W => Ex b v4 W ∧ Cod w.heap.size W b ∧ q.x < 2 ∧ (q.t = 3 ∨ q.t = 11) ∧ q.c < 256 ∧ OwB v4.heap.size W (.slice q.an NQ q.cn) (z28 ++ d)) ?s_st_121110 (fun st_121110r => ?_)
  case s_st_121110 =>
    intro q W h
    obtain ⟨gA, x, t, c, gM, an, cn, gN⟩ := q
    obtain ⟨hX, hc, hx2, ht, hcc, ho⟩ := h
    simp only at hX hc hx2 ht hcc ho
    simp only [Act.put, List.setIfInBounds_toArray, List.set_cons_zero, List.set_cons_succ]
    refine next_at 11 rfl (by kernel_rfl) (by rfl) (fun K hK => ?_)
    · skip
      go_simp
      have hN := CL.new W [.int .i64 0, .int .i64 0, .slice none 0 0] 39 _ rfl
      have hg := Gr.alloc (Gr.refl W) (.cells #[.int .i64 0, .int .i64 0, .slice none 0 0] 39)
      have hNb : v4.heap.size ≤ W.heap.size := hX.size
      simp only [List.toArray] at hN
      replace hX := hX.trans (Ex.ofGr hg)
      replace hc := hc.gr hg
      replace ho := ho.gr hg
      refine hK _ _ trivial ?_
      clear hK K hg gN
      generalize W.alloc (.cells #[.int .i64 0, .int .i64 0, .slice none 0 0] 39) = V at hX hc ho hN ⊢
      generalize W.heap.size = gN at hN hNb ⊢
      (try simp only [Act.put, List.setIfInBounds_toArray, List.set_cons_zero, List.set_cons_succ])
      exact st_121111.out ⟨gA, x, t, c, gM, an, cn, gN⟩ V ⟨hX, hc, hx2, ht, hcc, ho, hN, hNb⟩
  simp only [Act.put, List.setIfInBounds_toArray, List.set_cons_zero, List.set_cons_succ] at st_121110r
  have st_121110 := Lib.hid st_121110r
  clear st_121110r
  refine with_state (α := BkS) 3 #[true, true, true, true, false, true, true, true, true, true, false, true, false] (fun a q => (((((((a.put (some 53) (.slice (some ⟨q.gA, 0, none⟩) 2 2)).put (some 55) (.int .i64 q.x)).put (some 56) (.pointer (some ⟨q.gA, q.x, none⟩))).put (some 59) (.int .i64 q.c)).put (some 60) (.slice (some ⟨q.gM, 0, none⟩) 28 28)).put (some 62) (.slice q.an NQ q.cn)).put (some 9) (.pointer (some ⟨q.gN, 0, none⟩)))) (fun q W => Ex b v4 W ∧ Cod w.heap.size W b ∧ CL W q.gA [.int .i64 3, .int .i64 11] ∧ b < q.gA ∧ q.x < 2 ∧ q.c < 256 ∧ OwB v4.heap.size W (.slice q.an NQ q.cn) (z28 ++ d) ∧ CL W q.gN [.int .i64 0, .int .i64 0, .slice none 0 0] ∧ v4.heap.size ≤ q.gN) ?s_st_120111 (fun st_120111r => ?_)
  case s_st_120111 =>
    intro q W h
    obtain ⟨gA, x, t, c, gM, an, cn, gN⟩ := q
    obtain ⟨hX, hc, hA, hAb, hx2, hcc, ho, hN, hNb⟩ := h
    simp only at hX hc hA hAb hx2 hcc ho hN hNb
    simp only [Act.put, List.setIfInBounds_toArray, List.set_cons_zero, List.set_cons_succ]
    refine next_at 4 rfl (by kernel_rfl) (by rfl) (fun K hK => ?_)
    · skip
      clear t
      obtain ⟨t, ht, hcell⟩ : ∃ t : Nat, (t = 3 ∨ t = 11) ∧ W.cell? ⟨gA, x, none⟩ = some (.int .i64 t) := by
        rcases (show x = 0 ∨ x = 1 by omega) with rfl | rfl
        · exact ⟨3, .inl rfl, (hA.at' 0 _ rfl).1⟩
        · exact ⟨11, .inr rfl, (hA.at' 1 _ rfl).1⟩
      go_simp
      refine hK _ _ trivial ?_
      clear hK K hcell
      refine take_at 10 (some 63) (v := .agg #[.int .i64 t, .int .i64 c, .slice an NQ cn]) rfl rfl (by kernel_rfl) (by kernel_rfl) (by kernel_rfl) (by rfl) ?yj1 hS ?tj1
      case yj1 =>
        intro w' hSw
        go_simp
        (try with_reducible rfl)
      (try simp only [Act.put, List.setIfInBounds_toArray, List.set_cons_zero, List.set_cons_succ])
      exact st_121111.out ⟨gA, x, t, c, gM, an, cn, gN⟩ W ⟨hX, hc, hx2, ht, hcc, ho, hN, hNb⟩
  simp only [Act.put, List.setIfInBounds_toArray, List.set_cons_zero, List.set_cons_succ] at st_120111r
  have st_120111 := Lib.hid st_120111r
  clear st_120111r
  refine with_state (α := BkS) 3 #[true, true, true, true, true, true, true, true, true, false, false, true, false] (fun a q => (((((((a.put (some 53) (.slice (some ⟨q.gA, 0, none⟩) 2 2)).put (some 55) (.int .i64 q.x)).put (some 56) (.pointer (some ⟨q.gA, q.x, none⟩))).put (some 57) (.int .i64 q.t)).put (some 59) (.int .i64 q.c)).put (some 60) (.slice (some ⟨q.gM, 0, none⟩) 28 28)).put (some 9) (.pointer (some ⟨q.gN, 0, none⟩)))) (fun q W => Ex b v4 W ∧ Cod w.heap.size W b ∧ q.x < 2 ∧ (q.t = 3 ∨ q.t = 11) ∧ q.c < 256 ∧ OwB v4.heap.size W (.slice (some ⟨q.gM, 0, none⟩) 28 28) (z28) ∧ CL W q.gN [.int .i64 0, .int .i64 0, .slice none 0 0] ∧ v4.heap.size ≤ q.gN) ?s_st_121101 (fun st_121101r => ?_)
  case s_st_121101 =>
    intro q W h
    obtain ⟨gA, x, t, c, gM, an, cn, gN⟩ := q
    obtain ⟨hX, hc, hx2, ht, hcc, ho, hN, hNb⟩ := h
    simp only at hX hc hx2 ht hcc ho hN hNb
    simp only [Act.put, List.setIfInBounds_toArray, List.set_cons_zero, List.set_cons_succ]
    refine next_at 9 rfl (by kernel_rfl) (by rfl) (fun K hK => ?_)
    · skip
      refine oper_app (base := v4.heap.size) (l := z28) (m := d) (.tmp 60) (.tmp 61) rfl rfl ho rfl (HD.out.gr (Ex.gr HG.out hbw hX)) (by rw [← HN.out]; have := HN2.out; rw [z28_len]; omega) hX.size ?_
      intro vx V hq gx
      have hgm : b < gM := by have := ho.above gM rfl; omega
      replace hN := hN.grown gx (fun e => ho.ne_cl (by rw [z28_len]; decide) hN gM rfl (Option.some.inj e))
      replace hX := hX.grown' gx (fun j hj => ho.above j hj)
      replace hc := hc.grown gx (fun j hj => by have := ho.above j hj; omega)
      clear ho an cn
      obtain ⟨an, cn, rfl, -, -⟩ := hq.rb.form
      rw [HQL.out] at hq ⊢
      have ho := hq
      refine hK _ _ trivial ?_
      clear hK K gx hq hgm
      simp only [Act.put, List.setIfInBounds_toArray, List.set_cons_zero, List.set_cons_succ]
      refine take_at 10 (some 63) (v := .agg #[.int .i64 t, .int .i64 c, .slice an NQ cn]) rfl rfl (by kernel_rfl) (by kernel_rfl) (by kernel_rfl) (by rfl) ?yj2 hS ?tj2
      case yj2 =>
        intro w' hSw
        go_simp
        (try with_reducible rfl)
      (try simp only [Act.put, List.setIfInBounds_toArray, List.set_cons_zero, List.set_cons_succ])
      exact st_121111.out ⟨gA, x, t, c, gM, an, cn, gN⟩ V ⟨hX, hc, hx2, ht, hcc, ho, hN, hNb⟩
  simp only [Act.put, List.setIfInBounds_toArray, List.set_cons_zero, List.set_cons_succ] at st_121101r
  have st_121101 := Lib.hid st_121101r
  clear st_121101r
  refine with_state (α := BkS) 4 #[true, true, true, true, true, true, false, true, true, false, false, true, false] (fun a q => ((((((a.put (some 53) (.slice (some ⟨q.gA, 0, none⟩) 2 2)).put (some 55) (.int .i64 q.x)).put (some 56) (.pointer (some ⟨q.gA, q.x, none⟩))).put (some 57) (.int .i64 q.t)).put (some 60) (.slice (some ⟨q.gM, 0, none⟩) 28 28)).put (some 9) (.pointer (some ⟨q.gN, 0, none⟩)))) (fun q W => Ex b v4 W ∧ Cod w.heap.size W b ∧ q.x < 2 ∧ (q.t = 3 ∨ q.t = 11) ∧ OwB v4.heap.size W (.slice (some ⟨q.gM, 0, none⟩) 28 28) (z28) ∧ CL W q.gN [.int .i64 0, .int .i64 0, .slice none 0 0] ∧ v4.heap.size ≤ q.gN) ?s_st_111101 (fun st_111101r => ?_)
  case s_st_111101 =>
    intro q W h
    obtain ⟨gA, x, t, c, gM, an, cn, gN⟩ := q
    obtain ⟨hX, hc, hx2, ht, ho, hN, hNb⟩ := h
    simp only at hX hc hx2 ht ho hN hNb
    simp only [Act.put, List.setIfInBounds_toArray, List.set_cons_zero, List.set_cons_succ]
    refine next_at 6 rfl (by kernel_rfl) (by rfl) (fun K hK => ?_)
    · skip
      clear c
      go_simp
      refine (next_nat b 256 W (by omega) (by omega) hc).mono ?_
      rintro e V ⟨c, rfl, hcc, hc', he⟩
      replace hX := hX.trans he
      replace hc := hc'
      replace ho := ho.ex' he hb6
      replace hN := hN.ex he (by omega)
      refine hK _ _ trivial ?_
      clear hK K he hc'
      (try simp only [Act.put, List.setIfInBounds_toArray, List.set_cons_zero, List.set_cons_succ])
      exact st_121101.out ⟨gA, x, t, c, gM, an, cn, gN⟩ V ⟨hX, hc, hx2, ht, hcc, ho, hN, hNb⟩
  simp only [Act.put, List.setIfInBounds_toArray, List.set_cons_zero, List.set_cons_succ] at st_111101r
  have st_111101 := Lib.hid st_111101r
  clear st_111101r
  refine with_state (α := BkS) 4 #[true, true, true, true, false, true, true, true, true, false, false, true, false] (fun a q => ((((((a.put (some 53) (.slice (some ⟨q.gA, 0, none⟩) 2 2)).put (some 55) (.int .i64 q.x)).put (some 56) (.pointer (some ⟨q.gA, q.x, none⟩))).put (some 59) (.int .i64 q.c)).put (some 60) (.slice (some ⟨q.gM, 0, none⟩) 28 28)).put (some 9) (.pointer (some ⟨q.gN, 0, none⟩)))) (fun q W => Ex b v4 W ∧ Cod w.heap.size W b ∧ CL W q.gA [.int .i64 3, .int .i64 11] ∧ b < q.gA ∧ q.x < 2 ∧ q.c < 256 ∧ OwB v4.heap.size W (.slice (some ⟨q.gM, 0, none⟩) 28 28) (z28) ∧ CL W q.gN [.int .i64 0, .int .i64 0, .slice none 0 0] ∧ v4.heap.size ≤ q.gN) ?s_st_120101 (fun st_120101r => ?_)
  case s_st_120101 =>
    intro q W h
    obtain ⟨gA, x, t, c, gM, an, cn, gN⟩ := q
    obtain ⟨hX, hc, hA, hAb, hx2, hcc, ho, hN, hNb⟩ := h
    simp only at hX hc hA hAb hx2 hcc ho hN hNb
    simp only [Act.put, List.setIfInBounds_toArray, List.set_cons_zero, List.set_cons_succ]
    refine next_two 4 9 rfl rfl (by kernel_rfl) (by rfl) (by rfl) (fun K hK => ?_) (fun K hK => ?_)
    · skip
      clear t
      obtain ⟨t, ht, hcell⟩ : ∃ t : Nat, (t = 3 ∨ t = 11) ∧ W.cell? ⟨gA, x, none⟩ = some (.int .i64 t) := by
        rcases (show x = 0 ∨ x = 1 by omega) with rfl | rfl
        · exact ⟨3, .inl rfl, (hA.at' 0 _ rfl).1⟩
        · exact ⟨11, .inr rfl, (hA.at' 1 _ rfl).1⟩
      go_simp
      refine hK _ _ trivial ?_
      clear hK K hcell
      (try simp only [Act.put, List.setIfInBounds_toArray, List.set_cons_zero, List.set_cons_succ])
      exact st_121101.out ⟨gA, x, t, c, gM, an, cn, gN⟩ W ⟨hX, hc, hx2, ht, hcc, ho, hN, hNb⟩
    · skip
      refine oper_app (base := v4.heap.size) (l := z28) (m := d) (.tmp 60) (.tmp 61) rfl rfl ho rfl (HD.out.gr (Ex.gr HG.out hbw hX)) (by rw [← HN.out]; have := HN2.out; rw [z28_len]; omega) hX.size ?_
      intro vx V hq gx
      have hgm : b < gM := by have := ho.above gM rfl; omega
      replace hA := hA.grown gx (fun e => ho.ne_cl (by rw [z28_len]; decide) hA gM rfl (Option.some.inj e))
      replace hN := hN.grown gx (fun e => ho.ne_cl (by rw [z28_len]; decide) hN gM rfl (Option.some.inj e))
      replace hX := hX.grown' gx (fun j hj => ho.above j hj)
      replace hc := hc.grown gx (fun j hj => by have := ho.above j hj; omega)
      clear ho an cn
      obtain ⟨an, cn, rfl, -, -⟩ := hq.rb.form
      rw [HQL.out] at hq ⊢
      have ho := hq
      refine hK _ _ trivial ?_
      clear hK K gx hq hgm
      simp only [Act.put, List.setIfInBounds_toArray, List.set_cons_zero, List.set_cons_succ]
      (try simp only [Act.put, List.setIfInBounds_toArray, List.set_cons_zero, List.set_cons_succ])
      exact st_120111.out ⟨gA, x, t, c, gM, an, cn, gN⟩ V ⟨hX, hc, hA, hAb, hx2, hcc, ho, hN, hNb⟩
  simp only [Act.put, List.setIfInBounds_toArray, List.set_cons_zero, List.set_cons_succ] at st_120101r
  have st_120101 := Lib.hid st_120101r
  clear st_120101r
  refine with_state (α := BkS) 4 #[true, true, true, true, false, true, true, true, true, true, false, false, false] (fun a q => ((((((a.put (some 53) (.slice (some ⟨q.gA, 0, none⟩) 2 2)).put (some 55) (.int .i64 q.x)).put (some 56) (.pointer (some ⟨q.gA, q.x, none⟩))).put (some 59) (.int .i64 q.c)).put (some 60) (.slice (some ⟨q.gM, 0, none⟩) 28 28)).put (some 62) (.slice q.an NQ q.cn))) (fun q W => Ex b v4 W ∧ Cod w.heap.size W b ∧ CL W q.gA [.int .i64 3, .int .i64 11] ∧ b < q.gA ∧ q.x < 2 ∧ q.c < 256 ∧ OwB v4.heap.size W (.slice q.an NQ q.cn) (z28 ++ d)) ?s_st_120110 (fun st_120110r => ?_)
  case s_st_120110 =>
    intro q W h
    obtain ⟨gA, x, t, c, gM, an, cn, gN⟩ := q
    obtain ⟨hX, hc, hA, hAb, hx2, hcc, ho⟩ := h
    simp only at hX hc hA hAb hx2 hcc ho
    simp only [Act.put, List.setIfInBounds_toArray, List.set_cons_zero, List.set_cons_succ]
    refine next_two 4 11 rfl rfl (by kernel_rfl) (by rfl) (by rfl) (fun K hK => ?_) (fun K hK => ?_)
    · skip
      clear t
      obtain ⟨t, ht, hcell⟩ : ∃ t : Nat, (t = 3 ∨ t = 11) ∧ W.cell? ⟨gA, x, none⟩ = some (.int .i64 t) := by
        rcases (show x = 0 ∨ x = 1 by omega) with rfl | rfl
        · exact ⟨3, .inl rfl, (hA.at' 0 _ rfl).1⟩
        · exact ⟨11, .inr rfl, (hA.at' 1 _ rfl).1⟩
      go_simp
      refine hK _ _ trivial ?_
      clear hK K hcell
      refine take_at 10 (some 63) (v := .agg #[.int .i64 t, .int .i64 c, .slice an NQ cn]) rfl rfl (by kernel_rfl) (by kernel_rfl) (by kernel_rfl) (by rfl) ?yj3 hS ?tj3
      case yj3 =>
        intro w' hSw
        go_simp
        (try with_reducible rfl)
      (try simp only [Act.put, List.setIfInBounds_toArray, List.set_cons_zero, List.set_cons_succ])
      exact st_121110.out ⟨gA, x, t, c, gM, an, cn, gN⟩ W ⟨hX, hc, hx2, ht, hcc, ho⟩
    · skip
      go_simp
      have hN := CL.new W [.int .i64 0, .int .i64 0, .slice none 0 0] 39 _ rfl
      have hg := Gr.alloc (Gr.refl W) (.cells #[.int .i64 0, .int .i64 0, .slice none 0 0] 39)
      have hNb : v4.heap.size ≤ W.heap.size := hX.size
      simp only [List.toArray] at hN
      replace hX := hX.trans (Ex.ofGr hg)
      replace hc := hc.gr hg
      replace hA := hA.gr hg
      replace ho := ho.gr hg
      refine hK _ _ trivial ?_
      clear hK K hg gN
      generalize W.alloc (.cells #[.int .i64 0, .int .i64 0, .slice none 0 0] 39) = V at hX hc hA ho hN ⊢
      generalize W.heap.size = gN at hN hNb ⊢
      (try simp only [Act.put, List.setIfInBounds_toArray, List.set_cons_zero, List.set_cons_succ])
      exact st_120111.out ⟨gA, x, t, c, gM, an, cn, gN⟩ V ⟨hX, hc, hA, hAb, hx2, hcc, ho, hN, hNb⟩
  simp only [Act.put, List.setIfInBounds_toArray, List.set_cons_zero, List.set_cons_succ] at st_120110r
  have st_120110 := Lib.hid st_120110r
  clear st_120110r
  refine with_state (α := BkS) 4 #[true, true, true, true, true, true, true, false, true, false, false, true, false] (fun a q => ((((((a.put (some 53) (.slice (some ⟨q.gA, 0, none⟩) 2 2)).put (some 55) (.int .i64 q.x)).put (some 56) (.pointer (some ⟨q.gA, q.x, none⟩))).put (some 57) (.int .i64 q.t)).put (some 59) (.int .i64 q.c)).put (some 9) (.pointer (some ⟨q.gN, 0, none⟩)))) (fun q W => Ex b v4 W ∧ Cod w.heap.size W b ∧ q.x < 2 ∧ (q.t = 3 ∨ q.t = 11) ∧ q.c < 256 ∧ CL W q.gN [.int .i64 0, .int .i64 0, .slice none 0 0] ∧ v4.heap.size ≤ q.gN) ?s_st_121001 (fun st_121001r => ?_)
  case s_st_121001 =>
    intro q W h
    obtain ⟨gA, x, t, c, gM, an, cn, gN⟩ := q
    obtain ⟨hX, hc, hx2, ht, hcc, hN, hNb⟩ := h
    simp only at hX hc hx2 ht hcc hN hNb
    simp only [Act.put, List.setIfInBounds_toArray, List.set_cons_zero, List.set_cons_succ]
    refine next_at 7 rfl (by kernel_rfl) (by rfl) (fun K hK => ?_)
    · skip
      have mk := made28 W
      go_simp
      have ho := own28 W
      have hg := Gr.alloc (Gr.refl W) (.cells (cellsB (z28)).toArray 5)
      replace ho := ho.base hX.size
      replace hX := hX.trans (Ex.ofGr hg)
      replace hc := hc.gr hg
      replace hN := hN.gr hg
      refine hK _ _ trivial ?_
      clear hK K hg mk gM
      generalize W.alloc (.cells (cellsB (z28)).toArray 5) = V at hX hc hN ho ⊢
      generalize W.heap.size = gM at ho ⊢
      (try simp only [Act.put, List.setIfInBounds_toArray, List.set_cons_zero, List.set_cons_succ])
      exact st_121101.out ⟨gA, x, t, c, gM, an, cn, gN⟩ V ⟨hX, hc, hx2, ht, hcc, ho, hN, hNb⟩
  simp only [Act.put, List.setIfInBounds_toArray, List.set_cons_zero, List.set_cons_succ] at st_121001r
  have st_121001 := Lib.hid st_121001r
  clear st_121001r
  refine with_state (α := BkS) 4 #[true, true, true, true, true, true, true, true, true, false, false, false, false] (fun a q => ((((((a.put (some 53) (.slice (some ⟨q.gA, 0, none⟩) 2 2)).put (some 55) (.int .i64 q.x)).put (some 56) (.pointer (some ⟨q.gA, q.x, none⟩))).put (some 57) (.int .i64 q.t)).put (some 59) (.int .i64 q.c)).put (some 60) (.slice (some ⟨q.gM, 0, none⟩) 28 28))) (fun q W => Ex b v4 W ∧ Cod w.heap.size W b ∧ q.x < 2 ∧ (q.t = 3 ∨ q.t = 11) ∧ q.c < 256 ∧ OwB v4.heap.size W (.slice (some ⟨q.gM, 0, none⟩) 28 28) (z28)) ?s_st_121100 (fun st_121100r => ?_)
  case s_st_121100 =>
    intro q W h
    obtain ⟨gA, x, t, c, gM, an, cn, gN⟩ := q
    obtain ⟨hX, hc, hx2, ht, hcc, ho⟩ := h
    simp only at hX hc hx2 ht hcc ho
    simp only [Act.put, List.setIfInBounds_toArray, List.set_cons_zero, List.set_cons_succ]
    refine next_two 9 11 rfl rfl (by kernel_rfl) (by rfl) (by rfl) (fun K hK => ?_) (fun K hK => ?_)
    · skip
      refine oper_app (base := v4.heap.size) (l := z28) (m := d) (.tmp 60) (.tmp 61) rfl rfl ho rfl (HD.out.gr (Ex.gr HG.out hbw hX)) (by rw [← HN.out]; have := HN2.out; rw [z28_len]; omega) hX.size ?_
      intro vx V hq gx
      have hgm : b < gM := by have := ho.above gM rfl; omega
      replace hX := hX.grown' gx (fun j hj => ho.above j hj)
      replace hc := hc.grown gx (fun j hj => by have := ho.above j hj; omega)
      clear ho an cn
      obtain ⟨an, cn, rfl, -, -⟩ := hq.rb.form
      rw [HQL.out] at hq ⊢
      have ho := hq
      refine hK _ _ trivial ?_
      clear hK K gx hq hgm
      simp only [Act.put, List.setIfInBounds_toArray, List.set_cons_zero, List.set_cons_succ]
      refine take_at 10 (some 63) (v := .agg #[.int .i64 t, .int .i64 c, .slice an NQ cn]) rfl rfl (by kernel_rfl) (by kernel_rfl) (by kernel_rfl) (by rfl) ?yj4 hS ?tj4
      case yj4 =>
        intro w' hSw
        go_simp
        (try with_reducible rfl)
      (try simp only [Act.put, List.setIfInBounds_toArray, List.set_cons_zero, List.set_cons_succ])
      exact st_121110.out ⟨gA, x, t, c, gM, an, cn, gN⟩ V ⟨hX, hc, hx2, ht, hcc, ho⟩
    · skip
      go_simp
      have hN := CL.new W [.int .i64 0, .int .i64 0, .slice none 0 0] 39 _ rfl
      have hg := Gr.alloc (Gr.refl W) (.cells #[.int .i64 0, .int .i64 0, .slice none 0 0] 39)
      have hNb : v4.heap.size ≤ W.heap.size := hX.size
      simp only [List.toArray] at hN
      replace hX := hX.trans (Ex.ofGr hg)
      replace hc := hc.gr hg
      replace ho := ho.gr hg
      refine hK _ _ trivial ?_
      clear hK K hg gN
      generalize W.alloc (.cells #[.int .i64 0, .int .i64 0, .slice none 0 0] 39) = V at hX hc ho hN ⊢
      generalize W.heap.size = gN at hN hNb ⊢
      (try simp only [Act.put, List.setIfInBounds_toArray, List.set_cons_zero, List.set_cons_succ])
      exact st_121101.out ⟨gA, x, t, c, gM, an, cn, gN⟩ V ⟨hX, hc, hx2, ht, hcc, ho, hN, hNb⟩
  simp only [Act.put, List.setIfInBounds_toArray, List.set_cons_zero, List.set_cons_succ] at st_121100r
  have st_121100 := Lib.hid st_121100r
  clear st_121100r
  refine with_state (α := BkS) 5 #[false, true, true, false, false, true, true, true, true, true, false, true, false] (fun a q => (((((a.put (some 55) (.int .i64 q.x)).put (some 59) (.int .i64 q.c)).put (some 60) (.slice (some ⟨q.gM, 0, none⟩) 28 28)).put (some 62) (.slice q.an NQ q.cn)).put (some 9) (.pointer (some ⟨q.gN, 0, none⟩)))) (fun q W => Ex b v4 W ∧ Cod w.heap.size W b ∧ q.x < 2 ∧ q.c < 256 ∧ OwB v4.heap.size W (.slice q.an NQ q.cn) (z28 ++ d) ∧ CL W q.gN [.int .i64 0, .int .i64 0, .slice none 0 0] ∧ v4.heap.size ≤ q.gN) ?s_st_020111 (fun st_020111r => ?_)
  case s_st_020111 =>
    intro q W h
    obtain ⟨gA, x, t, c, gM, an, cn, gN⟩ := q
    obtain ⟨hX, hc, hx2, hcc, ho, hN, hNb⟩ := h
    simp only at hX hc hx2 hcc ho hN hNb
    simp only [Act.put, List.setIfInBounds_toArray, List.set_cons_zero, List.set_cons_succ]
    refine next_at 0 rfl (by kernel_rfl) (by rfl) (fun K hK => ?_)
    · skip
      go_simp
      have hA := CL.new W [.int .i64 3, .int .i64 11] 3 _ rfl
      have hg := Gr.alloc (Gr.refl W) (.cells #[.int .i64 3, .int .i64 11] 3)
      have hAb : b < W.heap.size := hc.lt
      simp only [List.toArray] at hA
      replace hX := hX.trans (Ex.ofGr hg)
      replace hc := hc.gr hg
      replace ho := ho.gr hg
      replace hN := hN.gr hg
      refine hK _ _ trivial ?_
      clear hK K hg gA
      generalize W.alloc (.cells #[.int .i64 3, .int .i64 11] 3) = V at hX hc ho hN hA ⊢
      generalize W.heap.size = gA at hA hAb ⊢
      refine take_at 3 (some 56) (v := .pointer (some ⟨gA, x, none⟩)) rfl rfl (by kernel_rfl) (by kernel_rfl) (by kernel_rfl) (by rfl) ?yi5 hS ?ti5
      case yi5 =>
        intro w' hSw
        have hxi : (x : Int) < 2 := by omega
        go_simp
        (try with_reducible rfl)
      (try simp only [Act.put, List.setIfInBounds_toArray, List.set_cons_zero, List.set_cons_succ])
      exact st_120111.out ⟨gA, x, t, c, gM, an, cn, gN⟩ V ⟨hX, hc, hA, hAb, hx2, hcc, ho, hN, hNb⟩
  simp only [Act.put, List.setIfInBounds_toArray, List.set_cons_zero, List.set_cons_succ] at st_020111r
  have st_020111 := Lib.hid st_020111r
  clear st_020111r
  refine with_state (α := BkS) 5 #[true, true, true, true, false, true, false, true, true, false, false, true, false] (fun a q => (((((a.put (some 53) (.slice (some ⟨q.gA, 0, none⟩) 2 2)).put (some 55) (.int .i64 q.x)).put (some 56) (.pointer (some ⟨q.gA, q.x, none⟩))).put (some 60) (.slice (some ⟨q.gM, 0, none⟩) 28 28)).put (some 9) (.pointer (some ⟨q.gN, 0, none⟩)))) (fun q W => Ex b v4 W ∧ Cod w.heap.size W b ∧ CL W q.gA [.int .i64 3, .int .i64 11] ∧ b < q.gA ∧ q.x < 2 ∧ OwB v4.heap.size W (.slice (some ⟨q.gM, 0, none⟩) 28 28) (z28) ∧ CL W q.gN [.int .i64 0, .int .i64 0, .slice none 0 0] ∧ v4.heap.size ≤ q.gN) ?s_st_110101 (fun st_110101r => ?_)
  case s_st_110101 =>
    intro q W h
    obtain ⟨gA, x, t, c, gM, an, cn, gN⟩ := q
    obtain ⟨hX, hc, hA, hAb, hx2, ho, hN, hNb⟩ := h
    simp only at hX hc hA hAb hx2 ho hN hNb
    simp only [Act.put, List.setIfInBounds_toArray, List.set_cons_zero, List.set_cons_succ]
    refine next_two 4 6 rfl rfl (by kernel_rfl) (by rfl) (by rfl) (fun K hK => ?_) (fun K hK => ?_)
    · skip
      clear t
      obtain ⟨t, ht, hcell⟩ : ∃ t : Nat, (t = 3 ∨ t = 11) ∧ W.cell? ⟨gA, x, none⟩ = some (.int .i64 t) := by
        rcases (show x = 0 ∨ x = 1 by omega) with rfl | rfl
        · exact ⟨3, .inl rfl, (hA.at' 0 _ rfl).1⟩
        · exact ⟨11, .inr rfl, (hA.at' 1 _ rfl).1⟩
      go_simp
      refine hK _ _ trivial ?_
      clear hK K hcell
      (try simp only [Act.put, List.setIfInBounds_toArray, List.set_cons_zero, List.set_cons_succ])
      exact st_111101.out ⟨gA, x, t, c, gM, an, cn, gN⟩ W ⟨hX, hc, hx2, ht, ho, hN, hNb⟩
    · skip
      clear c
      go_simp
      refine (next_nat b 256 W (by omega) (by omega) hc).mono ?_
      rintro e V ⟨c, rfl, hcc, hc', he⟩
      replace hX := hX.trans he
      replace hc := hc'
      replace hA := hA.ex he (by omega)
      replace ho := ho.ex' he hb6
      replace hN := hN.ex he (by omega)
      refine hK _ _ trivial ?_
      clear hK K he hc'
      (try simp only [Act.put, List.setIfInBounds_toArray, List.set_cons_zero, List.set_cons_succ])
      exact st_120101.out ⟨gA, x, t, c, gM, an, cn, gN⟩ V ⟨hX, hc, hA, hAb, hx2, hcc, ho, hN, hNb⟩
  simp only [Act.put, List.setIfInBounds_toArray, List.set_cons_zero, List.set_cons_succ] at st_110101r
  have st_110101 := Lib.hid st_110101r
  clear st_110101r
  refine with_state (α := BkS) 5 #[true, true, true, true, true, true, false, false, true, false, false, true, false] (fun a q => (((((a.put (some 53) (.slice (some ⟨q.gA, 0, none⟩) 2 2)).put (some 55) (.int .i64 q.x)).put (some 56) (.pointer (some ⟨q.gA, q.x, none⟩))).put (some 57) (.int .i64 q.t)).put (some 9) (.pointer (some ⟨q.gN, 0, none⟩)))) (fun q W => Ex b v4 W ∧ Cod w.heap.size W b ∧ q.x < 2 ∧ (q.t = 3 ∨ q.t = 11) ∧ CL W q.gN [.int .i64 0, .int .i64 0, .slice none 0 0] ∧ v4.heap.size ≤ q.gN) ?s_st_111001 (fun st_111001r => ?_)
  case s_st_111001 =>
    intro q W h
    obtain ⟨gA, x, t, c, gM, an, cn, gN⟩ := q
    obtain ⟨hX, hc, hx2, ht, hN, hNb⟩ := h
    simp only at hX hc hx2 ht hN hNb
    simp only [Act.put, List.setIfInBounds_toArray, List.set_cons_zero, List.set_cons_succ]
    refine next_two 6 7 rfl rfl (by kernel_rfl) (by rfl) (by rfl) (fun K hK => ?_) (fun K hK => ?_)
    · skip
      clear c
      go_simp
      refine (next_nat b 256 W (by omega) (by omega) hc).mono ?_
      rintro e V ⟨c, rfl, hcc, hc', he⟩
      replace hX := hX.trans he
      replace hc := hc'
      replace hN := hN.ex he (by omega)
      refine hK _ _ trivial ?_
      clear hK K he hc'
      (try simp only [Act.put, List.setIfInBounds_toArray, List.set_cons_zero, List.set_cons_succ])
      exact st_121001.out ⟨gA, x, t, c, gM, an, cn, gN⟩ V ⟨hX, hc, hx2, ht, hcc, hN, hNb⟩
    · skip
      have mk := made28 W
      go_simp
      have ho := own28 W
      have hg := Gr.alloc (Gr.refl W) (.cells (cellsB (z28)).toArray 5)
      replace ho := ho.base hX.size
      replace hX := hX.trans (Ex.ofGr hg)
      replace hc := hc.gr hg
      replace hN := hN.gr hg
      refine hK _ _ trivial ?_
      clear hK K hg mk gM
      generalize W.alloc (.cells (cellsB (z28)).toArray 5) = V at hX hc hN ho ⊢
      generalize W.heap.size = gM at ho ⊢
      (try simp only [Act.put, List.setIfInBounds_toArray, List.set_cons_zero, List.set_cons_succ])
      exact st_111101.out ⟨gA, x, t, c, gM, an, cn, gN⟩ V ⟨hX, hc, hx2, ht, ho, hN, hNb⟩
  simp only [Act.put, List.setIfInBounds_toArray, List.set_cons_zero, List.set_cons_succ] at st_111001r
  have st_111001 := Lib.hid st_111001r
  clear st_111001r
  refine with_state (α := BkS) 5 #[true, true, true, true, true, true, false, true, true, false, false, false, false] (fun a q => (((((a.put (some 53) (.slice (some ⟨q.gA, 0, none⟩) 2 2)).put (some 55) (.int .i64 q.x)).put (some 56) (.pointer (some ⟨q.gA, q.x, none⟩))).put (some 57) (.int .i64 q.t)).put (some 60) (.slice (some ⟨q.gM, 0, none⟩) 28 28))) (fun q W => Ex b v4 W ∧ Cod w.heap.size W b ∧ q.x < 2 ∧ (q.t = 3 ∨ q.t = 11) ∧ OwB v4.heap.size W (.slice (some ⟨q.gM, 0, none⟩) 28 28) (z28)) ?s_st_111100 (fun st_111100r => ?_)
  case s_st_111100 =>
    intro q W h
    obtain ⟨gA, x, t, c, gM, an, cn, gN⟩ := q
    obtain ⟨hX, hc, hx2, ht, ho⟩ := h
    simp only at hX hc hx2 ht ho
    simp only [Act.put, List.setIfInBounds_toArray, List.set_cons_zero, List.set_cons_succ]
    refine next_two 6 11 rfl rfl (by kernel_rfl) (by rfl) (by rfl) (fun K hK => ?_) (fun K hK => ?_)
    · skip
      clear c
      go_simp
      refine (next_nat b 256 W (by omega) (by omega) hc).mono ?_
      rintro e V ⟨c, rfl, hcc, hc', he⟩
      replace hX := hX.trans he
      replace hc := hc'
      replace ho := ho.ex' he hb6
      refine hK _ _ trivial ?_
      clear hK K he hc'
      (try simp only [Act.put, List.setIfInBounds_toArray, List.set_cons_zero, List.set_cons_succ])
      exact st_121100.out ⟨gA, x, t, c, gM, an, cn, gN⟩ V ⟨hX, hc, hx2, ht, hcc, ho⟩
    · skip
      go_simp
      have hN := CL.new W [.int .i64 0, .int .i64 0, .slice none 0 0] 39 _ rfl
      have hg := Gr.alloc (Gr.refl W) (.cells #[.int .i64 0, .int .i64 0, .slice none 0 0] 39)
      have hNb : v4.heap.size ≤ W.heap.size := hX.size
      simp only [List.toArray] at hN
      replace hX := hX.trans (Ex.ofGr hg)
      replace hc := hc.gr hg
      replace ho := ho.gr hg
      refine hK _ _ trivial ?_
      clear hK K hg gN
      generalize W.alloc (.cells #[.int .i64 0, .int .i64 0, .slice none 0 0] 39) = V at hX hc ho hN ⊢
      generalize W.heap.size = gN at hN hNb ⊢
      (try simp only [Act.put, List.setIfInBounds_toArray, List.set_cons_zero, List.set_cons_succ])
      exact st_111101.out ⟨gA, x, t, c, gM, an, cn, gN⟩ V ⟨hX, hc, hx2, ht, ho, hN, hNb⟩
  simp only [Act.put, List.setIfInBounds_toArray, List.set_cons_zero, List.set_cons_succ] at st_111100r
  have st_111100 := Lib.hid st_111100r
  clear st_111100r
  refine with_state (α := BkS) 5 #[true, true, true, true, false, true, true, false, true, false, false, true, false] (fun a q => (((((a.put (some 53) (.slice (some ⟨q.gA, 0, none⟩) 2 2)).put (some 55) (.int .i64 q.x)).put (some 56) (.pointer (some ⟨q.gA, q.x, none⟩))).put (some 59) (.int .i64 q.c)).put (some 9) (.pointer (some ⟨q.gN, 0, none⟩)))) (fun q W => Ex b v4 W ∧ Cod w.heap.size W b ∧ CL W q.gA [.int .i64 3, .int .i64 11] ∧ b < q.gA ∧ q.x < 2 ∧ q.c < 256 ∧ CL W q.gN [.int .i64 0, .int .i64 0, .slice none 0 0] ∧ v4.heap.size ≤ q.gN) ?s_st_120001 (fun st_120001r => ?_)
  case s_st_120001 =>
    intro q W h
    obtain ⟨gA, x, t, c, gM, an, cn, gN⟩ := q
    obtain ⟨hX, hc, hA, hAb, hx2, hcc, hN, hNb⟩ := h
    simp only at hX hc hA hAb hx2 hcc hN hNb
    simp only [Act.put, List.setIfInBounds_toArray, List.set_cons_zero, List.set_cons_succ]
    refine next_two 4 7 rfl rfl (by kernel_rfl) (by rfl) (by rfl) (fun K hK => ?_) (fun K hK => ?_)
    · skip
      clear t
      obtain ⟨t, ht, hcell⟩ : ∃ t : Nat, (t = 3 ∨ t = 11) ∧ W.cell? ⟨gA, x, none⟩ = some (.int .i64 t) := by
        rcases (show x = 0 ∨ x = 1 by omega) with rfl | rfl
        · exact ⟨3, .inl rfl, (hA.at' 0 _ rfl).1⟩
        · exact ⟨11, .inr rfl, (hA.at' 1 _ rfl).1⟩
      go_simp
      refine hK _ _ trivial ?_
      clear hK K hcell
      (try simp only [Act.put, List.setIfInBounds_toArray, List.set_cons_zero, List.set_cons_succ])
      exact st_121001.out ⟨gA, x, t, c, gM, an, cn, gN⟩ W ⟨hX, hc, hx2, ht, hcc, hN, hNb⟩
    · skip
      have mk := made28 W
      go_simp
      have ho := own28 W
      have hg := Gr.alloc (Gr.refl W) (.cells (cellsB (z28)).toArray 5)
      replace ho := ho.base hX.size
      replace hX := hX.trans (Ex.ofGr hg)
      replace hc := hc.gr hg
      replace hA := hA.gr hg
      replace hN := hN.gr hg
      refine hK _ _ trivial ?_
      clear hK K hg mk gM
      generalize W.alloc (.cells (cellsB (z28)).toArray 5) = V at hX hc hA hN ho ⊢
      generalize W.heap.size = gM at ho ⊢
      (try simp only [Act.put, List.setIfInBounds_toArray, List.set_cons_zero, List.set_cons_succ])
      exact st_120101.out ⟨gA, x, t, c, gM, an, cn, gN⟩ V ⟨hX, hc, hA, hAb, hx2, hcc, ho, hN, hNb⟩
  simp only [Act.put, List.setIfInBounds_toArray, List.set_cons_zero, List.set_cons_succ] at st_120001r
  have st_120001 := Lib.hid st_120001r
  clear st_120001r
  refine with_state (α := BkS) 5 #[true, true, true, true, false, true, true, true, true, false, false, false, false] (fun a q => (((((a.put (some 53) (.slice (some ⟨q.gA, 0, none⟩) 2 2)).put (some 55) (.int .i64 q.x)).put (some 56) (.pointer (some ⟨q.gA, q.x, none⟩))).put (some 59) (.int .i64 q.c)).put (some 60) (.slice (some ⟨q.gM, 0, none⟩) 28 28))) (fun q W => Ex b v4 W ∧ Cod w.heap.size W b ∧ CL W q.gA [.int .i64 3, .int .i64 11] ∧ b < q.gA ∧ q.x < 2 ∧ q.c < 256 ∧ OwB v4.heap.size W (.slice (some ⟨q.gM, 0, none⟩) 28 28) (z28)) ?s_st_120100 (fun st_120100r => ?_)
  case s_st_120100 =>
    intro q W h
    obtain ⟨gA, x, t, c, gM, an, cn, gN⟩ := q
    obtain ⟨hX, hc, hA, hAb, hx2, hcc, ho⟩ := h
    simp only at hX hc hA hAb hx2 hcc ho
    simp only [Act.put, List.setIfInBounds_toArray, List.set_cons_zero, List.set_cons_succ]
    refine next_three 4 9 11 rfl rfl rfl (by kernel_rfl) (by rfl) (by rfl) (by rfl) (fun K hK => ?_) (fun K hK => ?_) (fun K hK => ?_)
    · skip
      clear t
      obtain ⟨t, ht, hcell⟩ : ∃ t : Nat, (t = 3 ∨ t = 11) ∧ W.cell? ⟨gA, x, none⟩ = some (.int .i64 t) := by
        rcases (show x = 0 ∨ x = 1 by omega) with rfl | rfl
        · exact ⟨3, .inl rfl, (hA.at' 0 _ rfl).1⟩
        · exact ⟨11, .inr rfl, (hA.at' 1 _ rfl).1⟩
      go_simp
      refine hK _ _ trivial ?_
      clear hK K hcell
      (try simp only [Act.put, List.setIfInBounds_toArray, List.set_cons_zero, List.set_cons_succ])
      exact st_121100.out ⟨gA, x, t, c, gM, an, cn, gN⟩ W ⟨hX, hc, hx2, ht, hcc, ho⟩
    · skip
      refine oper_app (base := v4.heap.size) (l := z28) (m := d) (.tmp 60) (.tmp 61) rfl rfl ho rfl (HD.out.gr (Ex.gr HG.out hbw hX)) (by rw [← HN.out]; have := HN2.out; rw [z28_len]; omega) hX.size ?_
      intro vx V hq gx
      have hgm : b < gM := by have := ho.above gM rfl; omega
      replace hA := hA.grown gx (fun e => ho.ne_cl (by rw [z28_len]; decide) hA gM rfl (Option.some.inj e))
      replace hX := hX.grown' gx (fun j hj => ho.above j hj)
      replace hc := hc.grown gx (fun j hj => by have := ho.above j hj; omega)
      clear ho an cn
      obtain ⟨an, cn, rfl, -, -⟩ := hq.rb.form
      rw [HQL.out] at hq ⊢
      have ho := hq
      refine hK _ _ trivial ?_
      clear hK K gx hq hgm
      simp only [Act.put, List.setIfInBounds_toArray, List.set_cons_zero, List.set_cons_succ]
      (try simp only [Act.put, List.setIfInBounds_toArray, List.set_cons_zero, List.set_cons_succ])
      exact st_120110.out ⟨gA, x, t, c, gM, an, cn, gN⟩ V ⟨hX, hc, hA, hAb, hx2, hcc, ho⟩
    · skip
      go_simp
      have hN := CL.new W [.int .i64 0, .int .i64 0, .slice none 0 0] 39 _ rfl
      have hg := Gr.alloc (Gr.refl W) (.cells #[.int .i64 0, .int .i64 0, .slice none 0 0] 39)
      have hNb : v4.heap.size ≤ W.heap.size := hX.size
      simp only [List.toArray] at hN
      replace hX := hX.trans (Ex.ofGr hg)
      replace hc := hc.gr hg
      replace hA := hA.gr hg
      replace ho := ho.gr hg
      refine hK _ _ trivial ?_
      clear hK K hg gN
      generalize W.alloc (.cells #[.int .i64 0, .int .i64 0, .slice none 0 0] 39) = V at hX hc hA ho hN ⊢
      generalize W.heap.size = gN at hN hNb ⊢
      (try simp only [Act.put, List.setIfInBounds_toArray, List.set_cons_zero, List.set_cons_succ])
      exact st_120101.out ⟨gA, x, t, c, gM, an, cn, gN⟩ V ⟨hX, hc, hA, hAb, hx2, hcc, ho, hN, hNb⟩
  simp only [Act.put, List.setIfInBounds_toArray, List.set_cons_zero, List.set_cons_succ] at st_120100r
  have st_120100 := Lib.hid st_120100r
  clear st_120100r
  refine with_state (α := BkS) 5 #[true, true, true, true, true, true, true, false, true, false, false, false, false] (fun a q => (((((a.put (some 53) (.slice (some ⟨q.gA, 0, none⟩) 2 2)).put (some 55) (.int .i64 q.x)).put (some 56) (.pointer (some ⟨q.gA, q.x, none⟩))).put (some 57) (.int .i64 q.t)).put (some 59) (.int .i64 q.c))) (fun q W => Ex b v4 W ∧ Cod w.heap.size W b ∧ q.x < 2 ∧ (q.t = 3 ∨ q.t = 11) ∧ q.c < 256) ?s_st_121000 (fun st_121000r => ?_)
  case s_st_121000 =>
    intro q W h
    obtain ⟨gA, x, t, c, gM, an, cn, gN⟩ := q
    obtain ⟨hX, hc, hx2, ht, hcc⟩ := h
    simp only at hX hc hx2 ht hcc
    simp only [Act.put, List.setIfInBounds_toArray, List.set_cons_zero, List.set_cons_succ]
    refine next_two 7 11 rfl rfl (by kernel_rfl) (by rfl) (by rfl) (fun K hK => ?_) (fun K hK => ?_)
    · skip
      have mk := made28 W
      go_simp
      have ho := own28 W
      have hg := Gr.alloc (Gr.refl W) (.cells (cellsB (z28)).toArray 5)
      replace ho := ho.base hX.size
      replace hX := hX.trans (Ex.ofGr hg)
      replace hc := hc.gr hg
      refine hK _ _ trivial ?_
      clear hK K hg mk gM
      generalize W.alloc (.cells (cellsB (z28)).toArray 5) = V at hX hc ho ⊢
      generalize W.heap.size = gM at ho ⊢
      (try simp only [Act.put, List.setIfInBounds_toArray, List.set_cons_zero, List.set_cons_succ])
      exact st_121100.out ⟨gA, x, t, c, gM, an, cn, gN⟩ V ⟨hX, hc, hx2, ht, hcc, ho⟩
    · skip
      go_simp
      have hN := CL.new W [.int .i64 0, .int .i64 0, .slice none 0 0] 39 _ rfl
      have hg := Gr.alloc (Gr.refl W) (.cells #[.int .i64 0, .int .i64 0, .slice none 0 0] 39)
      have hNb : v4.heap.size ≤ W.heap.size := hX.size
      simp only [List.toArray] at hN
      replace hX := hX.trans (Ex.ofGr hg)
      replace hc := hc.gr hg
      refine hK _ _ trivial ?_
      clear hK K hg gN
      generalize W.alloc (.cells #[.int .i64 0, .int .i64 0, .slice none 0 0] 39) = V at hX hc hN ⊢
      generalize W.heap.size = gN at hN hNb ⊢
      (try simp only [Act.put, List.setIfInBounds_toArray, List.set_cons_zero, List.set_cons_succ])
      exact st_121001.out ⟨gA, x, t, c, gM, an, cn, gN⟩ V ⟨hX, hc, hx2, ht, hcc, hN, hNb⟩
  simp only [Act.put, List.setIfInBounds_toArray, List.set_cons_zero, List.set_cons_succ] at st_121000r
  have st_121000 := Lib.hid st_121000r
  clear st_121000r
  refine with_state (α := BkS) 6 #[false, true, true, false, false, true, true, true, true, false, false, true, false] (fun a q => ((((a.put (some 55) (.int .i64 q.x)).put (some 59) (.int .i64 q.c)).put (some 60) (.slice (some ⟨q.gM, 0, none⟩) 28 28)).put (some 9) (.pointer (some ⟨q.gN, 0, none⟩)))) (fun q W => Ex b v4 W ∧ Cod w.heap.size W b ∧ q.x < 2 ∧ q.c < 256 ∧ OwB v4.heap.size W (.slice (some ⟨q.gM, 0, none⟩) 28 28) (z28) ∧ CL W q.gN [.int .i64 0, .int .i64 0, .slice none 0 0] ∧ v4.heap.size ≤ q.gN) ?s_st_020101 (fun st_020101r => ?_)
  case s_st_020101 =>
    intro q W h
    obtain ⟨gA, x, t, c, gM, an, cn, gN⟩ := q
    obtain ⟨hX, hc, hx2, hcc, ho, hN, hNb⟩ := h
    simp only at hX hc hx2 hcc ho hN hNb
    simp only [Act.put, List.setIfInBounds_toArray, List.set_cons_zero, List.set_cons_succ]
    refine next_two 0 9 rfl rfl (by kernel_rfl) (by rfl) (by rfl) (fun K hK => ?_) (fun K hK => ?_)
    · skip
      go_simp
      have hA := CL.new W [.int .i64 3, .int .i64 11] 3 _ rfl
      have hg := Gr.alloc (Gr.refl W) (.cells #[.int .i64 3, .int .i64 11] 3)
      have hAb : b < W.heap.size := hc.lt
      simp only [List.toArray] at hA
      replace hX := hX.trans (Ex.ofGr hg)
      replace hc := hc.gr hg
      replace ho := ho.gr hg
      replace hN := hN.gr hg
      refine hK _ _ trivial ?_
      clear hK K hg gA
      generalize W.alloc (.cells #[.int .i64 3, .int .i64 11] 3) = V at hX hc ho hN hA ⊢
      generalize W.heap.size = gA at hA hAb ⊢
      refine take_at 3 (some 56) (v := .pointer (some ⟨gA, x, none⟩)) rfl rfl (by kernel_rfl) (by kernel_rfl) (by kernel_rfl) (by rfl) ?yi6 hS ?ti6
      case yi6 =>
        intro w' hSw
        have hxi : (x : Int) < 2 := by omega
        go_simp
        (try with_reducible rfl)
      (try simp only [Act.put, List.setIfInBounds_toArray, List.set_cons_zero, List.set_cons_succ])
      exact st_120101.out ⟨gA, x, t, c, gM, an, cn, gN⟩ V ⟨hX, hc, hA, hAb, hx2, hcc, ho, hN, hNb⟩
    · skip
      refine oper_app (base := v4.heap.size) (l := z28) (m := d) (.tmp 60) (.tmp 61) rfl rfl ho rfl (HD.out.gr (Ex.gr HG.out hbw hX)) (by rw [← HN.out]; have := HN2.out; rw [z28_len]; omega) hX.size ?_
      intro vx V hq gx
      have hgm : b < gM := by have := ho.above gM rfl; omega
      replace hN := hN.grown gx (fun e => ho.ne_cl (by rw [z28_len]; decide) hN gM rfl (Option.some.inj e))
      replace hX := hX.grown' gx (fun j hj => ho.above j hj)
      replace hc := hc.grown gx (fun j hj => by have := ho.above j hj; omega)
      clear ho an cn
      obtain ⟨an, cn, rfl, -, -⟩ := hq.rb.form
      rw [HQL.out] at hq ⊢
      have ho := hq
      refine hK _ _ trivial ?_
      clear hK K gx hq hgm
      simp only [Act.put, List.setIfInBounds_toArray, List.set_cons_zero, List.set_cons_succ]
      (try simp only [Act.put, List.setIfInBounds_toArray, List.set_cons_zero, List.set_cons_succ])
      exact st_020111.out ⟨gA, x, t, c, gM, an, cn, gN⟩ V ⟨hX, hc, hx2, hcc, ho, hN, hNb⟩
  simp only [Act.put, List.setIfInBounds_toArray, List.set_cons_zero, List.set_cons_succ] at st_020101r
  have st_020101 := Lib.hid st_020101r
  clear st_020101r
  refine with_state (α := BkS) 6 #[false, true, true, false, false, true, true, true, true, true, false, false, false] (fun a q => ((((a.put (some 55) (.int .i64 q.x)).put (some 59) (.int .i64 q.c)).put (some 60) (.slice (some ⟨q.gM, 0, none⟩) 28 28)).put (some 62) (.slice q.an NQ q.cn))) (fun q W => Ex b v4 W ∧ Cod w.heap.size W b ∧ q.x < 2 ∧ q.c < 256 ∧ OwB v4.heap.size W (.slice q.an NQ q.cn) (z28 ++ d)) ?s_st_020110 (fun st_020110r => ?_)
  case s_st_020110 =>
    intro q W h
    obtain ⟨gA, x, t, c, gM, an, cn, gN⟩ := q
    obtain ⟨hX, hc, hx2, hcc, ho⟩ := h
    simp only at hX hc hx2 hcc ho
    simp only [Act.put, List.setIfInBounds_toArray, List.set_cons_zero, List.set_cons_succ]
    refine next_two 0 11 rfl rfl (by kernel_rfl) (by rfl) (by rfl) (fun K hK => ?_) (fun K hK => ?_)
    · skip
      go_simp
      have hA := CL.new W [.int .i64 3, .int .i64 11] 3 _ rfl
      have hg := Gr.alloc (Gr.refl W) (.cells #[.int .i64 3, .int .i64 11] 3)
      have hAb : b < W.heap.size := hc.lt
      simp only [List.toArray] at hA
      replace hX := hX.trans (Ex.ofGr hg)
      replace hc := hc.gr hg
      replace ho := ho.gr hg
      refine hK _ _ trivial ?_
      clear hK K hg gA
      generalize W.alloc (.cells #[.int .i64 3, .int .i64 11] 3) = V at hX hc ho hA ⊢
      generalize W.heap.size = gA at hA hAb ⊢
      refine take_at 3 (some 56) (v := .pointer (some ⟨gA, x, none⟩)) rfl rfl (by kernel_rfl) (by kernel_rfl) (by kernel_rfl) (by rfl) ?yi7 hS ?ti7
      case yi7 =>
        intro w' hSw
        have hxi : (x : Int) < 2 := by omega
        go_simp
        (try with_reducible rfl)
      (try simp only [Act.put, List.setIfInBounds_toArray, List.set_cons_zero, List.set_cons_succ])
      exact st_120110.out ⟨gA, x, t, c, gM, an, cn, gN⟩ V ⟨hX, hc, hA, hAb, hx2, hcc, ho⟩
    · skip
      go_simp
      have hN := CL.new W [.int .i64 0, .int .i64 0, .slice none 0 0] 39 _ rfl
      have hg := Gr.alloc (Gr.refl W) (.cells #[.int .i64 0, .int .i64 0, .slice none 0 0] 39)
      have hNb : v4.heap.size ≤ W.heap.size := hX.size
      simp only [List.toArray] at hN
      replace hX := hX.trans (Ex.ofGr hg)
      replace hc := hc.gr hg
      replace ho := ho.gr hg
      refine hK _ _ trivial ?_
      clear hK K hg gN
      generalize W.alloc (.cells #[.int .i64 0, .int .i64 0, .slice none 0 0] 39) = V at hX hc ho hN ⊢
      generalize W.heap.size = gN at hN hNb ⊢
      (try simp only [Act.put, List.setIfInBounds_toArray, List.set_cons_zero, List.set_cons_succ])
      exact st_020111.out ⟨gA, x, t, c, gM, an, cn, gN⟩ V ⟨hX, hc, hx2, hcc, ho, hN, hNb⟩
  simp only [Act.put, List.setIfInBounds_toArray, List.set_cons_zero, List.set_cons_succ] at st_020110r
  have st_020110 := Lib.hid st_020110r
  clear st_020110r
  refine with_state (α := BkS) 6 #[true, true, true, true, false, true, false, false, true, false, false, true, false] (fun a q => ((((a.put (some 53) (.slice (some ⟨q.gA, 0, none⟩) 2 2)).put (some 55) (.int .i64 q.x)).put (some 56) (.pointer (some ⟨q.gA, q.x, none⟩))).put (some 9) (.pointer (some ⟨q.gN, 0, none⟩)))) (fun q W => Ex b v4 W ∧ Cod w.heap.size W b ∧ CL W q.gA [.int .i64 3, .int .i64 11] ∧ b < q.gA ∧ q.x < 2 ∧ CL W q.gN [.int .i64 0, .int .i64 0, .slice none 0 0] ∧ v4.heap.size ≤ q.gN) ?s_st_110001 (fun st_110001r => ?_)
  case s_st_110001 =>
    intro q W h
    obtain ⟨gA, x, t, c, gM, an, cn, gN⟩ := q
    obtain ⟨hX, hc, hA, hAb, hx2, hN, hNb⟩ := h
    simp only at hX hc hA hAb hx2 hN hNb
    simp only [Act.put, List.setIfInBounds_toArray, List.set_cons_zero, List.set_cons_succ]
    refine next_three 4 6 7 rfl rfl rfl (by kernel_rfl) (by rfl) (by rfl) (by rfl) (fun K hK => ?_) (fun K hK => ?_) (fun K hK => ?_)
    · skip
      clear t
      obtain ⟨t, ht, hcell⟩ : ∃ t : Nat, (t = 3 ∨ t = 11) ∧ W.cell? ⟨gA, x, none⟩ = some (.int .i64 t) := by
        rcases (show x = 0 ∨ x = 1 by omega) with rfl | rfl
        · exact ⟨3, .inl rfl, (hA.at' 0 _ rfl).1⟩
        · exact ⟨11, .inr rfl, (hA.at' 1 _ rfl).1⟩
      go_simp
      refine hK _ _ trivial ?_
      clear hK K hcell
      (try simp only [Act.put, List.setIfInBounds_toArray, List.set_cons_zero, List.set_cons_succ])
      exact st_111001.out ⟨gA, x, t, c, gM, an, cn, gN⟩ W ⟨hX, hc, hx2, ht, hN, hNb⟩
    · skip
      clear c
      go_simp
      refine (next_nat b 256 W (by omega) (by omega) hc).mono ?_
      rintro e V ⟨c, rfl, hcc, hc', he⟩
      replace hX := hX.trans he
      replace hc := hc'
      replace hA := hA.ex he (by omega)
      replace hN := hN.ex he (by omega)
      refine hK _ _ trivial ?_
      clear hK K he hc'
      (try simp only [Act.put, List.setIfInBounds_toArray, List.set_cons_zero, List.set_cons_succ])
      exact st_120001.out ⟨gA, x, t, c, gM, an, cn, gN⟩ V ⟨hX, hc, hA, hAb, hx2, hcc, hN, hNb⟩
    · skip
      have mk := made28 W
      go_simp
      have ho := own28 W
      have hg := Gr.alloc (Gr.refl W) (.cells (cellsB (z28)).toArray 5)
      replace ho := ho.base hX.size
      replace hX := hX.trans (Ex.ofGr hg)
      replace hc := hc.gr hg
      replace hA := hA.gr hg
      replace hN := hN.gr hg
      refine hK _ _ trivial ?_
      clear hK K hg mk gM
      generalize W.alloc (.cells (cellsB (z28)).toArray 5) = V at hX hc hA hN ho ⊢
      generalize W.heap.size = gM at ho ⊢
      (try simp only [Act.put, List.setIfInBounds_toArray, List.set_cons_zero, List.set_cons_succ])
      exact st_110101.out ⟨gA, x, t, c, gM, an, cn, gN⟩ V ⟨hX, hc, hA, hAb, hx2, ho, hN, hNb⟩
  simp only [Act.put, List.setIfInBounds_toArray, List.set_cons_zero, List.set_cons_succ] at st_110001r
  have st_110001 := Lib.hid st_110001r
  clear st_110001r
  refine with_state (α := BkS) 6 #[true, true, true, true, false, true, false, true, true, false, false, false, false] (fun a q => ((((a.put (some 53) (.slice (some ⟨q.gA, 0, none⟩) 2 2)).put (some 55) (.int .i64 q.x)).put (some 56) (.pointer (some ⟨q.gA, q.x, none⟩))).put (some 60) (.slice (some ⟨q.gM, 0, none⟩) 28 28))) (fun q W => Ex b v4 W ∧ Cod w.heap.size W b ∧ CL W q.gA [.int .i64 3, .int .i64 11] ∧ b < q.gA ∧ q.x < 2 ∧ OwB v4.heap.size W (.slice (some ⟨q.gM, 0, none⟩) 28 28) (z28)) ?s_st_110100 (fun st_110100r => ?_)
  case s_st_110100 =>
    intro q W h
    obtain ⟨gA, x, t, c, gM, an, cn, gN⟩ := q
    obtain ⟨hX, hc, hA, hAb, hx2, ho⟩ := h
    simp only at hX hc hA hAb hx2 ho
    simp only [Act.put, List.setIfInBounds_toArray, List.set_cons_zero, List.set_cons_succ]
    refine next_three 4 6 11 rfl rfl rfl (by kernel_rfl) (by rfl) (by rfl) (by rfl) (fun K hK => ?_) (fun K hK => ?_) (fun K hK => ?_)
    · skip
      clear t
      obtain ⟨t, ht, hcell⟩ : ∃ t : Nat, (t = 3 ∨ t = 11) ∧ W.cell? ⟨gA, x, none⟩ = some (.int .i64 t) := by
        rcases (show x = 0 ∨ x = 1 by omega) with rfl | rfl
        · exact ⟨3, .inl rfl, (hA.at' 0 _ rfl).1⟩
        · exact ⟨11, .inr rfl, (hA.at' 1 _ rfl).1⟩
      go_simp
      refine hK _ _ trivial ?_
      clear hK K hcell
      (try simp only [Act.put, List.setIfInBounds_toArray, List.set_cons_zero, List.set_cons_succ])
      exact st_111100.out ⟨gA, x, t, c, gM, an, cn, gN⟩ W ⟨hX, hc, hx2, ht, ho⟩
    · skip
      clear c
      go_simp
      refine (next_nat b 256 W (by omega) (by omega) hc).mono ?_
      rintro e V ⟨c, rfl, hcc, hc', he⟩
      replace hX := hX.trans he
      replace hc := hc'
      replace hA := hA.ex he (by omega)
      replace ho := ho.ex' he hb6
      refine hK _ _ trivial ?_
      clear hK K he hc'
      (try simp only [Act.put, List.setIfInBounds_toArray, List.set_cons_zero, List.set_cons_succ])
      exact st_120100.out ⟨gA, x, t, c, gM, an, cn, gN⟩ V ⟨hX, hc, hA, hAb, hx2, hcc, ho⟩
    · skip
      go_simp
      have hN := CL.new W [.int .i64 0, .int .i64 0, .slice none 0 0] 39 _ rfl
      have hg := Gr.alloc (Gr.refl W) (.cells #[.int .i64 0, .int .i64 0, .slice none 0 0] 39)
      have hNb : v4.heap.size ≤ W.heap.size := hX.size
      simp only [List.toArray] at hN
      replace hX := hX.trans (Ex.ofGr hg)
      replace hc := hc.gr hg
      replace hA := hA.gr hg
      replace ho := ho.gr hg
      refine hK _ _ trivial ?_
      clear hK K hg gN
      generalize W.alloc (.cells #[.int .i64 0, .int .i64 0, .slice none 0 0] 39) = V at hX hc hA ho hN ⊢
      generalize W.heap.size = gN at hN hNb ⊢
      (try simp only [Act.put, List.setIfInBounds_toArray, List.set_cons_zero, List.set_cons_succ])
      exact st_110101.out ⟨gA, x, t, c, gM, an, cn, gN⟩ V ⟨hX, hc, hA, hAb, hx2, ho, hN, hNb⟩
  simp only [Act.put, List.setIfInBounds_toArray, List.set_cons_zero, List.set_cons_succ] at st_110100r
  have st_110100 := Lib.hid st_110100r
  clear st_110100r
  refine with_state (α := BkS) 6 #[true, true, true, true, true, true, false, false, true, false, false, false, false] (fun a q => ((((a.put (some 53) (.slice (some ⟨q.gA, 0, none⟩) 2 2)).put (some 55) (.int .i64 q.x)).put (some 56) (.pointer (some ⟨q.gA, q.x, none⟩))).put (some 57) (.int .i64 q.t))) (fun q W => Ex b v4 W ∧ Cod w.heap.size W b ∧ q.x < 2 ∧ (q.t = 3 ∨ q.t = 11)) ?s_st_111000 (fun st_111000r => ?_)
  case s_st_111000 =>
    intro q W h
    obtain ⟨gA, x, t, c, gM, an, cn, gN⟩ := q
    obtain ⟨hX, hc, hx2, ht⟩ := h
    simp only at hX hc hx2 ht
    simp only [Act.put, List.setIfInBounds_toArray, List.set_cons_zero, List.set_cons_succ]
    refine next_three 6 7 11 rfl rfl rfl (by kernel_rfl) (by rfl) (by rfl) (by rfl) (fun K hK => ?_) (fun K hK => ?_) (fun K hK => ?_)
    · skip
      clear c
      go_simp
      refine (next_nat b 256 W (by omega) (by omega) hc).mono ?_
      rintro e V ⟨c, rfl, hcc, hc', he⟩
      replace hX := hX.trans he
      replace hc := hc'
      refine hK _ _ trivial ?_
      clear hK K he hc'
      (try simp only [Act.put, List.setIfInBounds_toArray, List.set_cons_zero, List.set_cons_succ])
      exact st_121000.out ⟨gA, x, t, c, gM, an, cn, gN⟩ V ⟨hX, hc, hx2, ht, hcc⟩
    · skip
      have mk := made28 W
      go_simp
      have ho := own28 W
      have hg := Gr.alloc (Gr.refl W) (.cells (cellsB (z28)).toArray 5)
      replace ho := ho.base hX.size
      replace hX := hX.trans (Ex.ofGr hg)
      replace hc := hc.gr hg
      refine hK _ _ trivial ?_
      clear hK K hg mk gM
      generalize W.alloc (.cells (cellsB (z28)).toArray 5) = V at hX hc ho ⊢
      generalize W.heap.size = gM at ho ⊢
      (try simp only [Act.put, List.setIfInBounds_toArray, List.set_cons_zero, List.set_cons_succ])
      exact st_111100.out ⟨gA, x, t, c, gM, an, cn, gN⟩ V ⟨hX, hc, hx2, ht, ho⟩
    · skip
      go_simp
      have hN := CL.new W [.int .i64 0, .int .i64 0, .slice none 0 0] 39 _ rfl
      have hg := Gr.alloc (Gr.refl W) (.cells #[.int .i64 0, .int .i64 0, .slice none 0 0] 39)
      have hNb : v4.heap.size ≤ W.heap.size := hX.size
      simp only [List.toArray] at hN
      replace hX := hX.trans (Ex.ofGr hg)
      replace hc := hc.gr hg
      refine hK _ _ trivial ?_
      clear hK K hg gN
      generalize W.alloc (.cells #[.int .i64 0, .int .i64 0, .slice none 0 0] 39) = V at hX hc hN ⊢
      generalize W.heap.size = gN at hN hNb ⊢
      (try simp only [Act.put, List.setIfInBounds_toArray, List.set_cons_zero, List.set_cons_succ])
      exact st_111001.out ⟨gA, x, t, c, gM, an, cn, gN⟩ V ⟨hX, hc, hx2, ht, hN, hNb⟩
  simp only [Act.put, List.setIfInBounds_toArray, List.set_cons_zero, List.set_cons_succ] at st_111000r
  have st_111000 := Lib.hid st_111000r
  clear st_111000r
  refine with_state (α := BkS) 6 #[true, true, true, true, false, true, true, false, true, false, false, false, false] (fun a q => ((((a.put (some 53) (.slice (some ⟨q.gA, 0, none⟩) 2 2)).put (some 55) (.int .i64 q.x)).put (some 56) (.pointer (some ⟨q.gA, q.x, none⟩))).put (some 59) (.int .i64 q.c))) (fun q W => Ex b v4 W ∧ Cod w.heap.size W b ∧ CL W q.gA [.int .i64 3, .int .i64 11] ∧ b < q.gA ∧ q.x < 2 ∧ q.c < 256) ?s_st_120000 (fun st_120000r => ?_)
  case s_st_120000 =>
    intro q W h
    obtain ⟨gA, x, t, c, gM, an, cn, gN⟩ := q
    obtain ⟨hX, hc, hA, hAb, hx2, hcc⟩ := h
    simp only at hX hc hA hAb hx2 hcc
    simp only [Act.put, List.setIfInBounds_toArray, List.set_cons_zero, List.set_cons_succ]
    refine next_three 4 7 11 rfl rfl rfl (by kernel_rfl) (by rfl) (by rfl) (by rfl) (fun K hK => ?_) (fun K hK => ?_) (fun K hK => ?_)
    · skip
      clear t
      obtain ⟨t, ht, hcell⟩ : ∃ t : Nat, (t = 3 ∨ t = 11) ∧ W.cell? ⟨gA, x, none⟩ = some (.int .i64 t) := by
        rcases (show x = 0 ∨ x = 1 by omega) with rfl | rfl
        · exact ⟨3, .inl rfl, (hA.at' 0 _ rfl).1⟩
        · exact ⟨11, .inr rfl, (hA.at' 1 _ rfl).1⟩
      go_simp
      refine hK _ _ trivial ?_
      clear hK K hcell
      (try simp only [Act.put, List.setIfInBounds_toArray, List.set_cons_zero, List.set_cons_succ])
      exact st_121000.out ⟨gA, x, t, c, gM, an, cn, gN⟩ W ⟨hX, hc, hx2, ht, hcc⟩
    · skip
      have mk := made28 W
      go_simp
      have ho := own28 W
      have hg := Gr.alloc (Gr.refl W) (.cells (cellsB (z28)).toArray 5)
      replace ho := ho.base hX.size
      replace hX := hX.trans (Ex.ofGr hg)
      replace hc := hc.gr hg
      replace hA := hA.gr hg
      refine hK _ _ trivial ?_
      clear hK K hg mk gM
      generalize W.alloc (.cells (cellsB (z28)).toArray 5) = V at hX hc hA ho ⊢
      generalize W.heap.size = gM at ho ⊢
      (try simp only [Act.put, List.setIfInBounds_toArray, List.set_cons_zero, List.set_cons_succ])
      exact st_120100.out ⟨gA, x, t, c, gM, an, cn, gN⟩ V ⟨hX, hc, hA, hAb, hx2, hcc, ho⟩
    · skip
      go_simp
      have hN := CL.new W [.int .i64 0, .int .i64 0, .slice none 0 0] 39 _ rfl
      have hg := Gr.alloc (Gr.refl W) (.cells #[.int .i64 0, .int .i64 0, .slice none 0 0] 39)
      have hNb : v4.heap.size ≤ W.heap.size := hX.size
      simp only [List.toArray] at hN
      replace hX := hX.trans (Ex.ofGr hg)
      replace hc := hc.gr hg
      replace hA := hA.gr hg
      refine hK _ _ trivial ?_
      clear hK K hg gN
      generalize W.alloc (.cells #[.int .i64 0, .int .i64 0, .slice none 0 0] 39) = V at hX hc hA hN ⊢
      generalize W.heap.size = gN at hN hNb ⊢
      (try simp only [Act.put, List.setIfInBounds_toArray, List.set_cons_zero, List.set_cons_succ])
      exact st_120001.out ⟨gA, x, t, c, gM, an, cn, gN⟩ V ⟨hX, hc, hA, hAb, hx2, hcc, hN, hNb⟩
  simp only [Act.put, List.setIfInBounds_toArray, List.set_cons_zero, List.set_cons_succ] at st_120000r
  have st_120000 := Lib.hid st_120000r
  clear st_120000r
  refine with_state (α := BkS) 7 #[false, true, true, false, false, true, false, true, true, false, false, true, false] (fun a q => (((a.put (some 55) (.int .i64 q.x)).put (some 60) (.slice (some ⟨q.gM, 0, none⟩) 28 28)).put (some 9) (.pointer (some ⟨q.gN, 0, none⟩)))) (fun q W => Ex b v4 W ∧ Cod w.heap.size W b ∧ q.x < 2 ∧ OwB v4.heap.size W (.slice (some ⟨q.gM, 0, none⟩) 28 28) (z28) ∧ CL W q.gN [.int .i64 0, .int .i64 0, .slice none 0 0] ∧ v4.heap.size ≤ q.gN) ?s_st_010101 (fun st_010101r => ?_)
  case s_st_010101 =>
    intro q W h
    obtain ⟨gA, x, t, c, gM, an, cn, gN⟩ := q
    obtain ⟨hX, hc, hx2, ho, hN, hNb⟩ := h
    simp only at hX hc hx2 ho hN hNb
    simp only [Act.put, List.setIfInBounds_toArray, List.set_cons_zero, List.set_cons_succ]
    refine next_two 0 6 rfl rfl (by kernel_rfl) (by rfl) (by rfl) (fun K hK => ?_) (fun K hK => ?_)
    · skip
      go_simp
      have hA := CL.new W [.int .i64 3, .int .i64 11] 3 _ rfl
      have hg := Gr.alloc (Gr.refl W) (.cells #[.int .i64 3, .int .i64 11] 3)
      have hAb : b < W.heap.size := hc.lt
      simp only [List.toArray] at hA
      replace hX := hX.trans (Ex.ofGr hg)
      replace hc := hc.gr hg
      replace ho := ho.gr hg
      replace hN := hN.gr hg
      refine hK _ _ trivial ?_
      clear hK K hg gA
      generalize W.alloc (.cells #[.int .i64 3, .int .i64 11] 3) = V at hX hc ho hN hA ⊢
      generalize W.heap.size = gA at hA hAb ⊢
      refine take_at 3 (some 56) (v := .pointer (some ⟨gA, x, none⟩)) rfl rfl (by kernel_rfl) (by kernel_rfl) (by kernel_rfl) (by rfl) ?yi8 hS ?ti8
      case yi8 =>
        intro w' hSw
        have hxi : (x : Int) < 2 := by omega
        go_simp
        (try with_reducible rfl)
      (try simp only [Act.put, List.setIfInBounds_toArray, List.set_cons_zero, List.set_cons_succ])
      exact st_110101.out ⟨gA, x, t, c, gM, an, cn, gN⟩ V ⟨hX, hc, hA, hAb, hx2, ho, hN, hNb⟩
    · skip
      clear c
      go_simp
      refine (next_nat b 256 W (by omega) (by omega) hc).mono ?_
      rintro e V ⟨c, rfl, hcc, hc', he⟩
      replace hX := hX.trans he
      replace hc := hc'
      replace ho := ho.ex' he hb6
      replace hN := hN.ex he (by omega)
      refine hK _ _ trivial ?_
      clear hK K he hc'
      (try simp only [Act.put, List.setIfInBounds_toArray, List.set_cons_zero, List.set_cons_succ])
      exact st_020101.out ⟨gA, x, t, c, gM, an, cn, gN⟩ V ⟨hX, hc, hx2, hcc, ho, hN, hNb⟩
  simp only [Act.put, List.setIfInBounds_toArray, List.set_cons_zero, List.set_cons_succ] at st_010101r
  have st_010101 := Lib.hid st_010101r
  clear st_010101r
  refine with_state (α := BkS) 7 #[false, true, true, false, false, true, true, false, true, false, false, true, false] (fun a q => (((a.put (some 55) (.int .i64 q.x)).put (some 59) (.int .i64 q.c)).put (some 9) (.pointer (some ⟨q.gN, 0, none⟩)))) (fun q W => Ex b v4 W ∧ Cod w.heap.size W b ∧ q.x < 2 ∧ q.c < 256 ∧ CL W q.gN [.int .i64 0, .int .i64 0, .slice none 0 0] ∧ v4.heap.size ≤ q.gN) ?s_st_020001 (fun st_020001r => ?_)
  case s_st_020001 =>
    intro q W h
    obtain ⟨gA, x, t, c, gM, an, cn, gN⟩ := q
    obtain ⟨hX, hc, hx2, hcc, hN, hNb⟩ := h
    simp only at hX hc hx2 hcc hN hNb
    simp only [Act.put, List.setIfInBounds_toArray, List.set_cons_zero, List.set_cons_succ]
    refine next_two 0 7 rfl rfl (by kernel_rfl) (by rfl) (by rfl) (fun K hK => ?_) (fun K hK => ?_)
    · skip
      go_simp
      have hA := CL.new W [.int .i64 3, .int .i64 11] 3 _ rfl
      have hg := Gr.alloc (Gr.refl W) (.cells #[.int .i64 3, .int .i64 11] 3)
      have hAb : b < W.heap.size := hc.lt
      simp only [List.toArray] at hA
      replace hX := hX.trans (Ex.ofGr hg)
      replace hc := hc.gr hg
      replace hN := hN.gr hg
      refine hK _ _ trivial ?_
      clear hK K hg gA
      generalize W.alloc (.cells #[.int .i64 3, .int .i64 11] 3) = V at hX hc hN hA ⊢
      generalize W.heap.size = gA at hA hAb ⊢
      refine take_at 3 (some 56) (v := .pointer (some ⟨gA, x, none⟩)) rfl rfl (by kernel_rfl) (by kernel_rfl) (by kernel_rfl) (by rfl) ?yi9 hS ?ti9
      case yi9 =>
        intro w' hSw
        have hxi : (x : Int) < 2 := by omega
        go_simp
        (try with_reducible rfl)
      (try simp only [Act.put, List.setIfInBounds_toArray, List.set_cons_zero, List.set_cons_succ])
      exact st_120001.out ⟨gA, x, t, c, gM, an, cn, gN⟩ V ⟨hX, hc, hA, hAb, hx2, hcc, hN, hNb⟩
    · skip
      have mk := made28 W
      go_simp
      have ho := own28 W
      have hg := Gr.alloc (Gr.refl W) (.cells (cellsB (z28)).toArray 5)
      replace ho := ho.base hX.size
      replace hX := hX.trans (Ex.ofGr hg)
      replace hc := hc.gr hg
      replace hN := hN.gr hg
      refine hK _ _ trivial ?_
      clear hK K hg mk gM
      generalize W.alloc (.cells (cellsB (z28)).toArray 5) = V at hX hc hN ho ⊢
      generalize W.heap.size = gM at ho ⊢
      (try simp only [Act.put, List.setIfInBounds_toArray, List.set_cons_zero, List.set_cons_succ])
      exact st_020101.out ⟨gA, x, t, c, gM, an, cn, gN⟩ V ⟨hX, hc, hx2, hcc, ho, hN, hNb⟩
  simp only [Act.put, List.setIfInBounds_toArray, List.set_cons_zero, List.set_cons_succ] at st_020001r
  have st_020001 := Lib.hid st_020001r
  clear st_020001r
  refine with_state (α := BkS) 7 #[false, true, true, false, false, true, true, true, true, false, false, false, false] (fun a q => (((a.put (some 55) (.int .i64 q.x)).put (some 59) (.int .i64 q.c)).put (some 60) (.slice (some ⟨q.gM, 0, none⟩) 28 28))) (fun q W => Ex b v4 W ∧ Cod w.heap.size W b ∧ q.x < 2 ∧ q.c < 256 ∧ OwB v4.heap.size W (.slice (some ⟨q.gM, 0, none⟩) 28 28) (z28)) ?s_st_020100 (fun st_020100r => ?_)
  case s_st_020100 =>
    intro q W h
    obtain ⟨gA, x, t, c, gM, an, cn, gN⟩ := q
    obtain ⟨hX, hc, hx2, hcc, ho⟩ := h
    simp only at hX hc hx2 hcc ho
    simp only [Act.put, List.setIfInBounds_toArray, List.set_cons_zero, List.set_cons_succ]
    refine next_three 0 9 11 rfl rfl rfl (by kernel_rfl) (by rfl) (by rfl) (by rfl) (fun K hK => ?_) (fun K hK => ?_) (fun K hK => ?_)
    · skip
      go_simp
      have hA := CL.new W [.int .i64 3, .int .i64 11] 3 _ rfl
      have hg := Gr.alloc (Gr.refl W) (.cells #[.int .i64 3, .int .i64 11] 3)
      have hAb : b < W.heap.size := hc.lt
      simp only [List.toArray] at hA
      replace hX := hX.trans (Ex.ofGr hg)
      replace hc := hc.gr hg
      replace ho := ho.gr hg
      refine hK _ _ trivial ?_
      clear hK K hg gA
      generalize W.alloc (.cells #[.int .i64 3, .int .i64 11] 3) = V at hX hc ho hA ⊢
      generalize W.heap.size = gA at hA hAb ⊢
      refine take_at 3 (some 56) (v := .pointer (some ⟨gA, x, none⟩)) rfl rfl (by kernel_rfl) (by kernel_rfl) (by kernel_rfl) (by rfl) ?yi10 hS ?ti10
      case yi10 =>
        intro w' hSw
        have hxi : (x : Int) < 2 := by omega
        go_simp
        (try with_reducible rfl)
      (try simp only [Act.put, List.setIfInBounds_toArray, List.set_cons_zero, List.set_cons_succ])
      exact st_120100.out ⟨gA, x, t, c, gM, an, cn, gN⟩ V ⟨hX, hc, hA, hAb, hx2, hcc, ho⟩
    · skip
      refine oper_app (base := v4.heap.size) (l := z28) (m := d) (.tmp 60) (.tmp 61) rfl rfl ho rfl (HD.out.gr (Ex.gr HG.out hbw hX)) (by rw [← HN.out]; have := HN2.out; rw [z28_len]; omega) hX.size ?_
      intro vx V hq gx
      have hgm : b < gM := by have := ho.above gM rfl; omega
      replace hX := hX.grown' gx (fun j hj => ho.above j hj)
      replace hc := hc.grown gx (fun j hj => by have := ho.above j hj; omega)
      clear ho an cn
      obtain ⟨an, cn, rfl, -, -⟩ := hq.rb.form
      rw [HQL.out] at hq ⊢
      have ho := hq
      refine hK _ _ trivial ?_
      clear hK K gx hq hgm
      simp only [Act.put, List.setIfInBounds_toArray, List.set_cons_zero, List.set_cons_succ]
      (try simp only [Act.put, List.setIfInBounds_toArray, List.set_cons_zero, List.set_cons_succ])
      exact st_020110.out ⟨gA, x, t, c, gM, an, cn, gN⟩ V ⟨hX, hc, hx2, hcc, ho⟩
    · skip
      go_simp
      have hN := CL.new W [.int .i64 0, .int .i64 0, .slice none 0 0] 39 _ rfl
      have hg := Gr.alloc (Gr.refl W) (.cells #[.int .i64 0, .int .i64 0, .slice none 0 0] 39)
      have hNb : v4.heap.size ≤ W.heap.size := hX.size
      simp only [List.toArray] at hN
      replace hX := hX.trans (Ex.ofGr hg)
      replace hc := hc.gr hg
      replace ho := ho.gr hg
      refine hK _ _ trivial ?_
      clear hK K hg gN
      generalize W.alloc (.cells #[.int .i64 0, .int .i64 0, .slice none 0 0] 39) = V at hX hc ho hN ⊢
      generalize W.heap.size = gN at hN hNb ⊢
      (try simp only [Act.put, List.setIfInBounds_toArray, List.set_cons_zero, List.set_cons_succ])
      exact st_020101.out ⟨gA, x, t, c, gM, an, cn, gN⟩ V ⟨hX, hc, hx2, hcc, ho, hN, hNb⟩
  simp only [Act.put, List.setIfInBounds_toArray, List.set_cons_zero, List.set_cons_succ] at st_020100r
  have st_020100 := Lib.hid st_020100r
  clear st_020100r
  refine with_state (α := BkS) 7 #[true, true, false, false, false, true, false, true, true, false, false, true, false] (fun a q => (((a.put (some 53) (.slice (some ⟨q.gA, 0, none⟩) 2 2)).put (some 60) (.slice (some ⟨q.gM, 0, none⟩) 28 28)).put (some 9) (.pointer (some ⟨q.gN, 0, none⟩)))) (fun q W => Ex b v4 W ∧ Cod w.heap.size W b ∧ CL W q.gA [.int .i64 3, .int .i64 11] ∧ b < q.gA ∧ OwB v4.heap.size W (.slice (some ⟨q.gM, 0, none⟩) 28 28) (z28) ∧ CL W q.gN [.int .i64 0, .int .i64 0, .slice none 0 0] ∧ v4.heap.size ≤ q.gN) ?s_st_100101 (fun st_100101r => ?_)
  case s_st_100101 =>
    intro q W h
    obtain ⟨gA, x, t, c, gM, an, cn, gN⟩ := q
    obtain ⟨hX, hc, hA, hAb, ho, hN, hNb⟩ := h
    simp only at hX hc hA hAb ho hN hNb
    simp only [Act.put, List.setIfInBounds_toArray, List.set_cons_zero, List.set_cons_succ]
    refine next_at 2 rfl (by kernel_rfl) (by rfl) (fun K hK => ?_)
    · skip
      clear x
      go_simp
      refine (next_nat b 2 W (by omega) (by omega) hc).mono ?_
      rintro e V ⟨x, rfl, hx2, hc', he⟩
      replace hX := hX.trans he
      replace hc := hc'
      replace hA := hA.ex he (by omega)
      replace ho := ho.ex' he hb6
      replace hN := hN.ex he (by omega)
      refine hK _ _ trivial ?_
      clear hK K he hc'
      refine take_at 3 (some 56) (v := .pointer (some ⟨gA, x, none⟩)) rfl rfl (by kernel_rfl) (by kernel_rfl) (by kernel_rfl) (by rfl) ?yi11 hS ?ti11
      case yi11 =>
        intro w' hSw
        have hxi : (x : Int) < 2 := by omega
        go_simp
        (try with_reducible rfl)
      (try simp only [Act.put, List.setIfInBounds_toArray, List.set_cons_zero, List.set_cons_succ])
      exact st_110101.out ⟨gA, x, t, c, gM, an, cn, gN⟩ V ⟨hX, hc, hA, hAb, hx2, ho, hN, hNb⟩
  simp only [Act.put, List.setIfInBounds_toArray, List.set_cons_zero, List.set_cons_succ] at st_100101r
  have st_100101 := Lib.hid st_100101r
  clear st_100101r
  refine with_state (α := BkS) 7 #[true, true, true, true, false, true, false, false, true, false, false, false, false] (fun a q => (((a.put (some 53) (.slice (some ⟨q.gA, 0, none⟩) 2 2)).put (some 55) (.int .i64 q.x)).put (some 56) (.pointer (some ⟨q.gA, q.x, none⟩)))) (fun q W => Ex b v4 W ∧ Cod w.heap.size W b ∧ CL W q.gA [.int .i64 3, .int .i64 11] ∧ b < q.gA ∧ q.x < 2) ?s_st_110000 (fun st_110000r => ?_)
  case s_st_110000 =>
    intro q W h
    obtain ⟨gA, x, t, c, gM, an, cn, gN⟩ := q
    obtain ⟨hX, hc, hA, hAb, hx2⟩ := h
    simp only at hX hc hA hAb hx2
    simp only [Act.put, List.setIfInBounds_toArray, List.set_cons_zero, List.set_cons_succ]
    refine next_four 4 6 7 11 rfl rfl rfl rfl (by kernel_rfl) (by rfl) (by rfl) (by rfl) (by rfl) (fun K hK => ?_) (fun K hK => ?_) (fun K hK => ?_) (fun K hK => ?_)
    · skip
      clear t
      obtain ⟨t, ht, hcell⟩ : ∃ t : Nat, (t = 3 ∨ t = 11) ∧ W.cell? ⟨gA, x, none⟩ = some (.int .i64 t) := by
        rcases (show x = 0 ∨ x = 1 by omega) with rfl | rfl
        · exact ⟨3, .inl rfl, (hA.at' 0 _ rfl).1⟩
        · exact ⟨11, .inr rfl, (hA.at' 1 _ rfl).1⟩
      go_simp
      refine hK _ _ trivial ?_
      clear hK K hcell
      (try simp only [Act.put, List.setIfInBounds_toArray, List.set_cons_zero, List.set_cons_succ])
      exact st_111000.out ⟨gA, x, t, c, gM, an, cn, gN⟩ W ⟨hX, hc, hx2, ht⟩
    · skip
      clear c
      go_simp
      refine (next_nat b 256 W (by omega) (by omega) hc).mono ?_
      rintro e V ⟨c, rfl, hcc, hc', he⟩
      replace hX := hX.trans he
      replace hc := hc'
      replace hA := hA.ex he (by omega)
      refine hK _ _ trivial ?_
      clear hK K he hc'
      (try simp only [Act.put, List.setIfInBounds_toArray, List.set_cons_zero, List.set_cons_succ])
      exact st_120000.out ⟨gA, x, t, c, gM, an, cn, gN⟩ V ⟨hX, hc, hA, hAb, hx2, hcc⟩
    · skip
      have mk := made28 W
      go_simp
      have ho := own28 W
      have hg := Gr.alloc (Gr.refl W) (.cells (cellsB (z28)).toArray 5)
      replace ho := ho.base hX.size
      replace hX := hX.trans (Ex.ofGr hg)
      replace hc := hc.gr hg
      replace hA := hA.gr hg
      refine hK _ _ trivial ?_
      clear hK K hg mk gM
      generalize W.alloc (.cells (cellsB (z28)).toArray 5) = V at hX hc hA ho ⊢
      generalize W.heap.size = gM at ho ⊢
      (try simp only [Act.put, List.setIfInBounds_toArray, List.set_cons_zero, List.set_cons_succ])
      exact st_110100.out ⟨gA, x, t, c, gM, an, cn, gN⟩ V ⟨hX, hc, hA, hAb, hx2, ho⟩
    · skip
      go_simp
      have hN := CL.new W [.int .i64 0, .int .i64 0, .slice none 0 0] 39 _ rfl
      have hg := Gr.alloc (Gr.refl W) (.cells #[.int .i64 0, .int .i64 0, .slice none 0 0] 39)
      have hNb : v4.heap.size ≤ W.heap.size := hX.size
      simp only [List.toArray] at hN
      replace hX := hX.trans (Ex.ofGr hg)
      replace hc := hc.gr hg
      replace hA := hA.gr hg
      refine hK _ _ trivial ?_
      clear hK K hg gN
      generalize W.alloc (.cells #[.int .i64 0, .int .i64 0, .slice none 0 0] 39) = V at hX hc hA hN ⊢
      generalize W.heap.size = gN at hN hNb ⊢
      (try simp only [Act.put, List.setIfInBounds_toArray, List.set_cons_zero, List.set_cons_succ])
      exact st_110001.out ⟨gA, x, t, c, gM, an, cn, gN⟩ V ⟨hX, hc, hA, hAb, hx2, hN, hNb⟩
  simp only [Act.put, List.setIfInBounds_toArray, List.set_cons_zero, List.set_cons_succ] at st_110000r
  have st_110000 := Lib.hid st_110000r
  clear st_110000r
  refine with_state (α := BkS) 8 #[false, true, false, false, false, true, false, true, true, false, false, true, false] (fun a q => ((a.put (some 60) (.slice (some ⟨q.gM, 0, none⟩) 28 28)).put (some 9) (.pointer (some ⟨q.gN, 0, none⟩)))) (fun q W => Ex b v4 W ∧ Cod w.heap.size W b ∧ OwB v4.heap.size W (.slice (some ⟨q.gM, 0, none⟩) 28 28) (z28) ∧ CL W q.gN [.int .i64 0, .int .i64 0, .slice none 0 0] ∧ v4.heap.size ≤ q.gN) ?s_st_000101 (fun st_000101r => ?_)
  case s_st_000101 =>
    intro q W h
    obtain ⟨gA, x, t, c, gM, an, cn, gN⟩ := q
    obtain ⟨hX, hc, ho, hN, hNb⟩ := h
    simp only at hX hc ho hN hNb
    simp only [Act.put, List.setIfInBounds_toArray, List.set_cons_zero, List.set_cons_succ]
    refine next_two 0 2 rfl rfl (by kernel_rfl) (by rfl) (by rfl) (fun K hK => ?_) (fun K hK => ?_)
    · skip
      go_simp
      have hA := CL.new W [.int .i64 3, .int .i64 11] 3 _ rfl
      have hg := Gr.alloc (Gr.refl W) (.cells #[.int .i64 3, .int .i64 11] 3)
      have hAb : b < W.heap.size := hc.lt
      simp only [List.toArray] at hA
      replace hX := hX.trans (Ex.ofGr hg)
      replace hc := hc.gr hg
      replace ho := ho.gr hg
      replace hN := hN.gr hg
      refine hK _ _ trivial ?_
      clear hK K hg gA
      generalize W.alloc (.cells #[.int .i64 3, .int .i64 11] 3) = V at hX hc ho hN hA ⊢
      generalize W.heap.size = gA at hA hAb ⊢
      (try simp only [Act.put, List.setIfInBounds_toArray, List.set_cons_zero, List.set_cons_succ])
      exact st_100101.out ⟨gA, x, t, c, gM, an, cn, gN⟩ V ⟨hX, hc, hA, hAb, ho, hN, hNb⟩
    · skip
      clear x
      go_simp
      refine (next_nat b 2 W (by omega) (by omega) hc).mono ?_
      rintro e V ⟨x, rfl, hx2, hc', he⟩
      replace hX := hX.trans he
      replace hc := hc'
      replace ho := ho.ex' he hb6
      replace hN := hN.ex he (by omega)
      refine hK _ _ trivial ?_
      clear hK K he hc'
      (try simp only [Act.put, List.setIfInBounds_toArray, List.set_cons_zero, List.set_cons_succ])
      exact st_010101.out ⟨gA, x, t, c, gM, an, cn, gN⟩ V ⟨hX, hc, hx2, ho, hN, hNb⟩
  simp only [Act.put, List.setIfInBounds_toArray, List.set_cons_zero, List.set_cons_succ] at st_000101r
  have st_000101 := Lib.hid st_000101r
  clear st_000101r
  refine with_state (α := BkS) 8 #[false, true, true, false, false, true, false, false, true, false, false, true, false] (fun a q => ((a.put (some 55) (.int .i64 q.x)).put (some 9) (.pointer (some ⟨q.gN, 0, none⟩)))) (fun q W => Ex b v4 W ∧ Cod w.heap.size W b ∧ q.x < 2 ∧ CL W q.gN [.int .i64 0, .int .i64 0, .slice none 0 0] ∧ v4.heap.size ≤ q.gN) ?s_st_010001 (fun st_010001r => ?_)
  case s_st_010001 =>
    intro q W h
    obtain ⟨gA, x, t, c, gM, an, cn, gN⟩ := q
    obtain ⟨hX, hc, hx2, hN, hNb⟩ := h
    simp only at hX hc hx2 hN hNb
    simp only [Act.put, List.setIfInBounds_toArray, List.set_cons_zero, List.set_cons_succ]
    refine next_three 0 6 7 rfl rfl rfl (by kernel_rfl) (by rfl) (by rfl) (by rfl) (fun K hK => ?_) (fun K hK => ?_) (fun K hK => ?_)
    · skip
      go_simp
      have hA := CL.new W [.int .i64 3, .int .i64 11] 3 _ rfl
      have hg := Gr.alloc (Gr.refl W) (.cells #[.int .i64 3, .int .i64 11] 3)
      have hAb : b < W.heap.size := hc.lt
      simp only [List.toArray] at hA
      replace hX := hX.trans (Ex.ofGr hg)
      replace hc := hc.gr hg
      replace hN := hN.gr hg
      refine hK _ _ trivial ?_
      clear hK K hg gA
      generalize W.alloc (.cells #[.int .i64 3, .int .i64 11] 3) = V at hX hc hN hA ⊢
      generalize W.heap.size = gA at hA hAb ⊢
      refine take_at 3 (some 56) (v := .pointer (some ⟨gA, x, none⟩)) rfl rfl (by kernel_rfl) (by kernel_rfl) (by kernel_rfl) (by rfl) ?yi12 hS ?ti12
      case yi12 =>
        intro w' hSw
        have hxi : (x : Int) < 2 := by omega
        go_simp
        (try with_reducible rfl)
      (try simp only [Act.put, List.setIfInBounds_toArray, List.set_cons_zero, List.set_cons_succ])
      exact st_110001.out ⟨gA, x, t, c, gM, an, cn, gN⟩ V ⟨hX, hc, hA, hAb, hx2, hN, hNb⟩
    · skip
      clear c
      go_simp
      refine (next_nat b 256 W (by omega) (by omega) hc).mono ?_
      rintro e V ⟨c, rfl, hcc, hc', he⟩
      replace hX := hX.trans he
      replace hc := hc'
      replace hN := hN.ex he (by omega)
      refine hK _ _ trivial ?_
      clear hK K he hc'
      (try simp only [Act.put, List.setIfInBounds_toArray, List.set_cons_zero, List.set_cons_succ])
      exact st_020001.out ⟨gA, x, t, c, gM, an, cn, gN⟩ V ⟨hX, hc, hx2, hcc, hN, hNb⟩
    · skip
      have mk := made28 W
      go_simp
      have ho := own28 W
      have hg := Gr.alloc (Gr.refl W) (.cells (cellsB (z28)).toArray 5)
      replace ho := ho.base hX.size
      replace hX := hX.trans (Ex.ofGr hg)
      replace hc := hc.gr hg
      replace hN := hN.gr hg
      refine hK _ _ trivial ?_
      clear hK K hg mk gM
      generalize W.alloc (.cells (cellsB (z28)).toArray 5) = V at hX hc hN ho ⊢
      generalize W.heap.size = gM at ho ⊢
      (try simp only [Act.put, List.setIfInBounds_toArray, List.set_cons_zero, List.set_cons_succ])
      exact st_010101.out ⟨gA, x, t, c, gM, an, cn, gN⟩ V ⟨hX, hc, hx2, ho, hN, hNb⟩
  simp only [Act.put, List.setIfInBounds_toArray, List.set_cons_zero, List.set_cons_succ] at st_010001r
  have st_010001 := Lib.hid st_010001r
  clear st_010001r
  refine with_state (α := BkS) 8 #[false, true, true, false, false, true, false, true, true, false, false, false, false] (fun a q => ((a.put (some 55) (.int .i64 q.x)).put (some 60) (.slice (some ⟨q.gM, 0, none⟩) 28 28))) (fun q W => Ex b v4 W ∧ Cod w.heap.size W b ∧ q.x < 2 ∧ OwB v4.heap.size W (.slice (some ⟨q.gM, 0, none⟩) 28 28) (z28)) ?s_st_010100 (fun st_010100r => ?_)
  case s_st_010100 =>
    intro q W h
    obtain ⟨gA, x, t, c, gM, an, cn, gN⟩ := q
    obtain ⟨hX, hc, hx2, ho⟩ := h
    simp only at hX hc hx2 ho
    simp only [Act.put, List.setIfInBounds_toArray, List.set_cons_zero, List.set_cons_succ]
    refine next_three 0 6 11 rfl rfl rfl (by kernel_rfl) (by rfl) (by rfl) (by rfl) (fun K hK => ?_) (fun K hK => ?_) (fun K hK => ?_)
    · skip
      go_simp
      have hA := CL.new W [.int .i64 3, .int .i64 11] 3 _ rfl
      have hg := Gr.alloc (Gr.refl W) (.cells #[.int .i64 3, .int .i64 11] 3)
      have hAb : b < W.heap.size := hc.lt
      simp only [List.toArray] at hA
      replace hX := hX.trans (Ex.ofGr hg)
      replace hc := hc.gr hg
      replace ho := ho.gr hg
      refine hK _ _ trivial ?_
      clear hK K hg gA
      generalize W.alloc (.cells #[.int .i64 3, .int .i64 11] 3) = V at hX hc ho hA ⊢
      generalize W.heap.size = gA at hA hAb ⊢
      refine take_at 3 (some 56) (v := .pointer (some ⟨gA, x, none⟩)) rfl rfl (by kernel_rfl) (by kernel_rfl) (by kernel_rfl) (by rfl) ?yi13 hS ?ti13
      case yi13 =>
        intro w' hSw
        have hxi : (x : Int) < 2 := by omega
        go_simp
        (try with_reducible rfl)
      (try simp only [Act.put, List.setIfInBounds_toArray, List.set_cons_zero, List.set_cons_succ])
      exact st_110100.out ⟨gA, x, t, c, gM, an, cn, gN⟩ V ⟨hX, hc, hA, hAb, hx2, ho⟩
    · skip
      clear c
      go_simp
      refine (next_nat b 256 W (by omega) (by omega) hc).mono ?_
      rintro e V ⟨c, rfl, hcc, hc', he⟩
      replace hX := hX.trans he
      replace hc := hc'
      replace ho := ho.ex' he hb6
      refine hK _ _ trivial ?_
      clear hK K he hc'
      (try simp only [Act.put, List.setIfInBounds_toArray, List.set_cons_zero, List.set_cons_succ])
      exact st_020100.out ⟨gA, x, t, c, gM, an, cn, gN⟩ V ⟨hX, hc, hx2, hcc, ho⟩
    · skip
      go_simp
      have hN := CL.new W [.int .i64 0, .int .i64 0, .slice none 0 0] 39 _ rfl
      have hg := Gr.alloc (Gr.refl W) (.cells #[.int .i64 0, .int .i64 0, .slice none 0 0] 39)
      have hNb : v4.heap.size ≤ W.heap.size := hX.size
      simp only [List.toArray] at hN
      replace hX := hX.trans (Ex.ofGr hg)
      replace hc := hc.gr hg
      replace ho := ho.gr hg
      refine hK _ _ trivial ?_
      clear hK K hg gN
      generalize W.alloc (.cells #[.int .i64 0, .int .i64 0, .slice none 0 0] 39) = V at hX hc ho hN ⊢
      generalize W.heap.size = gN at hN hNb ⊢
      (try simp only [Act.put, List.setIfInBounds_toArray, List.set_cons_zero, List.set_cons_succ])
      exact st_010101.out ⟨gA, x, t, c, gM, an, cn, gN⟩ V ⟨hX, hc, hx2, ho, hN, hNb⟩
  simp only [Act.put, List.setIfInBounds_toArray, List.set_cons_zero, List.set_cons_succ] at st_010100r
  have st_010100 := Lib.hid st_010100r
  clear st_010100r
  refine with_state (α := BkS) 8 #[false, true, true, false, false, true, true, false, true, false, false, false, false] (fun a q => ((a.put (some 55) (.int .i64 q.x)).put (some 59) (.int .i64 q.c))) (fun q W => Ex b v4 W ∧ Cod w.heap.size W b ∧ q.x < 2 ∧ q.c < 256) ?s_st_020000 (fun st_020000r => ?_)
  case s_st_020000 =>
    intro q W h
    obtain ⟨gA, x, t, c, gM, an, cn, gN⟩ := q
    obtain ⟨hX, hc, hx2, hcc⟩ := h
    simp only at hX hc hx2 hcc
    simp only [Act.put, List.setIfInBounds_toArray, List.set_cons_zero, List.set_cons_succ]
    refine next_three 0 7 11 rfl rfl rfl (by kernel_rfl) (by rfl) (by rfl) (by rfl) (fun K hK => ?_) (fun K hK => ?_) (fun K hK => ?_)
    · skip
      go_simp
      have hA := CL.new W [.int .i64 3, .int .i64 11] 3 _ rfl
      have hg := Gr.alloc (Gr.refl W) (.cells #[.int .i64 3, .int .i64 11] 3)
      have hAb : b < W.heap.size := hc.lt
      simp only [List.toArray] at hA
      replace hX := hX.trans (Ex.ofGr hg)
      replace hc := hc.gr hg
      refine hK _ _ trivial ?_
      clear hK K hg gA
      generalize W.alloc (.cells #[.int .i64 3, .int .i64 11] 3) = V at hX hc hA ⊢
      generalize W.heap.size = gA at hA hAb ⊢
      refine take_at 3 (some 56) (v := .pointer (some ⟨gA, x, none⟩)) rfl rfl (by kernel_rfl) (by kernel_rfl) (by kernel_rfl) (by rfl) ?yi14 hS ?ti14
      case yi14 =>
        intro w' hSw
        have hxi : (x : Int) < 2 := by omega
        go_simp
        (try with_reducible rfl)
      (try simp only [Act.put, List.setIfInBounds_toArray, List.set_cons_zero, List.set_cons_succ])
      exact st_120000.out ⟨gA, x, t, c, gM, an, cn, gN⟩ V ⟨hX, hc, hA, hAb, hx2, hcc⟩
    · skip
      have mk := made28 W
      go_simp
      have ho := own28 W
      have hg := Gr.alloc (Gr.refl W) (.cells (cellsB (z28)).toArray 5)
      replace ho := ho.base hX.size
      replace hX := hX.trans (Ex.ofGr hg)
      replace hc := hc.gr hg
      refine hK _ _ trivial ?_
      clear hK K hg mk gM
      generalize W.alloc (.cells (cellsB (z28)).toArray 5) = V at hX hc ho ⊢
      generalize W.heap.size = gM at ho ⊢
      (try simp only [Act.put, List.setIfInBounds_toArray, List.set_cons_zero, List.set_cons_succ])
      exact st_020100.out ⟨gA, x, t, c, gM, an, cn, gN⟩ V ⟨hX, hc, hx2, hcc, ho⟩
    · skip
      go_simp
      have hN := CL.new W [.int .i64 0, .int .i64 0, .slice none 0 0] 39 _ rfl
      have hg := Gr.alloc (Gr.refl W) (.cells #[.int .i64 0, .int .i64 0, .slice none 0 0] 39)
      have hNb : v4.heap.size ≤ W.heap.size := hX.size
      simp only [List.toArray] at hN
      replace hX := hX.trans (Ex.ofGr hg)
      replace hc := hc.gr hg
      refine hK _ _ trivial ?_
      clear hK K hg gN
      generalize W.alloc (.cells #[.int .i64 0, .int .i64 0, .slice none 0 0] 39) = V at hX hc hN ⊢
      generalize W.heap.size = gN at hN hNb ⊢
      (try simp only [Act.put, List.setIfInBounds_toArray, List.set_cons_zero, List.set_cons_succ])
      exact st_020001.out ⟨gA, x, t, c, gM, an, cn, gN⟩ V ⟨hX, hc, hx2, hcc, hN, hNb⟩
  simp only [Act.put, List.setIfInBounds_toArray, List.set_cons_zero, List.set_cons_succ] at st_020000r
  have st_020000 := Lib.hid st_020000r
  clear st_020000r
  refine with_state (α := BkS) 8 #[true, true, false, false, false, true, false, false, true, false, false, true, false] (fun a q => ((a.put (some 53) (.slice (some ⟨q.gA, 0, none⟩) 2 2)).put (some 9) (.pointer (some ⟨q.gN, 0, none⟩)))) (fun q W => Ex b v4 W ∧ Cod w.heap.size W b ∧ CL W q.gA [.int .i64 3, .int .i64 11] ∧ b < q.gA ∧ CL W q.gN [.int .i64 0, .int .i64 0, .slice none 0 0] ∧ v4.heap.size ≤ q.gN) ?s_st_100001 (fun st_100001r => ?_)
  case s_st_100001 =>
    intro q W h
    obtain ⟨gA, x, t, c, gM, an, cn, gN⟩ := q
    obtain ⟨hX, hc, hA, hAb, hN, hNb⟩ := h
    simp only at hX hc hA hAb hN hNb
    simp only [Act.put, List.setIfInBounds_toArray, List.set_cons_zero, List.set_cons_succ]
    refine next_two 2 7 rfl rfl (by kernel_rfl) (by rfl) (by rfl) (fun K hK => ?_) (fun K hK => ?_)
    · skip
      clear x
      go_simp
      refine (next_nat b 2 W (by omega) (by omega) hc).mono ?_
      rintro e V ⟨x, rfl, hx2, hc', he⟩
      replace hX := hX.trans he
      replace hc := hc'
      replace hA := hA.ex he (by omega)
      replace hN := hN.ex he (by omega)
      refine hK _ _ trivial ?_
      clear hK K he hc'
      refine take_at 3 (some 56) (v := .pointer (some ⟨gA, x, none⟩)) rfl rfl (by kernel_rfl) (by kernel_rfl) (by kernel_rfl) (by rfl) ?yi15 hS ?ti15
      case yi15 =>
        intro w' hSw
        have hxi : (x : Int) < 2 := by omega
        go_simp
        (try with_reducible rfl)
      (try simp only [Act.put, List.setIfInBounds_toArray, List.set_cons_zero, List.set_cons_succ])
      exact st_110001.out ⟨gA, x, t, c, gM, an, cn, gN⟩ V ⟨hX, hc, hA, hAb, hx2, hN, hNb⟩
    · skip
      have mk := made28 W
      go_simp
      have ho := own28 W
      have hg := Gr.alloc (Gr.refl W) (.cells (cellsB (z28)).toArray 5)
      replace ho := ho.base hX.size
      replace hX := hX.trans (Ex.ofGr hg)
      replace hc := hc.gr hg
      replace hA := hA.gr hg
      replace hN := hN.gr hg
      refine hK _ _ trivial ?_
      clear hK K hg mk gM
      generalize W.alloc (.cells (cellsB (z28)).toArray 5) = V at hX hc hA hN ho ⊢
      generalize W.heap.size = gM at ho ⊢
      (try simp only [Act.put, List.setIfInBounds_toArray, List.set_cons_zero, List.set_cons_succ])
      exact st_100101.out ⟨gA, x, t, c, gM, an, cn, gN⟩ V ⟨hX, hc, hA, hAb, ho, hN, hNb⟩
  simp only [Act.put, List.setIfInBounds_toArray, List.set_cons_zero, List.set_cons_succ] at st_100001r
  have st_100001 := Lib.hid st_100001r
  clear st_100001r
  refine with_state (α := BkS) 8 #[true, true, false, false, false, true, false, true, true, false, false, false, false] (fun a q => ((a.put (some 53) (.slice (some ⟨q.gA, 0, none⟩) 2 2)).put (some 60) (.slice (some ⟨q.gM, 0, none⟩) 28 28))) (fun q W => Ex b v4 W ∧ Cod w.heap.size W b ∧ CL W q.gA [.int .i64 3, .int .i64 11] ∧ b < q.gA ∧ OwB v4.heap.size W (.slice (some ⟨q.gM, 0, none⟩) 28 28) (z28)) ?s_st_100100 (fun st_100100r => ?_)
  case s_st_100100 =>
    intro q W h
    obtain ⟨gA, x, t, c, gM, an, cn, gN⟩ := q
    obtain ⟨hX, hc, hA, hAb, ho⟩ := h
    simp only at hX hc hA hAb ho
    simp only [Act.put, List.setIfInBounds_toArray, List.set_cons_zero, List.set_cons_succ]
    refine next_two 2 11 rfl rfl (by kernel_rfl) (by rfl) (by rfl) (fun K hK => ?_) (fun K hK => ?_)
    · skip
      clear x
      go_simp
      refine (next_nat b 2 W (by omega) (by omega) hc).mono ?_
      rintro e V ⟨x, rfl, hx2, hc', he⟩
      replace hX := hX.trans he
      replace hc := hc'
      replace hA := hA.ex he (by omega)
      replace ho := ho.ex' he hb6
      refine hK _ _ trivial ?_
      clear hK K he hc'
      refine take_at 3 (some 56) (v := .pointer (some ⟨gA, x, none⟩)) rfl rfl (by kernel_rfl) (by kernel_rfl) (by kernel_rfl) (by rfl) ?yi16 hS ?ti16
      case yi16 =>
        intro w' hSw
        have hxi : (x : Int) < 2 := by omega
        go_simp
        (try with_reducible rfl)
      (try simp only [Act.put, List.setIfInBounds_toArray, List.set_cons_zero, List.set_cons_succ])
      exact st_110100.out ⟨gA, x, t, c, gM, an, cn, gN⟩ V ⟨hX, hc, hA, hAb, hx2, ho⟩
    · skip
      go_simp
      have hN := CL.new W [.int .i64 0, .int .i64 0, .slice none 0 0] 39 _ rfl
      have hg := Gr.alloc (Gr.refl W) (.cells #[.int .i64 0, .int .i64 0, .slice none 0 0] 39)
      have hNb : v4.heap.size ≤ W.heap.size := hX.size
      simp only [List.toArray] at hN
      replace hX := hX.trans (Ex.ofGr hg)
      replace hc := hc.gr hg
      replace hA := hA.gr hg
      replace ho := ho.gr hg
      refine hK _ _ trivial ?_
      clear hK K hg gN
      generalize W.alloc (.cells #[.int .i64 0, .int .i64 0, .slice none 0 0] 39) = V at hX hc hA ho hN ⊢
      generalize W.heap.size = gN at hN hNb ⊢
      (try simp only [Act.put, List.setIfInBounds_toArray, List.set_cons_zero, List.set_cons_succ])
      exact st_100101.out ⟨gA, x, t, c, gM, an, cn, gN⟩ V ⟨hX, hc, hA, hAb, ho, hN, hNb⟩
  simp only [Act.put, List.setIfInBounds_toArray, List.set_cons_zero, List.set_cons_succ] at st_100100r
  have st_100100 := Lib.hid st_100100r
  clear st_100100r
  refine with_state (α := BkS) 9 #[false, true, false, false, false, true, false, false, true, false, false, true, false] (fun a q => (a.put (some 9) (.pointer (some ⟨q.gN, 0, none⟩)))) (fun q W => Ex b v4 W ∧ Cod w.heap.size W b ∧ CL W q.gN [.int .i64 0, .int .i64 0, .slice none 0 0] ∧ v4.heap.size ≤ q.gN) ?s_st_000001 (fun st_000001r => ?_)
  case s_st_000001 =>
    intro q W h
    obtain ⟨gA, x, t, c, gM, an, cn, gN⟩ := q
    obtain ⟨hX, hc, hN, hNb⟩ := h
    simp only at hX hc hN hNb
    simp only [Act.put, List.setIfInBounds_toArray, List.set_cons_zero, List.set_cons_succ]
    refine next_three 0 2 7 rfl rfl rfl (by kernel_rfl) (by rfl) (by rfl) (by rfl) (fun K hK => ?_) (fun K hK => ?_) (fun K hK => ?_)
    · skip
      go_simp
      have hA := CL.new W [.int .i64 3, .int .i64 11] 3 _ rfl
      have hg := Gr.alloc (Gr.refl W) (.cells #[.int .i64 3, .int .i64 11] 3)
      have hAb : b < W.heap.size := hc.lt
      simp only [List.toArray] at hA
      replace hX := hX.trans (Ex.ofGr hg)
      replace hc := hc.gr hg
      replace hN := hN.gr hg
      refine hK _ _ trivial ?_
      clear hK K hg gA
      generalize W.alloc (.cells #[.int .i64 3, .int .i64 11] 3) = V at hX hc hN hA ⊢
      generalize W.heap.size = gA at hA hAb ⊢
      (try simp only [Act.put, List.setIfInBounds_toArray, List.set_cons_zero, List.set_cons_succ])
      exact st_100001.out ⟨gA, x, t, c, gM, an, cn, gN⟩ V ⟨hX, hc, hA, hAb, hN, hNb⟩
    · skip
      clear x
      go_simp
      refine (next_nat b 2 W (by omega) (by omega) hc).mono ?_
      rintro e V ⟨x, rfl, hx2, hc', he⟩
      replace hX := hX.trans he
      replace hc := hc'
      replace hN := hN.ex he (by omega)
      refine hK _ _ trivial ?_
      clear hK K he hc'
      (try simp only [Act.put, List.setIfInBounds_toArray, List.set_cons_zero, List.set_cons_succ])
      exact st_010001.out ⟨gA, x, t, c, gM, an, cn, gN⟩ V ⟨hX, hc, hx2, hN, hNb⟩
    · skip
      have mk := made28 W
      go_simp
      have ho := own28 W
      have hg := Gr.alloc (Gr.refl W) (.cells (cellsB (z28)).toArray 5)
      replace ho := ho.base hX.size
      replace hX := hX.trans (Ex.ofGr hg)
      replace hc := hc.gr hg
      replace hN := hN.gr hg
      refine hK _ _ trivial ?_
      clear hK K hg mk gM
      generalize W.alloc (.cells (cellsB (z28)).toArray 5) = V at hX hc hN ho ⊢
      generalize W.heap.size = gM at ho ⊢
      (try simp only [Act.put, List.setIfInBounds_toArray, List.set_cons_zero, List.set_cons_succ])
      exact st_000101.out ⟨gA, x, t, c, gM, an, cn, gN⟩ V ⟨hX, hc, ho, hN, hNb⟩
  simp only [Act.put, List.setIfInBounds_toArray, List.set_cons_zero, List.set_cons_succ] at st_000001r
  have st_000001 := Lib.hid st_000001r
  clear st_000001r
  refine with_state (α := BkS) 9 #[false, true, false, false, false, true, false, true, true, false, false, false, false] (fun a q => (a.put (some 60) (.slice (some ⟨q.gM, 0, none⟩) 28 28))) (fun q W => Ex b v4 W ∧ Cod w.heap.size W b ∧ OwB v4.heap.size W (.slice (some ⟨q.gM, 0, none⟩) 28 28) (z28)) ?s_st_000100 (fun st_000100r => ?_)
  case s_st_000100 =>
    intro q W h
    obtain ⟨gA, x, t, c, gM, an, cn, gN⟩ := q
    obtain ⟨hX, hc, ho⟩ := h
    simp only at hX hc ho
    simp only [Act.put, List.setIfInBounds_toArray, List.set_cons_zero, List.set_cons_succ]
    refine next_three 0 2 11 rfl rfl rfl (by kernel_rfl) (by rfl) (by rfl) (by rfl) (fun K hK => ?_) (fun K hK => ?_) (fun K hK => ?_)
    · skip
      go_simp
      have hA := CL.new W [.int .i64 3, .int .i64 11] 3 _ rfl
      have hg := Gr.alloc (Gr.refl W) (.cells #[.int .i64 3, .int .i64 11] 3)
      have hAb : b < W.heap.size := hc.lt
      simp only [List.toArray] at hA
      replace hX := hX.trans (Ex.ofGr hg)
      replace hc := hc.gr hg
      replace ho := ho.gr hg
      refine hK _ _ trivial ?_
      clear hK K hg gA
      generalize W.alloc (.cells #[.int .i64 3, .int .i64 11] 3) = V at hX hc ho hA ⊢
      generalize W.heap.size = gA at hA hAb ⊢
      (try simp only [Act.put, List.setIfInBounds_toArray, List.set_cons_zero, List.set_cons_succ])
      exact st_100100.out ⟨gA, x, t, c, gM, an, cn, gN⟩ V ⟨hX, hc, hA, hAb, ho⟩
    · skip
      clear x
      go_simp
      refine (next_nat b 2 W (by omega) (by omega) hc).mono ?_
      rintro e V ⟨x, rfl, hx2, hc', he⟩
      replace hX := hX.trans he
      replace hc := hc'
      replace ho := ho.ex' he hb6
      refine hK _ _ trivial ?_
      clear hK K he hc'
      (try simp only [Act.put, List.setIfInBounds_toArray, List.set_cons_zero, List.set_cons_succ])
      exact st_010100.out ⟨gA, x, t, c, gM, an, cn, gN⟩ V ⟨hX, hc, hx2, ho⟩
    · skip
      go_simp
      have hN := CL.new W [.int .i64 0, .int .i64 0, .slice none 0 0] 39 _ rfl
      have hg := Gr.alloc (Gr.refl W) (.cells #[.int .i64 0, .int .i64 0, .slice none 0 0] 39)
      have hNb : v4.heap.size ≤ W.heap.size := hX.size
      simp only [List.toArray] at hN
      replace hX := hX.trans (Ex.ofGr hg)
      replace hc := hc.gr hg
      replace ho := ho.gr hg
      refine hK _ _ trivial ?_
      clear hK K hg gN
      generalize W.alloc (.cells #[.int .i64 0, .int .i64 0, .slice none 0 0] 39) = V at hX hc ho hN ⊢
      generalize W.heap.size = gN at hN hNb ⊢
      (try simp only [Act.put, List.setIfInBounds_toArray, List.set_cons_zero, List.set_cons_succ])
      exact st_000101.out ⟨gA, x, t, c, gM, an, cn, gN⟩ V ⟨hX, hc, ho, hN, hNb⟩
  simp only [Act.put, List.setIfInBounds_toArray, List.set_cons_zero, List.set_cons_succ] at st_000100r
  have st_000100 := Lib.hid st_000100r
  clear st_000100r
  refine with_state (α := BkS) 9 #[false, true, true, false, false, true, false, false, true, false, false, false, false] (fun a q => (a.put (some 55) (.int .i64 q.x))) (fun q W => Ex b v4 W ∧ Cod w.heap.size W b ∧ q.x < 2) ?s_st_010000 (fun st_010000r => ?_)
  case s_st_010000 =>
    intro q W h
    obtain ⟨gA, x, t, c, gM, an, cn, gN⟩ := q
    obtain ⟨hX, hc, hx2⟩ := h
    simp only at hX hc hx2
    simp only [Act.put, List.setIfInBounds_toArray, List.set_cons_zero, List.set_cons_succ]
    refine next_four 0 6 7 11 rfl rfl rfl rfl (by kernel_rfl) (by rfl) (by rfl) (by rfl) (by rfl) (fun K hK => ?_) (fun K hK => ?_) (fun K hK => ?_) (fun K hK => ?_)
    · skip
      go_simp
      have hA := CL.new W [.int .i64 3, .int .i64 11] 3 _ rfl
      have hg := Gr.alloc (Gr.refl W) (.cells #[.int .i64 3, .int .i64 11] 3)
      have hAb : b < W.heap.size := hc.lt
      simp only [List.toArray] at hA
      replace hX := hX.trans (Ex.ofGr hg)
      replace hc := hc.gr hg
      refine hK _ _ trivial ?_
      clear hK K hg gA
      generalize W.alloc (.cells #[.int .i64 3, .int .i64 11] 3) = V at hX hc hA ⊢
      generalize W.heap.size = gA at hA hAb ⊢
      refine take_at 3 (some 56) (v := .pointer (some ⟨gA, x, none⟩)) rfl rfl (by kernel_rfl) (by kernel_rfl) (by kernel_rfl) (by rfl) ?yi17 hS ?ti17
      case yi17 =>
        intro w' hSw
        have hxi : (x : Int) < 2 := by omega
        go_simp
        (try with_reducible rfl)
      (try simp only [Act.put, List.setIfInBounds_toArray, List.set_cons_zero, List.set_cons_succ])
      exact st_110000.out ⟨gA, x, t, c, gM, an, cn, gN⟩ V ⟨hX, hc, hA, hAb, hx2⟩
    · skip
      clear c
      go_simp
      refine (next_nat b 256 W (by omega) (by omega) hc).mono ?_
      rintro e V ⟨c, rfl, hcc, hc', he⟩
      replace hX := hX.trans he
      replace hc := hc'
      refine hK _ _ trivial ?_
      clear hK K he hc'
      (try simp only [Act.put, List.setIfInBounds_toArray, List.set_cons_zero, List.set_cons_succ])
      exact st_020000.out ⟨gA, x, t, c, gM, an, cn, gN⟩ V ⟨hX, hc, hx2, hcc⟩
    · skip
      have mk := made28 W
      go_simp
      have ho := own28 W
      have hg := Gr.alloc (Gr.refl W) (.cells (cellsB (z28)).toArray 5)
      replace ho := ho.base hX.size
      replace hX := hX.trans (Ex.ofGr hg)
      replace hc := hc.gr hg
      refine hK _ _ trivial ?_
      clear hK K hg mk gM
      generalize W.alloc (.cells (cellsB (z28)).toArray 5) = V at hX hc ho ⊢
      generalize W.heap.size = gM at ho ⊢
      (try simp only [Act.put, List.setIfInBounds_toArray, List.set_cons_zero, List.set_cons_succ])
      exact st_010100.out ⟨gA, x, t, c, gM, an, cn, gN⟩ V ⟨hX, hc, hx2, ho⟩
    · skip
      go_simp
      have hN := CL.new W [.int .i64 0, .int .i64 0, .slice none 0 0] 39 _ rfl
      have hg := Gr.alloc (Gr.refl W) (.cells #[.int .i64 0, .int .i64 0, .slice none 0 0] 39)
      have hNb : v4.heap.size ≤ W.heap.size := hX.size
      simp only [List.toArray] at hN
      replace hX := hX.trans (Ex.ofGr hg)
      replace hc := hc.gr hg
      refine hK _ _ trivial ?_
      clear hK K hg gN
      generalize W.alloc (.cells #[.int .i64 0, .int .i64 0, .slice none 0 0] 39) = V at hX hc hN ⊢
      generalize W.heap.size = gN at hN hNb ⊢
      (try simp only [Act.put, List.setIfInBounds_toArray, List.set_cons_zero, List.set_cons_succ])
      exact st_010001.out ⟨gA, x, t, c, gM, an, cn, gN⟩ V ⟨hX, hc, hx2, hN, hNb⟩
  simp only [Act.put, List.setIfInBounds_toArray, List.set_cons_zero, List.set_cons_succ] at st_010000r
  have st_010000 := Lib.hid st_010000r
  clear st_010000r
  refine with_state (α := BkS) 9 #[true, true, false, false, false, true, false, false, true, false, false, false, false] (fun a q => (a.put (some 53) (.slice (some ⟨q.gA, 0, none⟩) 2 2))) (fun q W => Ex b v4 W ∧ Cod w.heap.size W b ∧ CL W q.gA [.int .i64 3, .int .i64 11] ∧ b < q.gA) ?s_st_100000 (fun st_100000r => ?_)
  case s_st_100000 =>
    intro q W h
    obtain ⟨gA, x, t, c, gM, an, cn, gN⟩ := q
    obtain ⟨hX, hc, hA, hAb⟩ := h
    simp only at hX hc hA hAb
    simp only [Act.put, List.setIfInBounds_toArray, List.set_cons_zero, List.set_cons_succ]
    refine next_three 2 7 11 rfl rfl rfl (by kernel_rfl) (by rfl) (by rfl) (by rfl) (fun K hK => ?_) (fun K hK => ?_) (fun K hK => ?_)
    · skip
      clear x
      go_simp
      refine (next_nat b 2 W (by omega) (by omega) hc).mono ?_
      rintro e V ⟨x, rfl, hx2, hc', he⟩
      replace hX := hX.trans he
      replace hc := hc'
      replace hA := hA.ex he (by omega)
      refine hK _ _ trivial ?_
      clear hK K he hc'
      refine take_at 3 (some 56) (v := .pointer (some ⟨gA, x, none⟩)) rfl rfl (by kernel_rfl) (by kernel_rfl) (by kernel_rfl) (by rfl) ?yi18 hS ?ti18
      case yi18 =>
        intro w' hSw
        have hxi : (x : Int) < 2 := by omega
        go_simp
        (try with_reducible rfl)
      (try simp only [Act.put, List.setIfInBounds_toArray, List.set_cons_zero, List.set_cons_succ])
      exact st_110000.out ⟨gA, x, t, c, gM, an, cn, gN⟩ V ⟨hX, hc, hA, hAb, hx2⟩
    · skip
      have mk := made28 W
      go_simp
      have ho := own28 W
      have hg := Gr.alloc (Gr.refl W) (.cells (cellsB (z28)).toArray 5)
      replace ho := ho.base hX.size
      replace hX := hX.trans (Ex.ofGr hg)
      replace hc := hc.gr hg
      replace hA := hA.gr hg
      refine hK _ _ trivial ?_
      clear hK K hg mk gM
      generalize W.alloc (.cells (cellsB (z28)).toArray 5) = V at hX hc hA ho ⊢
      generalize W.heap.size = gM at ho ⊢
      (try simp only [Act.put, List.setIfInBounds_toArray, List.set_cons_zero, List.set_cons_succ])
      exact st_100100.out ⟨gA, x, t, c, gM, an, cn, gN⟩ V ⟨hX, hc, hA, hAb, ho⟩
    · skip
      go_simp
      have hN := CL.new W [.int .i64 0, .int .i64 0, .slice none 0 0] 39 _ rfl
      have hg := Gr.alloc (Gr.refl W) (.cells #[.int .i64 0, .int .i64 0, .slice none 0 0] 39)
      have hNb : v4.heap.size ≤ W.heap.size := hX.size
      simp only [List.toArray] at hN
      replace hX := hX.trans (Ex.ofGr hg)
      replace hc := hc.gr hg
      replace hA := hA.gr hg
      refine hK _ _ trivial ?_
      clear hK K hg gN
      generalize W.alloc (.cells #[.int .i64 0, .int .i64 0, .slice none 0 0] 39) = V at hX hc hA hN ⊢
      generalize W.heap.size = gN at hN hNb ⊢
      (try simp only [Act.put, List.setIfInBounds_toArray, List.set_cons_zero, List.set_cons_succ])
      exact st_100001.out ⟨gA, x, t, c, gM, an, cn, gN⟩ V ⟨hX, hc, hA, hAb, hN, hNb⟩
  simp only [Act.put, List.setIfInBounds_toArray, List.set_cons_zero, List.set_cons_succ] at st_100000r
  have st_100000 := Lib.hid st_100000r
  clear st_100000r
  obtain ⟨gA, x, t, c, gM, an, cn, gN⟩ : BkS := ⟨0, 0, 0, 0, 0, none, 0, 0⟩
  generalize v5 = W at hX hc ⊢
  refine next_four 0 2 7 11 rfl rfl rfl rfl (by kernel_rfl) (by rfl) (by rfl) (by rfl) (by rfl) (fun K hK => ?_) (fun K hK => ?_) (fun K hK => ?_) (fun K hK => ?_)
  · skip
    go_simp
    have hA := CL.new W [.int .i64 3, .int .i64 11] 3 _ rfl
    have hg := Gr.alloc (Gr.refl W) (.cells #[.int .i64 3, .int .i64 11] 3)
    have hAb : b < W.heap.size := hc.lt
    simp only [List.toArray] at hA
    replace hX := hX.trans (Ex.ofGr hg)
    replace hc := hc.gr hg
    refine hK _ _ trivial ?_
    clear hK K hg gA
    generalize W.alloc (.cells #[.int .i64 3, .int .i64 11] 3) = V at hX hc hA ⊢
    generalize W.heap.size = gA at hA hAb ⊢
    (try simp only [Act.put, List.setIfInBounds_toArray, List.set_cons_zero, List.set_cons_succ])
    exact st_100000.out ⟨gA, x, t, c, gM, an, cn, gN⟩ V ⟨hX, hc, hA, hAb⟩
  · skip
    clear x
    go_simp
    refine (next_nat b 2 W (by omega) (by omega) hc).mono ?_
    rintro e V ⟨x, rfl, hx2, hc', he⟩
    replace hX := hX.trans he
    replace hc := hc'
    refine hK _ _ trivial ?_
    clear hK K he hc'
    (try simp only [Act.put, List.setIfInBounds_toArray, List.set_cons_zero, List.set_cons_succ])
    exact st_010000.out ⟨gA, x, t, c, gM, an, cn, gN⟩ V ⟨hX, hc, hx2⟩
  · skip
    have mk := made28 W
    go_simp
    have ho := own28 W
    have hg := Gr.alloc (Gr.refl W) (.cells (cellsB (z28)).toArray 5)
    replace ho := ho.base hX.size
    replace hX := hX.trans (Ex.ofGr hg)
    replace hc := hc.gr hg
    refine hK _ _ trivial ?_
    clear hK K hg mk gM
    generalize W.alloc (.cells (cellsB (z28)).toArray 5) = V at hX hc ho ⊢
    generalize W.heap.size = gM at ho ⊢
    (try simp only [Act.put, List.setIfInBounds_toArray, List.set_cons_zero, List.set_cons_succ])
    exact st_000100.out ⟨gA, x, t, c, gM, an, cn, gN⟩ V ⟨hX, hc, ho⟩
  · skip
    go_simp
    have hN := CL.new W [.int .i64 0, .int .i64 0, .slice none 0 0] 39 _ rfl
    have hg := Gr.alloc (Gr.refl W) (.cells #[.int .i64 0, .int .i64 0, .slice none 0 0] 39)
    have hNb : v4.heap.size ≤ W.heap.size := hX.size
    simp only [List.toArray] at hN
    replace hX := hX.trans (Ex.ofGr hg)
    replace hc := hc.gr hg
    refine hK _ _ trivial ?_
    clear hK K hg gN
    generalize W.alloc (.cells #[.int .i64 0, .int .i64 0, .slice none 0 0] 39) = V at hX hc hN ⊢
    generalize W.heap.size = gN at hN hNb ⊢
    (try simp only [Act.put, List.setIfInBounds_toArray, List.set_cons_zero, List.set_cons_succ])
    exact st_000001.out ⟨gA, x, t, c, gM, an, cn, gN⟩ V ⟨hX, hc, hN, hNb⟩
end Go.Proofs.Ytlkhdbgknkjioaa
