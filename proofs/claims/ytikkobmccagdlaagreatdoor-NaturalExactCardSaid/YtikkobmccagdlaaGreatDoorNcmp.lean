/- Compare. -/
import Derived.Test.YtikkobmccagdlaaGreatDoorNbk
import Derived.Test.YtikkobmccagdlaaGreatDoorShelf
import Derived.Lib.Hide
namespace Go.Proofs.YtikkobmccagdlaaGreatDoor
open Go Go.RowKit Go.Shelf
set_option maxRecDepth 100000
set_option linter.unusedVariables false
attribute [local go_sem] Oper.semAt_some

/-- the order of numbers -/
def ncmp (A B : Nat) : Int := Lib.compareInt (A : Nat) (B : Nat)
theorem ncmp_lt {A B : Nat} (h : A < B) : ncmp A B = -1 := by unfold ncmp Lib.compareInt; rw [if_pos (by omega)]
theorem ncmp_gt {A B : Nat} (h : B < A) : ncmp A B = 1 := by unfold ncmp Lib.compareInt; rw [if_neg (by omega), if_pos (by omega)]
theorem ncmp_eq (A : Nat) : ncmp A A = 0 := by unfold ncmp Lib.compareInt; rw [if_neg (by omega), if_neg (by omega)]
theorem ncmp_len {A B : Nat} (h : (nd A).length ≠ (nd B).length) : Lib.compareInt ((nd A).length : Nat) ((nd B).length : Nat) = ncmp A B := by
  rcases Nat.lt_or_gt_of_ne h with h | h
  · rw [ncmp_lt (nd_lt_len h)]; exact ncmp_lt h
  · rw [ncmp_gt (nd_lt_len h)]; exact ncmp_gt h
theorem ncmp_at {A B k : Nat} (hl : (nd A).length = (nd B).length) (hk : k < (nd A).length) (h : ∀ j, k < j → j < (nd A).length → (nd A).getD j 0 = (nd B).getD j 0) (hne : (nd A).getD k 0 ≠ (nd B).getD k 0) :
    Lib.compareInt ((nd A).getD k 0 : Nat) ((nd B).getD k 0 : Nat) = ncmp A B := by
  have hd : (nd A).drop (k + 1) = (nd B).drop (k + 1) := by
    apply List.ext_getElem?
    intro i
    rw [List.getElem?_drop, List.getElem?_drop]
    by_cases hi : k + 1 + i < (nd A).length
    · have := h (k + 1 + i) (by omega) hi
      rw [List.getD_eq_getElem?_getD, List.getD_eq_getElem?_getD, List.getElem?_eq_getElem hi, List.getElem?_eq_getElem (by omega)] at this
      rw [List.getElem?_eq_getElem hi, List.getElem?_eq_getElem (by omega)]
      simpa using this
    · rw [List.getElem?_eq_none (by omega), List.getElem?_eq_none (by omega)]
  rcases Nat.lt_or_gt_of_ne hne with hlt | hlt
  · have := nv_cmp (lim_nd A) hl hk hd hlt
    rw [nv_nd, nv_nd] at this
    rw [ncmp_lt this]; exact ncmp_lt hlt
  · have := nv_cmp (lim_nd B) hl.symm (by omega) hd.symm hlt
    rw [nv_nd, nv_nd] at this
    rw [ncmp_gt this]; exact ncmp_gt hlt
theorem nd_ext {A B : Nat} (hl : (nd A).length = (nd B).length) (h : ∀ j, j < (nd A).length → (nd A).getD j 0 = (nd B).getD j 0) : A = B := by
  refine nd_inj (List.ext_getElem? fun i => ?_)
  by_cases hi : i < (nd A).length
  · have := h i hi
    rw [List.getD_eq_getElem?_getD, List.getD_eq_getElem?_getD, List.getElem?_eq_getElem hi, List.getElem?_eq_getElem (by omega)] at this
    rw [List.getElem?_eq_getElem hi, List.getElem?_eq_getElem (by omega)]
    simpa using this
  · rw [List.getElem?_eq_none (by omega), List.getElem?_eq_none (by omega)]

def okN (A j : Nat) (z : Int) : Prop := z = ((nd A).getD j 0 : Nat)
theorem cmp_len {A B : Nat} (va vb : Value) (w : World) (hA : Num w va A) (hB : Num w vb B) (hl : (nd A).length ≠ (nd B).length) :
    Calls Tryz.prog 20 #[va, vb] w fun e w' => e = .returned (.int .i64 (ncmp A B)) ∧ Gr w w' := by
  obtain ⟨aa, acap, rfl, -, -, -⟩ := hA
  obtain ⟨ab, bcap, rfl, -, -, -⟩ := hB
  have d : (((nd A).length : Int) != ((nd B).length : Int)) = true := by simp; omega
  have hn := ncmp_len hl
  have HN := Lib.hid hn
  clear hn
  go_enter Tryz.func20, Tryz.ntmps20
  go_wp2_with (go_at_call 79; refine (Tryz.cmp_Compare_int _ _ _).mono ?_; rintro e w' ⟨rfl, rfl⟩)
  exact bodyPost_ret (v := .int .i64 (Lib.compareInt ((nd A).length : Nat) ((nd B).length : Nat))) (by simp [results, Tryz.results20, go_sem]) rfl ⟨ret_int HN.out, ((Gr.refl _).alloc _).alloc _⟩
theorem bkp_set {Bs : Nat} {sv : Value} {b off n : Nat} {ok : Nat → Int → Prop} (W : World) {r : Nat} (o : Nat) (x : Value) (h1 : Bs ≠ r) (h2 : b ≠ r) : BKp Bs sv b off n ok W (W.setCell ⟨r, o, none⟩ x) := by
  have key : ∀ (c k : Nat), c ≠ r → (W.setCell ⟨r, o, none⟩ x).cell? ⟨c, k, none⟩ = W.cell? ⟨c, k, none⟩ := fun c k hc => World.cell?_setCell_other _ _ _ _ (by intro e; cases e; exact hc rfl)
  exact ⟨fun e => by rw [key _ _ h1]; exact e, fun e j hj => by obtain ⟨z, hz, hk⟩ := e j hj; exact ⟨z, by rw [key _ _ h2]; exact hz, hk⟩⟩
/-- what a round of Compare keeps, and how it leaves -/
def CmpI (A B : Nat) (w : World) (vb : Value) (pre : List (Ix (nd A).length (okN A))) (W : World) : Prop :=
  ((∀ i ∈ ixs pre, (nd A).getD i 0 = (nd B).getD i 0) ∧ W.cell? ⟨w.heap.size + 1, 0, none⟩ = some (.int .i64 0) ∧ W.frozen? ⟨w.heap.size + 1, 0, none⟩ = false ∧ W.cell? ⟨w.heap.size, 0, none⟩ = some vb) ∧ Below w.heap.size w W
def CmpX (A B : Nat) (w : World) (c : Code) (pre : List (Ix (nd A).length (okN A))) (W : World) : Prop :=
  (c = .ret ∧ ∃ ini k, ixs pre = ini ++ [k] ∧ (∀ i ∈ ini, (nd A).getD i 0 = (nd B).getD i 0) ∧ (nd A).getD k 0 ≠ (nd B).getD k 0 ∧ W.cell? ⟨w.heap.size + 1, 0, none⟩ = some (.int .i64 (Lib.compareInt ((nd A).getD k 0 : Nat) ((nd B).getD k 0 : Nat)))) ∧ Below w.heap.size w W
theorem cmpI_own (A B : Nat) (w : World) (vb : Value) {n : Nat} (hn : w.heap.size ≤ n) : OwnFrom n (CmpI A B w vb) :=
  OwnFrom.and (Go.Own.from (fun _ _ _ _ hs hg hr => ⟨hs.1, cell_kept hs.2.1 hg hr, (frozen_kept hs.2.1 hg hr).trans hs.2.2.1, cell_kept hs.2.2.2 hg hr⟩) _) (ownFrom_below (Nat.le_refl _) hn)
theorem cmpX_own (A B : Nat) (w : World) {n : Nat} (hn : w.heap.size ≤ n) (c : Code) : OwnFrom n (CmpX A B w c) :=
  OwnFrom.and (Go.Own.from (fun _ _ _ _ hs hg hr => by obtain ⟨hc, ini, k, e1, e2, e3, e4⟩ := hs; exact ⟨hc, ini, k, e1, e2, e3, cell_kept e4 hg hr⟩) _) (ownFrom_below (Nat.le_refl _) hn)
set_option maxHeartbeats 2000000 in
theorem cmp_same {A B : Nat} (va vb : Value) (w : World) (hA : Num w va A) (hB : Num w vb B) (hl : (nd B).length = (nd A).length) (lA : (nd A).length ≤ 1000000) :
    Calls Tryz.prog 20 #[va, vb] w fun e w' => e = .returned (.int .i64 (ncmp A B)) ∧ Gr w w' := by
  have hA0 := hA
  have hB0 := hB
  obtain ⟨aa, acap, rfl, -, -, HA⟩ := hA
  obtain ⟨ab, bcap, rfl, -, -, HB⟩ := hB
  have HA0 := Lib.hid hA0
  have HB0 := Lib.hid hB0
  rw [hl] at HB ⊢
  have HL := Lib.hid hl
  obtain ⟨ba, oa, hba⟩ : ∃ ba oa : Nat, BS w aa (nd A).length (okN A) ba oa := by
    by_cases h0 : (nd A).length = 0
    · exact ⟨0, 0, .inl h0⟩
    · obtain ⟨b, off, e, -, hc⟩ := HA 0 (by omega)
      refine ⟨b, off, .inr ⟨e, World.block_lt_of_cell? _ _ hc, fun j hj => ?_⟩⟩
      obtain ⟨b', off', e', -, hc'⟩ := HA j hj
      rw [e] at e'; cases e'
      exact ⟨_, hc', rfl⟩
  have HBS := Lib.hid hba
  have HBC := Lib.hid HB
  clear hba HA HB hA0 hB0 hl
  refine (callsIn_wide (n := 4)).1 ?_
  refine callsIn_of_wp_marks Tryz.func20 rfl trivial ?_ rfl
  simp only [Tryz.ntmps20, List.size_toArray, List.length_cons, List.length_nil, Nat.reduceAdd, Nat.reduceSub, Array.replicate_succ, Array.replicate_zero, List.push_toArray, List.append_toArray, List.nil_append, List.cons_append]
  gi_wp2_with (refine ⟨trivial, ?_⟩; gi_at_call 80; refine (back_in Fence.wide (4 - 1) trivial rfl _ _ _ _).mono ?_; rintro e w' ⟨rfl, rfl⟩)
  have bX := (Boxed.new w 24 (.slice ab (nd A).length bcap))
  have bR := Boxed.new (w.alloc (.cells #[.slice ab (nd A).length bcap] 24)) 3 (.int .i64 0)
  have bN := Boxed.new ((w.alloc (.cells #[.slice ab (nd A).length bcap] 24)).alloc (.cells #[.int .i64 0] 3)) 24 (.slice aa (nd A).length acap)
  simp only [World.size_alloc] at bR bN
  have bX2 := (bX.alloc (.cells #[.int .i64 0] 3)).alloc (.cells #[.slice aa (nd A).length acap] 24)
  have bR2 := bR.alloc (.cells #[.slice aa (nd A).length acap] 24)
  have hB0 : Below w.heap.size w (((w.alloc (.cells #[.slice ab (nd A).length bcap] 24)).alloc (.cells #[.int .i64 0] 3)).alloc (.cells #[.slice aa (nd A).length acap] 24)) := ((Gr.refl _).alloc _ |>.alloc _ |>.alloc _)
  have hsz : (((w.alloc (.cells #[.slice ab (nd A).length bcap] 24)).alloc (.cells #[.int .i64 0] 3)).alloc (.cells #[.slice aa (nd A).length acap] 24)).heap.size = w.heap.size + 1 + 1 + 1 := by simp
  have hbs : BS (((w.alloc (.cells #[.slice ab (nd A).length bcap] 24)).alloc (.cells #[.int .i64 0] 3)).alloc (.cells #[.slice aa (nd A).length acap] 24)) aa (nd A).length (okN A) ba oa := by
    rcases HBS.out with h | ⟨e, hb, hw⟩
    · exact .inl h
    · refine .inr ⟨e, by rw [hsz]; omega, fun j hj => ?_⟩
      obtain ⟨z, hz, hk⟩ := hw j hj
      exact ⟨z, (hB0.cell (p := ⟨ba, oa + j, none⟩) hb).trans hz, hk⟩
  have hbne : (nd A).length = 0 ∨ ba < w.heap.size := HBS.out.imp id fun h => h.2.1
  generalize hW0 : ((w.alloc (.cells #[.slice ab (nd A).length bcap] 24)).alloc (.cells #[.int .i64 0] 3)).alloc (.cells #[.slice aa (nd A).length acap] 24) = W0 at *
  clear hW0 bX bR
  refine wpIn_rangeFunc_ownG rfl (by decide) (gf := 112) (lb := #[.pointer (some ⟨w.heap.size + 1 + 1, 0, none⟩)]) rfl trivial (enters_of Tryz.func112 (by kernel_rfl) rfl)
    (back_stops Fence.wide (4 - 1) trivial rfl (by decide) (w.heap.size + 1 + 1) ba oa (nd A).length acap aa (okN A) lA W0 (by omega) bN.cell hbs) bkp_t (fun W l o o' _ h hc _ => bkp_b W l o o' h hc) (Below.refl _ _) (fun _ => rfl)
    (CmpI A B w (.slice ab (nd A).length bcap)) (CmpX A B w) (cmpI_own A B w _ (by omega)) (cmpX_own A B w (by omega))
    ⟨⟨fun i hi => by simp [ixs] at hi, bR2.cell, bR2.frozen, bX2.cell⟩, hB0⟩
    (fun x => { tmps := #[.slice aa (nd A).length acap, .slice ab (nd A).length bcap, undef, .pointer (some ⟨w.heap.size, 0, none⟩), .pointer (some ⟨w.heap.size + 1, 0, none⟩), .int .i64 (x.1.1 : Nat), .int .i64 x.1.2, .slice aa (nd A).length acap, .int .i64 (nd A).length, .slice ab (nd A).length bcap, .int .i64 (nd A).length,
      .bool false, undef, undef, undef, undef, undef, .slice aa (nd A).length acap, .func (.func 112) #[] #[.pointer (some ⟨w.heap.size + 1 + 1, 0, none⟩)], .int .i64 (x.1.1 : Nat), .int .i64 x.1.2, undef, undef, undef, undef, undef, undef, undef, undef, undef, undef, undef, undef], defers := [] }) ?assign ?body ?done ?stop
  case assign =>
    intro l x W K hK
    gi_wp2
    exact hK
  case body =>
    rintro l pre x W ⟨⟨hp, hcr, hfr, hbx⟩, hB⟩ -
    obtain ⟨⟨i, z⟩, hi, hz⟩ := x
    have HZ : Hid (z = ((nd A).getD i 0 : Nat)) := Lib.hid hz
    obtain ⟨bb, ob, rfl, -, hcb⟩ := HBC.out i hi
    have hcb2 : W.cell? ⟨bb, ob + i, none⟩ = some (.int .i64 ((nd B).getD i 0 : Nat)) := (hB.cell (p := ⟨bb, ob + i, none⟩) (World.block_lt_of_cell? _ _ hcb)).trans hcb
    clear hcb
    generalize hy : (nd B).getD i 0 = y at hcb2
    have HY := Lib.hid hy
    have HP := Lib.hid hp
    clear hy hp
    dsimp only
    have i1 : (i : Int) < ((nd A).length : Int) := by have := hi; omega
    have i0 : (0 : Int) ≤ (i : Int) := by omega
    by_cases hne : z = (y : Int)
    · have d : (z != (y : Int)) = false := by simpa using hne
      have HNE := Lib.hid hne
      clear hne
      gi_wp2
      refine ⟨KeepsFrom.refl _ _, ⟨id, id⟩, ⟨fun j hj => ?_, hcr, hfr, hbx⟩, hB⟩
      rw [ixs_snoc, List.mem_append, List.mem_singleton] at hj
      rcases hj with hj | rfl
      · exact HP.out j hj
      · have := HZ.out; have := HY.out; have := HNE.out; omega
    · have d : (z != (y : Int)) = true := by simpa using hne
      have HNE := Lib.hid hne
      clear hne
      gi_wp2_with (refine ⟨trivial, ?_⟩; gi_at_call 79; refine (CallsIn.inRound l (callsIn_wide.2 (Tryz.cmp_Compare_int _ _ _))).mono ?_; rintro e w' ⟨rfl, rfl⟩)
      have hw : w.heap.size + 1 ≠ ba := by rcases hbne with h | h <;> omega
      refine ⟨(KeepsOthers.setCell _ _ _).from _, ⟨rfl, ixs pre, i, ixs_snoc _ _, HP.out, ?_, ?_⟩, hB.setCell (p := ⟨w.heap.size + 1, 0, none⟩) (by simp) _⟩
      · rw [HY.out]; intro hc; exact HNE.out (by have := HZ.out; omega)
      · rw [HY.out, ← HZ.out]; exact World.cell?_setCell_same' _ _ _ (by rw [hcr]; rfl)
  case done =>
    rintro D ys W hD hys ⟨⟨hne, hcr, hfr, -⟩, hB⟩ hK
    gi_wp2
    have hK' := (KeepsOthers.setCell W ⟨w.heap.size + 1, 0, none⟩ (.int .i64 0)).same D _ hK rfl
    refine ⟨by simp, .inl ⟨_, _, rfl, run_takeDeferred hK', ?_⟩⟩
    have hc5 := cell_kept (World.cell?_setCell_same' W ⟨w.heap.size + 1, 0, none⟩ (.int .i64 0) (by rw [hcr]; rfl)) (grownBy_putObj' _ D (.deferred none)) (fun r e => by cases e; exact ⟨_, hK', rfl⟩)
    refine ⟨.int .i64 0, by simp [results, Tryz.f20, go_sem, hc5], ?_, (hB.setCell (p := ⟨w.heap.size + 1, 0, none⟩) (by simp) _).trans (belowK_b (w := w) (Nat.le_refl _) _ D _ _ (by omega) hK' rfl rfl)⟩
    have e : A = B := nd_ext HL.out.symm fun j hj => hne j (by rw [hys]; exact dn_mem (Nat.zero_le _) hj)
    rw [e, ncmp_eq]
  case stop =>
    rintro D c pre W hD ⟨m, hm, hpre⟩ ⟨⟨rfl, ini, k, e1, e2, e3, hcr⟩, hB⟩ hK
    gi_wp2
    refine ⟨by simp, .inl ⟨_, _, rfl, run_takeDeferred hK, ?_⟩⟩
    have hc5 := cell_kept hcr (grownBy_putObj' _ D (.deferred none)) (fun r e => by cases e; exact ⟨_, hK, rfl⟩)
    rw [e1] at hpre
    obtain ⟨hmn, hini, rfl⟩ := dn_last hm hpre
    refine ⟨.int .i64 (ncmp A B), ?_, rfl, hB.trans (belowK_b (w := w) (Nat.le_refl _) W D _ _ (by omega) hK rfl rfl)⟩
    rw [← ncmp_at HL.out.symm hmn (fun j h1 h2 => e2 j (by rw [hini]; exact dn_mem (by omega) h2)) e3]
    simp [results, Tryz.f20, go_sem, hc5]
theorem cmp_any {A B : Nat} (va vb : Value) (w : World) (hA : Num w va A) (hB : Num w vb B) (lA : (nd A).length ≤ 1000000) :
    Calls Tryz.prog 20 #[va, vb] w fun e w' => e = .returned (.int .i64 (ncmp A B)) ∧ Gr w w' := by
  by_cases hl : (nd B).length = (nd A).length
  · exact cmp_same va vb w hA hB hl lA
  · exact cmp_len va vb w hA hB (fun h => hl h.symm)
end Go.Proofs.YtikkobmccagdlaaGreatDoor
