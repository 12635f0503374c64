/- divide. -/
import Derived.Test.YtjpjnbgfodlkcaaGreatDoorGAC
import Derived.Test.YtjpjnbgfodlkcaaGreatDoorGAE
import Derived.Lib.Hide
import Derived.Lib.ItoaNum
import Derived.Deep.RegionHeld3
namespace Go.Proofs.YtjpjnbgfodlkcaaGreatDoor
open Go Go.RowKit Go.Shelf
set_option maxRecDepth 100000
set_option linter.unusedVariables false
attribute [local go_sem] Oper.semAt_some
theorem len_bits {y : Nat} (h0 : 0 < y) (h1 : y < 1073741824) : 1 ≤ Lib.bitLen y ∧ Lib.bitLen y ≤ 30 ∧ y < 2 ^ Lib.bitLen y := by
  obtain ⟨a, b, c⟩ := Lib.bitLenAux_bounds 64 y (by omega) (by omega)
  refine ⟨a, ?_, c⟩
  unfold Lib.bitLen
  apply Decidable.byContradiction; intro hc
  have : 2 ^ 30 ≤ 2 ^ (Lib.bitLenAux 64 y - 1) := Nat.pow_le_pow_right (by omega) (by omega)
  omega
theorem len_fac {y L : Nat} (hL : L ≤ 30) (hy : y < 2 ^ L) : (y + 1) * 2 ^ (30 - L) ≤ 1073741824 ∧ 0 < 2 ^ (30 - L) := by
  refine ⟨?_, Nat.pow_pos (by omega)⟩
  have h1 : (y + 1) * 2 ^ (30 - L) ≤ 2 ^ L * 2 ^ (30 - L) := Nat.mul_le_mul_right _ hy
  rw [← Nat.pow_add, show L + (30 - L) = 30 by omega] at h1
  exact h1
/-- the two lists of zeros that divide makes, and the boxes of their slices -/
structure DvMade (W0 : World) (la lb r d p7 p8 : Nat) (w : World) : Prop where
  gr : Gr W0 w
  hr : W0.heap.size ≤ r
  hd : W0.heap.size ≤ d
  h7 : W0.heap.size ≤ p7
  h8 : W0.heap.size ≤ p8
  rd : r ≠ d
  r7 : r ≠ p7
  r8 : r ≠ p8
  d7 : d ≠ p7
  d8 : d ≠ p8
  ar : Arr w r 0 (List.replicate (la + 1) 0)
  ad : Arr w d 0 (List.replicate lb 0)
  c7 : w.cell? ⟨p7, 0, none⟩ = some (.slice (some ⟨r, 0, none⟩) (la + 1) (la + 1))
  c8 : w.cell? ⟨p8, 0, none⟩ = some (.slice (some ⟨d, 0, none⟩) lb lb)
def DvQ (W0 : World) (la lb : Nat) (F : Nat → Nat → Nat → Nat → Act) : Exit → Act → World → Prop
  | .normal, a, w => ∃ r d p7 p8 : Nat, a = F r d p7 p8 ∧ DvMade W0 la lb r d p7 p8 w
  | _, _, _ => False
theorem arr_made (w : World) (n : Nat) : Arr (w.alloc (.cells (madeCells #[.int .i64 0] n) 3)) w.heap.size 0 (List.replicate n 0) := by
  intro i hi
  rw [List.length_replicate] at hi
  have h := World.cell?_alloc_new w (madeCells #[.int .i64 0] n) 3 i
  rw [Nat.zero_add, h]
  refine ⟨?_, by simp⟩
  have e := toList_madeCells_one (.int .i64 0) n
  rw [← Array.getElem?_toList, e, List.getElem?_replicate, if_pos hi, List.getD_eq_getElem?_getD, List.getElem?_replicate, if_pos hi]; rfl
theorem Arr.alloc {w : World} {r off : Nat} {l : List Nat} (h : Arr w r off l) (o : Obj) : Arr (w.alloc o) r off l := h.gr (Gr.alloc (Gr.refl _) o)
theorem Arr.other {w : World} {r off b o : Nat} {l : List Nat} (h : Arr w r off l) (x : Value) (hb : r ≠ b) : Arr (w.setCell ⟨b, o, none⟩ x) r off l := h.ex (Ex.set (Ex.refl _ _) _ _) hb
theorem arr_at (w : World) (n r : Nat) (h : w.heap.size = r) : Arr (w.alloc (.cells (madeCells #[.int .i64 0] n) 3)) r 0 (List.replicate n 0) := by subst h; exact arr_made w n
theorem cell_at (w : World) (v : Value) (t : TypeId) (r : Nat) (h : w.heap.size = r) : (w.alloc (.cells #[v] t)).cell? ⟨r, 0, none⟩ = some v := by subst h; exact (Boxed.new w t v).cell
theorem cell_before (w : World) (o : Obj) (r : Nat) (v : Value) (h : r < w.heap.size) (hc : w.cell? ⟨r, 0, none⟩ = some v) : (w.alloc o).cell? ⟨r, 0, none⟩ = some v := by rw [World.cell?_alloc_lt _ _ _ h]; exact hc
theorem Arr.drew {w : World} {r off : Nat} {l : List Nat} (h : Arr w r off l) : Arr w.drew r off l := h
theorem mulc {N f k m : Nat} {c : Int} {R : List Nat} (hR : R.length = k) (hL : Lim R) (h : ((nv R : Nat) : Int) + c * 1073741824 ^ k = (nv (List.replicate m 0) : Nat) + (f : Int) * (nv (nd N) : Nat)) (hlt : f * N < 1073741824 ^ k) : nv R = f * N := by
  rw [nv_replicate, nv_nd] at h
  have h1 := pow_cast (by have := nv_lt hL; rwa [hR] at this)
  have h2 := pow_cast hlt
  rw [Int.natCast_mul] at h2
  have h3 : (0 : Int) ≤ (f : Int) * (N : Int) := Int.mul_nonneg (by omega) (by omega)
  have hc := carry_zero _ h (by omega) h1 (by omega) (by omega)
  rw [hc, Int.zero_mul] at h
  have h4 : (f : Int) * (N : Int) = ((f * N : Nat) : Int) := by simp
  omega
theorem top_lt {B f : Nat} (hB : 0 < B) (hf0 : 0 < f) (hf : ((nd B).getD ((nd B).length - 1) 0 + 1) * f ≤ 1073741824) : f * B < 1073741824 ^ (nd B).length := by
  have hl : 0 < (nd B).length := by rw [nd_pos hB]; simp
  have e := take_split' (nd B) ((nd B).length - 1)
  rw [show (nd B).length - 1 + 1 = (nd B).length by omega, List.take_of_length_le (Nat.le_refl _), nv_nd] at e
  have h1 := nv_lt (lim_take (lim_nd B) ((nd B).length - 1))
  rw [List.length_take, Nat.min_eq_left (by omega)] at h1
  have h2 : B < 1073741824 ^ ((nd B).length - 1) * ((nd B).getD ((nd B).length - 1) 0 + 1) := by rw [Nat.mul_add]; omega
  have h3 : f * B < f * (1073741824 ^ ((nd B).length - 1) * ((nd B).getD ((nd B).length - 1) 0 + 1)) := Nat.mul_lt_mul_of_pos_left h2 hf0
  refine Nat.lt_of_lt_of_le h3 ?_
  have h4 : 1073741824 ^ (nd B).length = 1073741824 * 1073741824 ^ ((nd B).length - 1) := by rw [← bp_succ]; congr 1; omega
  rw [h4, Nat.mul_left_comm, Nat.mul_comm, Nat.mul_comm f]
  exact Nat.mul_le_mul_right _ hf
theorem dv_top {B f : Nat} {D : List Nat} (hB : 0 < B) (hf : 0 < f) (hl : D.length = (nd B).length) (hL : Lim D) (hv : nv D = f * B) : 0 < D.getD (D.length - 1) 0 := by
  have h1 : B ≤ nv D := by rw [hv]; exact Nat.le_mul_of_pos_left B hf
  have h2 : D = nd (nv D) := nd_of hL (.inr (by rw [hl]; exact Nat.le_trans (nd_lo hB) h1))
  have h3 := nd_last (n := nv D) (by omega)
  rw [← h2] at h3
  omega
/-- what a round of divide keeps -/
def DvI (A f la : Nat) (D : List Nat) (hb p7 p8 r d g n lb : Nat) (vb : Value) (w : World) (pre : List (Ix n okT)) (W : World) : Prop :=
  (∃ R Q : List Nat, R.length = la + 1 ∧ Lim R ∧ Q.length = n ∧ Lim Q ∧ Arr W r 0 R ∧ Arr W g 0 Q ∧ Arr W d 0 D ∧ W.cell? ⟨hb, 0, none⟩ = some vb ∧ W.cell? ⟨hb + 1, 0, none⟩ = some (.slice (some ⟨g, 0, none⟩) n n) ∧ W.frozen? ⟨hb + 1, 0, none⟩ = false ∧
    W.cell? ⟨p7, 0, none⟩ = some (.slice (some ⟨r, 0, none⟩) (la + 1) (la + 1)) ∧ W.cell? ⟨p8, 0, none⟩ = some (.slice (some ⟨d, 0, none⟩) lb lb) ∧
    (∀ m, m ≤ n → ixs pre = dn n m → A * f = nv R + 1073741824 ^ m * nv (Q.drop m) * nv D ∧ nv (R.drop m) < nv D)) ∧ Gr w W
theorem dvI_own (A f la : Nat) (D : List Nat) (hb p7 p8 r d g n lb : Nat) (vb : Value) (w : World) {N : Nat} (hN : w.heap.size ≤ N) : OwnFrom N (DvI A f la D hb p7 p8 r d g n lb vb w) :=
  OwnFrom.and (Go.Own.from (fun _ _ _ _ hs hg hr => by
    obtain ⟨R, Q, h1, h2, h3, h4, h5, h6, h7, h8, h9, h10, h11, h12, h13⟩ := hs
    exact ⟨R, Q, h1, h2, h3, h4, arr_kept h5 hg hr, arr_kept h6 hg hr, arr_kept h7 hg hr, cell_kept h8 hg hr, cell_kept h9 hg hr, (frozen_kept h9 hg hr).trans h10, cell_kept h11 hg hr, cell_kept h12 hg hr, h13⟩) _) (ownFrom_below (Nat.le_refl _) hN)
theorem keeps_ex {W w5 : World} {r o : Nat} {v : Value} (h : Ex r W w5) (hc : W.cell? ⟨r, o, none⟩ = some v) : KeepsOthers W w5 := by
  obtain ⟨ob, ho, hcells⟩ := cells_of_cell hc
  refine ⟨h.size, fun k o hk hno => ?_⟩
  by_cases hkr : k = r
  · subst hkr
    rw [ho] at hk
    cases hk
    rw [hcells] at hno; cases hno
  · rw [h.block k hkr (Array.getElem?_eq_some_iff.1 hk).1]; exact hk
theorem dv_round {A f i q n : Nat} {R' Q D Rw : List Nat} (h1 : A * f = nv R' + 1073741824 ^ (i + 1) * nv (Q.drop (i + 1)) * nv D) (h2 : nv (R'.drop (i + 1)) < nv D) (lR : Lim R') (lD : Lim D) (hi : i + D.length + 1 ≤ R'.length) (hQ : i < Q.length) (hn : n = D.length)
    (hq : q = dq ((R'.drop i).take (n + 1)) D) (hv : nv Rw + q * nv D = nv ((R'.drop i).take (n + 1))) (hl : Rw.length = n + 1) :
    A * f = nv (R'.take i ++ (Rw ++ R'.drop (i + (n + 1)))) + 1073741824 ^ i * nv ((Q.set i q).drop i) * nv D ∧ nv ((R'.take i ++ (Rw ++ R'.drop (i + (n + 1)))).drop i) < nv D := by
  subst hn
  obtain ⟨hb, hs⟩ := div_step h1 h2 lR lD hi hQ
  have hD0 : 0 < nv D := by omega
  have hlt : nv ((R'.drop i).take (D.length + 1)) / nv D < 1073741824 := (Nat.div_lt_iff_lt_mul hD0).2 hb
  have hq2 : q = nv ((R'.drop i).take (D.length + 1)) / nv D := by rw [hq]; unfold dq; omega
  have hm : nv Rw = nv ((R'.drop i).take (D.length + 1)) % nv D := by
    have := Nat.mod_add_div (nv ((R'.drop i).take (D.length + 1))) (nv D)
    rw [← hq2, Nat.mul_comm] at this
    omega
  rw [hq2]
  exact hs Rw hl hm
theorem Arr.num {w : World} {r cap n : Nat} {l : List Nat} (h : Arr w r 0 l) (hL : Lim l) (hl : l.length ≤ cap) (hc : cap ≤ 9223372036854775807) (hv : nv l = n) : Num w (.slice (some ⟨r, 0, none⟩) (nd n).length cap) n := by
  subst hv
  unfold Num
  have hk := nd_take hL
  have hle := nd_nv_le hL
  have h2 : Arr w r 0 (nd (nv l)) := by
    intro i hi
    obtain ⟨a, b⟩ := h i (by omega)
    refine ⟨?_, b⟩
    have e : (nd (nv l)).getD i 0 = l.getD i 0 := by
      conv => lhs; rw [hk]
      rw [List.getD_eq_getElem?_getD, List.getElem?_take, if_pos hi, ← List.getD_eq_getElem?_getD]
    rw [a, e]
  exact h2.rd (by omega) hc trivial
/-- a quotient and a remainder -/
def DivPost (w : World) (A B : Nat) (e : Ending) (w' : World) : Prop := ∃ vq vr : Value, e = .returned (.tuple #[vq, vr]) ∧ Num w' vq (A / B) ∧ Num w' vr (A % B) ∧ Gr w w'
set_option maxHeartbeats 4000000 in
theorem divide_any {A B : Nat} (va vb : Value) (w : World) (hA : Num w va A) (hB : Num w vb B) (hB0 : 0 < B) (lA : (nd A).length ≤ 1000) (lB : (nd B).length ≤ (nd A).length) :
    Calls Tryz.prog 95 #[va, vb] w (DivPost w A B) := by
  have hA0 := hA
  have hB1 := hB
  obtain ⟨aa, acap, rfl, -, -, HA⟩ := hA
  obtain ⟨ab, bcap, rfl, -, -, HB⟩ := hB
  have HA0 := Lib.hid hA0
  have HB0 := Lib.hid hB1
  have hbl : 0 < (nd B).length := by rw [nd_pos hB0]; simp
  obtain ⟨bb, ob, rfl, -, hbt⟩ := HB ((nd B).length - 1) (by omega)
  have hlast := nd_last hB0
  have htop := lim_getD (lim_nd B) ((nd B).length - 1)
  have HHA := Lib.hid HA
  have HHB := Lib.hid HB
  clear HA HB hA0 hB1
  have d0 : decide ((nd A).length < (nd B).length) = false := by simpa using lB
  generalize hyy : (nd B).getD ((nd B).length - 1) 0 = y at *
  have HYY := Lib.hid hyy
  clear hyy
  have hbw : bb < w.heap.size := World.block_lt_of_cell? _ _ hbt
  have hbt2 : ((w.alloc (.cells #[.slice (some ⟨bb, ob, none⟩) (nd B).length bcap] 24)).alloc (.cells #[.slice none 0 0] 24)).cell? ⟨bb, ob + ((nd B).length - 1), none⟩ = some (.int .i64 (y : Nat)) := by
    rw [World.cell?_alloc_lt _ _ _ (by simp; omega), World.cell?_alloc_lt _ _ _ hbw]; exact hbt
  obtain ⟨hL1, hL2, hL3⟩ := len_bits (Nat.pos_of_ne_zero hlast) htop
  obtain ⟨hf1, hf2⟩ := len_fac hL2 hL3
  have hlen := fun w => Tryz.bits_Len (y : Int) w (by omega) (by omega)
  rw [Int.toNat_natCast] at hlen
  generalize Lib.bitLen y = L at *
  have HLEN := Lib.hid hlen
  clear hlen
  obtain ⟨f, hff⟩ : ∃ f : Nat, f = 2 ^ (30 - L) := ⟨_, rfl⟩
  rw [← hff] at hf1 hf2
  have f1 : f < 1073741824 := by
    have : 2 ≤ y + 1 := by have := Nat.pos_of_ne_zero hlast; omega
    have h2 := Nat.le_trans (Nat.mul_le_mul_right f this) hf1
    clear hf1
    omega
  have hsh := Lib.hid (show wrap64 ((2 : Int) ^ (30 - L)) = (f : Int) by
    have : (2 : Int) ^ (30 - L) = (f : Int) := by rw [hff]; simp
    rw [this]; exact IntWalk.wrap64_in _ ⟨by omega, by omega⟩)
  clear hff
  have l1 : (L : Int) ≤ 30 := by omega
  have l0 : (1 : Int) ≤ (L : Int) := by omega
  have y1 : (y : Int) < 1073741824 := by omega
  have e1 : ((nd B).length : Int) - 1 = (((nd B).length - 1 : Nat) : Int) := by omega
  refine (callsIn_wide (n := 4)).1 ?_
  refine callsIn_of_wp_marks Tryz.func95 rfl trivial ?_ rfl
  simp only [Tryz.ntmps95, List.size_toArray, List.length_cons, List.length_nil, Nat.reduceAdd, Nat.reduceSub, Array.replicate_succ, Array.replicate_zero, List.push_toArray, List.append_toArray, List.nil_append, List.cons_append]
  have hsh := hsh.out
  gi_wp2_with (refine ⟨trivial, ?_⟩; gi_at_call 114; refine (callsIn_wide.2 (HLEN.out _)).mono ?_; rintro e w' ⟨rfl, rfl⟩)
  refine wpIn_wide.2 ?_
  have bx := Boxed.new w 24 (.slice (some ⟨bb, ob, none⟩) (nd B).length bcap)
  have bx := (bx.alloc (.cells #[.slice none 0 0] 24)).cell
  have bq := (Boxed.new (w.alloc (.cells #[.slice (some ⟨bb, ob, none⟩) (nd B).length bcap] 24)) 24 (.slice none 0 0)).cell
  have bqf := (Boxed.new (w.alloc (.cells #[.slice (some ⟨bb, ob, none⟩) (nd B).length bcap] 24)) 24 (.slice none 0 0)).frozen
  simp only [World.size_alloc] at bq bqf
  have hsz : ((w.alloc (.cells #[.slice (some ⟨bb, ob, none⟩) (nd B).length bcap] 24)).alloc (.cells #[.slice none 0 0] 24)).heap.size = w.heap.size + 1 + 1 := by simp
  have hG0 : Gr w ((w.alloc (.cells #[.slice (some ⟨bb, ob, none⟩) (nd B).length bcap] 24)).alloc (.cells #[.slice none 0 0] 24)) := (Gr.refl _).alloc _ |>.alloc _
  generalize (w.alloc (.cells #[.slice (some ⟨bb, ob, none⟩) (nd B).length bcap] 24)).alloc (.cells #[.slice none 0 0] 24) = W0 at *
  obtain ⟨ti, hi1, hi2, hi3, hi4⟩ := intInfo
  have q1 : IntKind.i64.wrap (((nd A).length : Int) + 1) = ((nd A).length : Int) + 1 := IntWalk.i64_in _ ⟨by omega, by omega⟩
  have mk1 : ∀ W : World, (Instr.makeSlice 24 (.int .i64 (((nd A).length : Int) + 1)) (.int .i64 (((nd A).length : Int) + 1))).run Tryz.prog W = .ok (.slice (some ⟨W.heap.size, 0, none⟩) ((nd A).length + 1) ((nd A).length + 1)) (W.alloc (.cells (madeCells #[.int .i64 0] ((nd A).length + 1)) 3)) := by
    intro W
    have := run_make (P := Tryz.prog) W 24 3 ti (.int .i64 0) Tryz.underlying24 hi1 hi2 .i64 .i64 (((nd A).length : Int) + 1) (((nd A).length : Int) + 1) (by omega) (Int.le_refl _) (by rw [hi4]; omega) (by omega)
    rw [hi3, show (((nd A).length : Int) + 1).toNat = (nd A).length + 1 by omega, Nat.mul_one] at this
    exact this
  have mk2 : ∀ W : World, (Instr.makeSlice 24 (.int .i64 ((nd B).length : Nat)) (.int .i64 ((nd B).length : Nat))).run Tryz.prog W = .ok (.slice (some ⟨W.heap.size, 0, none⟩) (nd B).length (nd B).length) (W.alloc (.cells (madeCells #[.int .i64 0] (nd B).length) 3)) := by
    intro W
    have := run_make (P := Tryz.prog) W 24 3 ti (.int .i64 0) Tryz.underlying24 hi1 hi2 .i64 .i64 ((nd B).length : Nat) ((nd B).length : Nat) (by omega) (Int.le_refl _) (by rw [hi4]; omega) (by omega)
    rw [hi3, Int.toNat_natCast, Nat.mul_one] at this
    exact this
  refine Code.wp_mono (Q := DvQ W0 (nd A).length (nd B).length (fun r d p7 p8 => { tmps := #[.slice aa (nd A).length acap, .slice (some ⟨bb, ob, none⟩) (nd B).length bcap, undef, .pointer (some ⟨w.heap.size, 0, none⟩), .pointer (some ⟨w.heap.size + 1, 0, none⟩), .slice none 0 0, .int .i64 f, .pointer (some ⟨p7, 0, none⟩), .pointer (some ⟨p8, 0, none⟩), undef,
    .slice aa (nd A).length acap, .int .i64 ((nd A).length : Nat), .slice (some ⟨bb, ob, none⟩) (nd B).length bcap, .int .i64 ((nd B).length : Nat), .bool false, undef, undef, .slice (some ⟨bb, ob, none⟩) (nd B).length bcap, .slice (some ⟨bb, ob, none⟩) (nd B).length bcap, .int .i64 ((nd B).length : Nat), .int .i64 (((nd B).length - 1 : Nat) : Int), .pointer (some ⟨bb, ob + ((nd B).length - 1), none⟩), .int .i64 (y : Nat), .int .u64 (y : Nat), .int .i64 (L : Nat), .int .i64 (30 - (L : Int)), .int .i64 f,
    .slice aa (nd A).length acap, .int .i64 ((nd A).length : Nat), .int .i64 (((nd A).length : Int) + 1), .slice (some ⟨r, 0, none⟩) ((nd A).length + 1) ((nd A).length + 1), .slice (some ⟨bb, ob, none⟩) (nd B).length bcap, .int .i64 ((nd B).length : Nat), .slice (some ⟨d, 0, none⟩) (nd B).length (nd B).length,
    undef, undef, undef, undef, undef, undef, undef, undef, undef, undef, undef, undef, undef, undef, undef, undef, undef, undef, undef, undef, undef, undef, undef, undef, undef, undef, undef, undef, undef, undef, undef, undef, undef, undef, undef, undef, undef, undef, undef], defers := [] })) ?q4 ?r4
  case r4 =>
    go_region_held3 (fun W' : World => W'.cell? ⟨w.heap.size, 0, none⟩ = some (.slice (some ⟨bb, ob, none⟩) (nd B).length bcap)) (first | assumption | (simp [go_sem, *]; done) | go_cell) (fail)
    all_goals
      refine ⟨_, _, _, _, rfl, ?_⟩
      refine ⟨?_, by omega, by omega, by omega, by omega, by omega, by omega, by omega, by omega, by omega, ?_, ?_, ?_, ?_⟩
      · exact Gr.drew (Gr.alloc (Gr.alloc (Gr.alloc (Gr.alloc (Gr.refl _) _) _) _) _)
      · repeat' (first | exact arr_at _ _ _ (by simp [hsz]; done) | refine Arr.alloc ?_ _ | refine Arr.drew ?_)
      · repeat' (first | exact arr_at _ _ _ (by simp [hsz]; done) | refine Arr.alloc ?_ _ | refine Arr.drew ?_)
      · rw [World.cell?_drew]
        repeat' (first | exact cell_at _ _ _ _ (by simp [hsz]; done) | refine cell_before _ _ _ _ (by simp [hsz]; done) ?_)
      · rw [World.cell?_drew]
        repeat' (first | exact cell_at _ _ _ _ (by simp [hsz]; done) | refine cell_before _ _ _ _ (by simp [hsz]; done) ?_)
  case q4 =>
    intro e a w1 hq
    cases e <;> first | exact (hq : False).elim | skip
    obtain ⟨r, d, p7, p8, rfl, hm⟩ := hq
    clear hsh q1 mk1 mk2
    have hwr : w.heap.size + 2 ≤ r := by have := hm.hr; omega
    have hwd : w.heap.size + 2 ≤ d := by have := hm.hd; omega
    have hw7 : w.heap.size + 2 ≤ p7 := by have := hm.h7; omega
    have hw8 : w.heap.size + 2 ≤ p8 := by have := hm.h8; omega
    have hG1 : Gr w w1 := hG0.step hm.gr
    have hA1 : Rd (· ≠ r) w1 (.slice aa (nd A).length acap) (nd A) := Rd.gr (HA0.out.off (by omega)) hG1
    have hB1 : Rd (· ≠ d) w1 (.slice (some ⟨bb, ob, none⟩) (nd B).length bcap) (nd B) := Rd.gr (HB0.out.off (by omega)) hG1
    have hC1 := addTimes_any (List.replicate ((nd A).length + 1) 0) (nd A) (f : Int) r 0 ((nd A).length + 1) _ w1 hm.ar hA1 (lim_replicate _) (lim_nd A) (by rw [List.length_replicate]; omega) (by omega) (by omega) (by rw [List.length_replicate]; omega)
    rw [List.length_replicate] at hC1
    have HC1 := Lib.hid hC1
    have HM := Lib.hid hm
    have bx1 : w1.cell? ⟨w.heap.size, 0, none⟩ = some (.slice (some ⟨bb, ob, none⟩) (nd B).length bcap) := by rw [(Gr.cells hm.gr).1 _ _ (by omega)]; exact bx
    have bq1 : w1.cell? ⟨w.heap.size + 1, 0, none⟩ = some (.slice none 0 0) := by rw [(Gr.cells hm.gr).1 _ _ (by omega)]; exact bq
    have bqf1 : w1.frozen? ⟨w.heap.size + 1, 0, none⟩ = false := by rw [(Gr.cells hm.gr).2 _ _ (by omega)]; exact bqf
    have c71 := hm.c7
    have c81 := hm.c8
    have HB1 := Lib.hid hB1
    have HF1 := Lib.hid hf1
    have HF2 := Lib.hid hf2
    have HLAST := Lib.hid hlast
    have HTOP := Lib.hid htop
    clear hC1 hA1 hB1 bx bq bqf hbt2 hsz hm hf1 hf2 hlast htop hL1 hL2 hL3 l1 l0 y1 d0 e1 hi1 hi2 hi3 hi4
    gi_wp2_with fail
    refine ⟨trivial, ?_⟩
    refine (callsIn_wide.2 HC1.out).mono ?_
    rintro e w2 ⟨c, R, rfl, hRl, hRL, -, -, hReq, hRa, hRw⟩
    rw [List.length_replicate] at hRl hReq
    have hRv : nv R = A * f := by
      rw [Nat.mul_comm]
      refine mulc hRl hRL hReq ?_
      have h1 := nd_hi A
      rw [bp_succ]
      exact Nat.mul_lt_mul_of_lt_of_le f1 (Nat.le_of_lt h1) (bp_pos _)
    have HRV := Lib.hid hRv
    have c72 : w2.cell? ⟨p7, 0, none⟩ = some (.slice (some ⟨r, 0, none⟩) ((nd A).length + 1) ((nd A).length + 1)) := by rw [hRw.ex.cell _ _ (Ne.symm HM.out.r7) (World.block_lt_of_cell? _ _ c71)]; exact c71
    have c82 : w2.cell? ⟨p8, 0, none⟩ = some (.slice (some ⟨d, 0, none⟩) (nd B).length (nd B).length) := by rw [hRw.ex.cell _ _ (Ne.symm HM.out.r8) (World.block_lt_of_cell? _ _ c81)]; exact c81
    have bx2 : w2.cell? ⟨w.heap.size, 0, none⟩ = some (.slice (some ⟨bb, ob, none⟩) (nd B).length bcap) := by rw [hRw.ex.cell w.heap.size 0 (by omega) (World.block_lt_of_cell? _ _ bx1)]; exact bx1
    have bq2 : w2.cell? ⟨w.heap.size + 1, 0, none⟩ = some (.slice none 0 0) := by rw [hRw.ex.cell (w.heap.size + 1) 0 (by omega) (World.block_lt_of_cell? _ _ bq1)]; exact bq1
    have bqf2 : w2.frozen? ⟨w.heap.size + 1, 0, none⟩ = false := by rw [hRw.ex.frozen (w.heap.size + 1) 0 (by omega) (World.block_lt_of_cell? _ _ bq1)]; exact bqf1
    have hG2 : Gr w w2 := Ex.gr hG1 (by omega) hRw.ex
    have hD2 : Arr w2 d 0 (List.replicate (nd B).length 0) := HM.out.ad.ex hRw.ex (Ne.symm HM.out.rd)
    have hC2 := addTimes_any (List.replicate (nd B).length 0) (nd B) (f : Int) d 0 (nd B).length _ w2 hD2 (Rd.gr (HB0.out.off (by omega)) hG2) (lim_replicate _) (lim_nd B) (by rw [List.length_replicate]; omega) (by omega) (by omega) (by rw [List.length_replicate]; omega)
    rw [List.length_replicate] at hC2
    have HC2 := Lib.hid hC2
    have HRa := Lib.hid hRa
    have HRl := Lib.hid hRl
    clear hC2 hD2 hRa hReq hRw hRv hRl c71 c81 bx1 bq1 bqf1
    gi_wp2_with fail
    refine ⟨trivial, ?_⟩
    refine (callsIn_wide.2 HC2.out).mono ?_
    rintro e w3 ⟨c', D, rfl, hDl, hDL, -, -, hDeq, hDa, hDw⟩
    rw [List.length_replicate] at hDl hDeq
    have hDv : nv D = f * B := mulc hDl hDL hDeq (top_lt hB0 HF2.out (by rw [HYY.out]; exact HF1.out))
    have hDt : 0 < D.getD (D.length - 1) 0 := dv_top hB0 HF2.out hDl hDL hDv
    have c73 : w3.cell? ⟨p7, 0, none⟩ = some (.slice (some ⟨r, 0, none⟩) ((nd A).length + 1) ((nd A).length + 1)) := by rw [hDw.ex.cell _ _ (Ne.symm HM.out.d7) (World.block_lt_of_cell? _ _ c72)]; exact c72
    have c83 : w3.cell? ⟨p8, 0, none⟩ = some (.slice (some ⟨d, 0, none⟩) (nd B).length (nd B).length) := by rw [hDw.ex.cell _ _ (Ne.symm HM.out.d8) (World.block_lt_of_cell? _ _ c82)]; exact c82
    have bx3 : w3.cell? ⟨w.heap.size, 0, none⟩ = some (.slice (some ⟨bb, ob, none⟩) (nd B).length bcap) := by rw [hDw.ex.cell w.heap.size 0 (by omega) (World.block_lt_of_cell? _ _ bx2)]; exact bx2
    have bq3 : w3.cell? ⟨w.heap.size + 1, 0, none⟩ = some (.slice none 0 0) := by rw [hDw.ex.cell (w.heap.size + 1) 0 (by omega) (World.block_lt_of_cell? _ _ bq2)]; exact bq2
    have bqf3 : w3.frozen? ⟨w.heap.size + 1, 0, none⟩ = false := by rw [hDw.ex.frozen (w.heap.size + 1) 0 (by omega) (World.block_lt_of_cell? _ _ bq2)]; exact bqf2
    have hG3 : Gr w w3 := Ex.gr hG2 (by omega) hDw.ex
    have hRa3 : Arr w3 r 0 R := HRa.out.ex hDw.ex HM.out.rd
    have hbp : w.heap.size + 1 < w3.heap.size := World.block_lt_of_cell? _ _ bq3
    obtain ⟨n, hn⟩ : ∃ n, n = (nd A).length - (nd B).length + 1 := ⟨_, rfl⟩
    obtain ⟨ti, hi1, hi2, hi3, hi4⟩ := intInfo
    have s1 : ((nd A).length : Int) - ((nd B).length : Int) + 1 = (n : Int) := by omega
    have mk3 : ∀ W : World, (Instr.makeSlice 24 (.int .i64 (n : Int)) (.int .i64 (n : Int))).run Tryz.prog W = .ok (.slice (some ⟨W.heap.size, 0, none⟩) n n) (W.alloc (.cells (madeCells #[.int .i64 0] n) 3)) := by
      intro W
      have := run_make (P := Tryz.prog) W 24 3 ti (.int .i64 0) Tryz.underlying24 hi1 hi2 .i64 .i64 (n : Int) (n : Int) (by omega) (Int.le_refl _) (by rw [hi4]; omega) (by omega)
      rw [hi3, Int.toNat_natCast, Nat.mul_one] at this
      exact this
    have HRa3 := Lib.hid hRa3
    have HDa := Lib.hid hDa
    have HDl := Lib.hid hDl
    have HDv := Lib.hid hDv
    have HDt := Lib.hid hDt
    have HN := Lib.hid hn
    have hn1 : n ≤ 1001 := by omega
    have hn0 : 0 < n := by omega
    have hbne : (⟨w.heap.size + 1, 0, none⟩ : Addr).block < w3.heap.size := hbp
    clear hRa3 hDa hDl hDv hDt hDeq hDw c72 c82 bx2 bq2 bqf2 hn hi1 hi2 hi3 hi4
    gi_wp2_with (refine ⟨trivial, ?_⟩; gi_at_call 77; refine (back_in Fence.wide (4 - 1) trivial rfl _ _ _ _).mono ?_; rintro e w' ⟨rfl, rfl⟩)
    have hg4 : Gr w (((w3.setCell ⟨w.heap.size + 1, 0, none⟩ (.slice (some ⟨w3.heap.size, 0, none⟩) n n)).alloc (.cells (madeCells #[.int .i64 0] n) 3)).alloc (.cells #[.slice (some ⟨w3.heap.size, 0, none⟩) n n] 24)) :=
      ((hG3.setCell (p := ⟨w.heap.size + 1, 0, none⟩) (by simp) _).alloc _).alloc _
    have hsz3 : (w3.setCell ⟨w.heap.size + 1, 0, none⟩ (.slice (some ⟨w3.heap.size, 0, none⟩) n n)).heap.size = w3.heap.size := by simp
    have hQa4 : Arr (((w3.setCell ⟨w.heap.size + 1, 0, none⟩ (.slice (some ⟨w3.heap.size, 0, none⟩) n n)).alloc (.cells (madeCells #[.int .i64 0] n) 3)).alloc (.cells #[.slice (some ⟨w3.heap.size, 0, none⟩) n n] 24)) w3.heap.size 0 (List.replicate n 0) := (arr_at _ _ _ hsz3).alloc _
    have hst : ∀ c o v, c ≠ w.heap.size + 1 → w3.cell? ⟨c, o, none⟩ = some v → (((w3.setCell ⟨w.heap.size + 1, 0, none⟩ (.slice (some ⟨w3.heap.size, 0, none⟩) n n)).alloc (.cells (madeCells #[.int .i64 0] n) 3)).alloc (.cells #[.slice (some ⟨w3.heap.size, 0, none⟩) n n] 24)).cell? ⟨c, o, none⟩ = some v := fun c o v hc hv => by
      have h0 := World.block_lt_of_cell? _ _ hv
      rw [World.cell?_alloc_lt _ _ _ (by simp; have : c < w3.heap.size := h0; omega), World.cell?_alloc_lt _ _ _ (by simp; exact h0), World.cell?_setCell_other _ _ _ _ (by intro e; cases e; exact hc rfl)]
      exact hv
    have c74 := hst _ _ _ (by omega) c73
    have c84 := hst _ _ _ (by omega) c83
    have bx4 := hst _ _ _ (by omega) bx3
    have bq4 : (((w3.setCell ⟨w.heap.size + 1, 0, none⟩ (.slice (some ⟨w3.heap.size, 0, none⟩) n n)).alloc (.cells (madeCells #[.int .i64 0] n) 3)).alloc (.cells #[.slice (some ⟨w3.heap.size, 0, none⟩) n n] 24)).cell? ⟨w.heap.size + 1, 0, none⟩ = some (.slice (some ⟨w3.heap.size, 0, none⟩) n n) := by
      rw [World.cell?_alloc_lt _ _ _ (by simp; omega), World.cell?_alloc_lt _ _ _ (by simp; exact hbp)]
      exact World.cell?_setCell_same' _ _ _ (by rw [bq3]; rfl)
    have bqf4 : (((w3.setCell ⟨w.heap.size + 1, 0, none⟩ (.slice (some ⟨w3.heap.size, 0, none⟩) n n)).alloc (.cells (madeCells #[.int .i64 0] n) 3)).alloc (.cells #[.slice (some ⟨w3.heap.size, 0, none⟩) n n] 24)).frozen? ⟨w.heap.size + 1, 0, none⟩ = false := by
      have e1 : ∀ (W : World) (o : Obj), w.heap.size + 1 < W.heap.size → (W.alloc o).frozen? ⟨w.heap.size + 1, 0, none⟩ = W.frozen? ⟨w.heap.size + 1, 0, none⟩ := fun W o h => (Gr.cells (Gr.alloc (Gr.refl W) o)).2 _ _ h
      rw [e1 _ _ (by simp; omega), e1 _ _ (by simp; exact hbp), World.frozen?_setCell]; exact bqf3
    have bN := (Boxed.new ((w3.setCell ⟨w.heap.size + 1, 0, none⟩ (.slice (some ⟨w3.heap.size, 0, none⟩) n n)).alloc (.cells (madeCells #[.int .i64 0] n) 3)) 24 (.slice (some ⟨w3.heap.size, 0, none⟩) n n)).cell
    have hRa4 : Arr (((w3.setCell ⟨w.heap.size + 1, 0, none⟩ (.slice (some ⟨w3.heap.size, 0, none⟩) n n)).alloc (.cells (madeCells #[.int .i64 0] n) 3)).alloc (.cells #[.slice (some ⟨w3.heap.size, 0, none⟩) n n] 24)) r 0 R := ((HRa3.out.other _ (by omega)).alloc _).alloc _
    have hDa4 : Arr (((w3.setCell ⟨w.heap.size + 1, 0, none⟩ (.slice (some ⟨w3.heap.size, 0, none⟩) n n)).alloc (.cells (madeCells #[.int .i64 0] n) 3)).alloc (.cells #[.slice (some ⟨w3.heap.size, 0, none⟩) n n] 24)) d 0 D := ((HDa.out.other _ (by omega)).alloc _).alloc _
    simp only [World.size_alloc, hsz3] at bN
    have hrw3 : r < w3.heap.size := World.block_lt_of_cell? _ _ (HRa3.out 0 (by rw [HRl.out]; omega)).1
    have hdw3 : d < w3.heap.size := World.block_lt_of_cell? _ _ (HDa.out 0 (by rw [HDl.out]; exact hbl)).1
    have h7w3 : p7 < w3.heap.size := World.block_lt_of_cell? _ _ c73
    have h8w3 : p8 < w3.heap.size := World.block_lt_of_cell? _ _ c83
    have hszW : (((w3.setCell ⟨w.heap.size + 1, 0, none⟩ (.slice (some ⟨w3.heap.size, 0, none⟩) n n)).alloc (.cells (madeCells #[.int .i64 0] n) 3)).alloc (.cells #[.slice (some ⟨w3.heap.size, 0, none⟩) n n] 24)).heap.size = w3.heap.size + 1 + 1 := by simp
    clear hst hsz3
    generalize hg : w3.heap.size = g at *
    generalize ((w3.setCell ⟨w.heap.size + 1, 0, none⟩ (.slice (some ⟨g, 0, none⟩) n n)).alloc (.cells (madeCells #[.int .i64 0] n) 3)).alloc (.cells #[.slice (some ⟨g, 0, none⟩) n n] 24) = W4 at *
    clear mk3 s1 hbne hg
    refine wpIn_rangeFunc_ownG rfl (by decide) (gf := 100) (lb := #[.pointer (some ⟨g + 1, 0, none⟩)]) rfl trivial (enters_of Tryz.func100 (by kernel_rfl) rfl)
      (back_stops Fence.wide (4 - 1) trivial rfl (by decide) (g + 1) g 0 n n (some ⟨g, 0, none⟩) okT (by omega) W4 (by omega) bN (.inr ⟨rfl, by omega, fun j hj => ⟨_, (hQa4 j (by rw [List.length_replicate]; exact hj)).1, trivial⟩⟩)) bkp_t (fun W l o o' _ h hc _ => bkp_b W l o o' h hc) (Below.refl _ _) (fun _ => rfl)
      (DvI A f (nd A).length D w.heap.size p7 p8 r d g n (nd B).length (.slice (some ⟨bb, ob, none⟩) (nd B).length bcap) w) (fun _ _ _ => False) (dvI_own _ _ _ _ _ _ _ _ _ _ _ _ _ w (by have := hg4.size; omega)) (fun _ _ _ _ _ hs _ _ => hs)
      ⟨⟨R, List.replicate n 0, HRl.out, hRL, List.length_replicate, lim_replicate _, hRa4, hQa4, hDa4, bx4, bq4, bqf4, c74, c84, fun m hm h => by
        have hmn : m = n := dn_inj hm (Nat.le_refl _) (by rw [← h, dn_end]; rfl)
        rw [hmn, List.drop_of_length_le (by rw [List.length_replicate]; exact Nat.le_refl _)]
        refine ⟨by rw [HRV.out]; simp [nv], ?_⟩
        have := div_start (Bv := B) (f := f) (lb := (nd B).length) HRV.out HRl.out hbl lB (nd_hi A) (nd_lo hB0) HF2.out
        rw [HDv.out, Nat.mul_comm f B, HN.out]; exact this⟩, hg4⟩
      (fun x => { tmps := #[.slice aa (nd A).length acap, .slice (some ⟨bb, ob, none⟩) (nd B).length bcap, undef, .pointer (some ⟨w.heap.size, 0, none⟩), .pointer (some ⟨w.heap.size + 1, 0, none⟩), .slice none 0 0, .int .i64 f, .pointer (some ⟨p7, 0, none⟩), .pointer (some ⟨p8, 0, none⟩), .int .i64 (x.1.1 : Nat),
      .slice aa (nd A).length acap, .int .i64 ((nd A).length : Nat), .slice (some ⟨bb, ob, none⟩) (nd B).length bcap, .int .i64 ((nd B).length : Nat), .bool false, undef, undef, .slice (some ⟨bb, ob, none⟩) (nd B).length bcap, .slice (some ⟨bb, ob, none⟩) (nd B).length bcap, .int .i64 ((nd B).length : Nat), .int .i64 (((nd B).length - 1 : Nat) : Int), .pointer (some ⟨bb, ob + ((nd B).length - 1), none⟩), .int .i64 (y : Nat), .int .u64 (y : Nat), .int .i64 (L : Nat), .int .i64 (30 - (L : Int)), .int .i64 f,
      .slice aa (nd A).length acap, .int .i64 ((nd A).length : Nat), .int .i64 (((nd A).length : Int) + 1), .slice (some ⟨r, 0, none⟩) ((nd A).length + 1) ((nd A).length + 1), .slice (some ⟨bb, ob, none⟩) (nd B).length bcap, .int .i64 ((nd B).length : Nat), .slice (some ⟨d, 0, none⟩) (nd B).length (nd B).length,
      .slice (some ⟨r, 0, none⟩) ((nd A).length + 1) ((nd A).length + 1), .slice aa (nd A).length acap, .int .i64 f, .int .i64 c, .slice (some ⟨d, 0, none⟩) (nd B).length (nd B).length, .slice (some ⟨bb, ob, none⟩) (nd B).length bcap, .int .i64 f, .int .i64 c', .slice aa (nd A).length acap, .int .i64 ((nd A).length : Nat), .slice (some ⟨bb, ob, none⟩) (nd B).length bcap, .int .i64 ((nd B).length : Nat), .int .i64 (((nd A).length : Int) - ((nd B).length : Int)), .int .i64 (n : Nat), .slice (some ⟨g, 0, none⟩) n n, .slice (some ⟨g, 0, none⟩) n n, .func (.func 100) #[] #[.pointer (some ⟨g + 1, 0, none⟩)], .int .i64 (x.1.1 : Nat), .int .i64 x.1.2,
      undef, undef, undef, undef, undef, undef, undef, undef, undef, undef, undef, undef, undef, undef, undef, undef, undef, undef, undef, undef], defers := [] }) ?assign ?body ?done ?stop
    case assign =>
      intro l x W K hK
      gi_wp2
      exact hK
    case body =>
      rintro l pre x W ⟨⟨R', Q, hR'l, hR'L, hQl, hQL, hR'a, hQa, hDa', kb, kq, kqf, k7, k8, hinv⟩, hGW⟩ -
      obtain ⟨⟨i, z⟩, hi, hz⟩ := x
      dsimp only at hi
      have HI := Lib.hid hinv
      have HR'a := Lib.hid hR'a
      have HQa := Lib.hid hQa
      have HDa' := Lib.hid hDa'
      have HQl := Lib.hid hQl
      have HR'l := Lib.hid hR'l
      have hgne : g ≠ r ∧ g ≠ d ∧ g ≠ p7 ∧ g ≠ p8 := by omega
      have h7r : p7 ≠ r := Ne.symm HM.out.r7
      have h8r : p8 ≠ r := Ne.symm HM.out.r8
      have hdr : d ≠ r := Ne.symm HM.out.rd
      have hWl : ((R'.drop i).take ((nd B).length + 1)).length = (nd B).length + 1 := by rw [List.length_take, List.length_drop, hR'l]; have := HN.out; omega
      obtain ⟨nb, hnb⟩ : ∃ nb, (nd B).length = nb + 1 := ⟨(nd B).length - 1, by omega⟩
      have hdig : ∀ W', Gr W W' → Calls Tryz.prog 115 #[.slice (some ⟨r, i, none⟩) ((nd B).length + 1) ((nd A).length + 1 - i), .slice (some ⟨d, 0, none⟩) (nd B).length (nd B).length] W' (DgPost r i ((R'.drop i).take ((nd B).length + 1)) D W') := by
        intro W' hg'
        have ha := (hR'a.sub i ((nd B).length + 1)).gr hg'
        rw [Nat.zero_add] at ha
        have hd := (hDa'.gr hg').rd (p := (· ≠ r)) (cap := (nd B).length) (by rw [HDl.out]; exact Nat.le_refl _) (by omega) hdr
        have := digit_any ((R'.drop i).take ((nd B).length + 1)) D nb r i ((nd A).length + 1 - i) _ W' (by rw [hWl]; omega) (by rw [HDl.out]; omega) (by omega) (lim_take (lim_drop hR'L _) _) hDL (by have := HDt.out; rw [HDl.out, hnb] at this; exact this) ha hd
        rw [hWl, HDl.out] at this
        exact this
      have HDG := Lib.hid hdig
      have HWL := Lib.hid hWl
      have HNB := Lib.hid hnb
      have hq := (hQa i (by rw [hQl]; exact hi))
      rw [Nat.zero_add] at hq
      obtain ⟨hqc, hqf⟩ := hq
      obtain ⟨hi2, hhi2⟩ : ∃ hi2 : Nat, hi2 = i + (nd B).length + 1 := ⟨_, rfl⟩
      have i1 : (i : Int) < (n : Int) := by omega
      have i0 : (0 : Int) ≤ (i : Int) := by omega
      have f1' : i ≤ hi2 := by omega
      have f2' : hi2 ≤ (nd A).length + 1 := by have := HN.out; omega
      have f3' : (i : Int) ≤ (hi2 : Int) := by omega
      have f4' : (hi2 : Int) ≤ (((nd A).length + 1 : Nat) : Int) := by omega
      have f4'' : (hi2 : Int) ≤ ((nd A).length : Int) + 1 := by omega
      have f6' : (0 : Int) ≤ (hi2 : Int) := by omega
      have f7' : ((nd A).length + 1 = i) = False := by simp; omega
      have f8' : hi2 - i = (nd B).length + 1 := by omega
      have HHI := Lib.hid hhi2
      clear hinv hR'a hQa hDa' hdig hWl hnb hQl hR'l hhi2
      have m1 := Lib.hid (show IntKind.i64.wrap ((i : Int) + ((nd B).length : Int)) = (i : Int) + ((nd B).length : Int) from IntWalk.i64_in _ ⟨by omega, by omega⟩)
      have m2 := Lib.hid (show IntKind.i64.wrap ((i : Int) + ((nd B).length : Int) + 1) = (hi2 : Int) by rw [HHI.out]; exact IntWalk.i64_in _ ⟨by omega, by omega⟩)
      have m1 := m1.out
      have m2 := m2.out
      dsimp only
      gi_wp2
      have hS : (fun W' : World => W'.cell? ⟨w.heap.size + 1, 0, none⟩ = some (.slice (some ⟨g, 0, none⟩) n n) ∧ W'.cell? ⟨p7, 0, none⟩ = some (.slice (some ⟨r, 0, none⟩) ((nd A).length + 1) ((nd A).length + 1)) ∧ W'.cell? ⟨w.heap.size, 0, none⟩ = some (.slice (some ⟨bb, ob, none⟩) (nd B).length bcap) ∧ W'.cell? ⟨p8, 0, none⟩ = some (.slice (some ⟨d, 0, none⟩) (nd B).length (nd B).length)) W.drew := ⟨kq, k7, kb, k8⟩
      refine region_round (fun W' : World => W'.cell? ⟨w.heap.size + 1, 0, none⟩ = some (.slice (some ⟨g, 0, none⟩) n n) ∧ W'.cell? ⟨p7, 0, none⟩ = some (.slice (some ⟨r, 0, none⟩) ((nd A).length + 1) ((nd A).length + 1)) ∧ W'.cell? ⟨w.heap.size, 0, none⟩ = some (.slice (some ⟨bb, ob, none⟩) (nd B).length bcap) ∧ W'.cell? ⟨p8, 0, none⟩ = some (.slice (some ⟨d, 0, none⟩) (nd B).length (nd B).length)) l _ (by kernel_rfl) (by kernel_rfl) ?_
      refine take_at 0 (some 53) (v := ?v0) rfl rfl (by kernel_rfl) (by kernel_rfl) (by kernel_rfl) (by rfl) ?y0 hS ?t0
      case y0 =>
        intro w' hSw
        (try dsimp only at hSw)
        obtain ⟨s1, s2, s3, s4⟩ := hSw
        go_simp
        (try with_reducible rfl)
      simp only [Act.put, List.setIfInBounds_toArray, List.set_cons_zero, List.set_cons_succ]
      refine take_at 1 (some 54) (v := ?v1) rfl rfl (by kernel_rfl) (by kernel_rfl) (by kernel_rfl) (by rfl) ?y1 hS ?t1
      case y1 =>
        intro w' hSw
        (try dsimp only at hSw)
        obtain ⟨s1, s2, s3, s4⟩ := hSw
        go_simp
        (try with_reducible rfl)
      simp only [Act.put, List.setIfInBounds_toArray, List.set_cons_zero, List.set_cons_succ]
      refine take_at 2 (some 55) (v := ?v2) rfl rfl (by kernel_rfl) (by kernel_rfl) (by kernel_rfl) (by rfl) ?y2 hS ?t2
      case y2 =>
        intro w' hSw
        (try dsimp only at hSw)
        obtain ⟨s1, s2, s3, s4⟩ := hSw
        go_simp
        (try with_reducible rfl)
      simp only [Act.put, List.setIfInBounds_toArray, List.set_cons_zero, List.set_cons_succ]
      refine take_at 3 (some 56) (v := ?v3) rfl rfl (by kernel_rfl) (by kernel_rfl) (by kernel_rfl) (by rfl) ?y3 hS ?t3
      case y3 =>
        intro w' hSw
        (try dsimp only at hSw)
        obtain ⟨s1, s2, s3, s4⟩ := hSw
        go_simp
        (try with_reducible rfl)
      simp only [Act.put, List.setIfInBounds_toArray, List.set_cons_zero, List.set_cons_succ]
      refine take_at 4 (some 57) (v := ?v4) rfl rfl (by kernel_rfl) (by kernel_rfl) (by kernel_rfl) (by rfl) ?y4 hS ?t4
      case y4 =>
        intro w' hSw
        (try dsimp only at hSw)
        obtain ⟨s1, s2, s3, s4⟩ := hSw
        go_simp
        (try with_reducible rfl)
      simp only [Act.put, List.setIfInBounds_toArray, List.set_cons_zero, List.set_cons_succ]
      refine take_at 5 (some 58) (v := ?v5) rfl rfl (by kernel_rfl) (by kernel_rfl) (by kernel_rfl) (by rfl) ?y5 hS ?t5
      case y5 =>
        intro w' hSw
        (try dsimp only at hSw)
        obtain ⟨s1, s2, s3, s4⟩ := hSw
        go_simp
        (try with_reducible rfl)
      simp only [Act.put, List.setIfInBounds_toArray, List.set_cons_zero, List.set_cons_succ]
      refine take_at 6 (some 59) (v := ?v6) rfl rfl (by kernel_rfl) (by kernel_rfl) (by kernel_rfl) (by rfl) ?y6 hS ?t6
      case y6 =>
        intro w' hSw
        (try dsimp only at hSw)
        obtain ⟨s1, s2, s3, s4⟩ := hSw
        go_simp
        (try with_reducible rfl)
      simp only [Act.put, List.setIfInBounds_toArray, List.set_cons_zero, List.set_cons_succ]
      refine take_at 7 (some 60) (v := ?v7) rfl rfl (by kernel_rfl) (by kernel_rfl) (by kernel_rfl) (by rfl) ?y7 hS ?t7
      case y7 =>
        intro w' hSw
        (try dsimp only at hSw)
        obtain ⟨s1, s2, s3, s4⟩ := hSw
        go_simp
        (try with_reducible rfl)
      simp only [Act.put, List.setIfInBounds_toArray, List.set_cons_zero, List.set_cons_succ]
      refine take_at 8 (some 61) (v := ?v8) rfl rfl (by kernel_rfl) (by kernel_rfl) (by kernel_rfl) (by rfl) ?y8 hS ?t8
      case y8 =>
        intro w' hSw
        (try dsimp only at hSw)
        obtain ⟨s1, s2, s3, s4⟩ := hSw
        go_simp
        (try with_reducible rfl)
      simp only [Act.put, List.setIfInBounds_toArray, List.set_cons_zero, List.set_cons_succ]
      refine take_at 9 (some 62) (v := ?v9) rfl rfl (by kernel_rfl) (by kernel_rfl) (by kernel_rfl) (by rfl) ?y9 hS ?t9
      case y9 =>
        intro w' hSw
        (try dsimp only at hSw)
        obtain ⟨s1, s2, s3, s4⟩ := hSw
        go_simp
        (try with_reducible rfl)
      simp only [Act.put, List.setIfInBounds_toArray, List.set_cons_zero, List.set_cons_succ]
      refine take_at 10 (some 63) (v := ?v10) rfl rfl (by kernel_rfl) (by kernel_rfl) (by kernel_rfl) (by rfl) ?y10 hS ?t10
      case y10 =>
        intro w' hSw
        (try dsimp only at hSw)
        obtain ⟨s1, s2, s3, s4⟩ := hSw
        go_simp
        (try with_reducible rfl)
      simp only [Act.put, List.setIfInBounds_toArray, List.set_cons_zero, List.set_cons_succ]
      refine next_at 11 rfl (by kernel_rfl) (by rfl) (fun K hK => ?_)
      go_simp
      refine (HDG.out _ (Gr.drew (Gr.refl _))).mono ?_
      rintro e w5 ⟨Rw, rfl, hRwl, hRwL, hRwv, hRwa, hwin5⟩
      rw [HWL.out] at hRwl hwin5
      have h5 : Ex r W w5 := (Ex.drew (Ex.refl _ _)).trans hwin5.ex
      have cc : ∀ c o v, c ≠ r → W.cell? ⟨c, o, none⟩ = some v → w5.cell? ⟨c, o, none⟩ = some v := fun c o v hc hv => by rw [h5.cell _ _ hc (World.block_lt_of_cell? _ _ hv)]; exact hv
      have kq5 := cc _ _ _ (by omega) kq
      have k75 := cc _ _ _ h7r k7
      have kb5 := cc _ _ _ (by omega) kb
      have k85 := cc _ _ _ h8r k8
      have hqc5 := cc _ _ _ hgne.1 hqc
      have hqf5 : w5.frozen? ⟨g, i, none⟩ = false := by rw [h5.frozen _ _ hgne.1 (World.block_lt_of_cell? _ _ hqc)]; exact hqf
      have kqf5 : w5.frozen? ⟨w.heap.size + 1, 0, none⟩ = false := by rw [h5.frozen (w.heap.size + 1) 0 (by omega) (World.block_lt_of_cell? _ _ kq)]; exact kqf
      obtain ⟨q, hqq⟩ : ∃ q, q = dq ((R'.drop i).take ((nd B).length + 1)) D := ⟨_, rfl⟩
      rw [← hqq] at hRwv ⊢
      have HQQ := Lib.hid hqq
      have HRWV := Lib.hid hRwv
      have HRWL := Lib.hid hRwl
      have HRWA := Lib.hid hRwa
      have HWIN := Lib.hid hwin5
      have H5 := Lib.hid h5
      clear hqq hRwv hRwl hRwa hwin5 h5 cc hS
      have hS : (fun W' : World => W'.cell? ⟨w.heap.size + 1, 0, none⟩ = some (.slice (some ⟨g, 0, none⟩) n n) ∧ W'.cell? ⟨p7, 0, none⟩ = some (.slice (some ⟨r, 0, none⟩) ((nd A).length + 1) ((nd A).length + 1)) ∧ W'.cell? ⟨w.heap.size, 0, none⟩ = some (.slice (some ⟨bb, ob, none⟩) (nd B).length bcap) ∧ W'.cell? ⟨p8, 0, none⟩ = some (.slice (some ⟨d, 0, none⟩) (nd B).length (nd B).length)) w5 := ⟨kq5, k75, kb5, k85⟩
      refine hK _ _ hS ?_
      clear hK K
      refine take_at 12 (some 65) (v := ?v12) rfl rfl (by kernel_rfl) (by kernel_rfl) (by kernel_rfl) (by rfl) ?y12 hS ?t12
      case y12 =>
        intro w' hSw
        (try dsimp only at hSw)
        obtain ⟨s1, s2, s3, s4⟩ := hSw
        go_simp
        (try with_reducible rfl)
      simp only [Act.put, List.setIfInBounds_toArray, List.set_cons_zero, List.set_cons_succ]
      refine next_at 13 rfl (by kernel_rfl) (by rfl) (fun K hK => ?_)
      go_simp
      have h6 : ∀ c o v, c ≠ g → w5.cell? ⟨c, o, none⟩ = some v → (w5.setCell ⟨g, i, none⟩ (.int .i64 (q : Nat))).cell? ⟨c, o, none⟩ = some v := fun c o v hc hv => by rw [World.cell?_setCell_other _ _ _ _ (by intro e; cases e; exact hc rfl)]; exact hv
      have kq6 := h6 _ _ _ (by omega) kq5
      have k76 := h6 _ _ _ (Ne.symm hgne.2.2.1) k75
      have kb6 := h6 _ _ _ (by omega) kb5
      have k86 := h6 _ _ _ (Ne.symm hgne.2.2.2) k85
      refine hK _ _ ⟨kq6, k76, kb6, k86⟩ ?_
      clear hK K
      refine wpAnyH_done (by kernel_rfl) ?_ _
      have hQL2 : Lim (Q.set i q) := lim_set hQL i (by rw [HQQ.out]; unfold dq; omega)
      have hkw : KeepsOthers W w5 := keeps_ex H5.out (HR'a.out 0 (by rw [HR'l.out]; omega)).1
      have hQ6 : Arr (w5.setCell ⟨g, i, none⟩ (.int .i64 (q : Nat))) g 0 (Q.set i q) := by
        have := (HQa.out.ex H5.out hgne.1).set (i := i) (by rw [HQl.out]; exact hi) q
        rwa [Nat.zero_add] at this
      have hR6 : Arr (w5.setCell ⟨g, i, none⟩ (.int .i64 (q : Nat))) r 0 (R'.take i ++ (Rw ++ R'.drop (i + ((nd B).length + 1)))) := by
        have h1 := (HR'a.out.drew).win (i := i) (m := Rw) (w' := w5) (by rw [Nat.zero_add, HRWL.out]; exact HWIN.out) (by rw [Nat.zero_add]; exact HRWA.out) (by rw [HRWL.out, HR'l.out]; have := HN.out; omega)
        rw [HRWL.out] at h1
        exact h1.other _ (Ne.symm hgne.1)
      have hD6 : Arr (w5.setCell ⟨g, i, none⟩ (.int .i64 (q : Nat))) d 0 D := (HDa'.out.ex H5.out hdr).other _ (Ne.symm hgne.2.1)
      have hgw : w.heap.size ≤ g := by omega
      have hG6 : Gr w (w5.setCell ⟨g, i, none⟩ (.int .i64 (q : Nat))) := (Ex.gr hGW (by omega) H5.out).setCell (p := ⟨g, i, none⟩) hgw _
      have hwl : i + ((nd B).length + 1) ≤ R'.length := by rw [HR'l.out]; have := HN.out; omega
      refine ⟨(hkw.trans (KeepsOthers.setCell _ _ _)).from _, ⟨fun e => h6 (g + 1) 0 _ (Nat.succ_ne_self g) ?_, fun _ j hj => ⟨_, (hQ6 j (by rw [List.length_set, HQl.out]; exact hj)).1, trivial⟩⟩, ⟨R'.take i ++ (Rw ++ R'.drop (i + ((nd B).length + 1))), Q.set i q, by rw [win_len HRWL.out hwl]; exact HR'l.out, win_lim hR'L hRwL, by rw [List.length_set]; exact HQl.out, hQL2, hR6, hQ6, hD6, kb6, kq6, by rw [World.frozen?_setCell]; exact kqf5, k76, k86, fun m hm hmx => ?_⟩, hG6⟩
      · rw [H5.out.cell (g + 1) 0 (by omega) (World.block_lt_of_cell? _ _ e)]; exact e
      · rw [ixs_snoc] at hmx
        obtain ⟨hml, hpre, him⟩ := dn_last hm hmx
        have him : i = m := him
        subst him
        obtain ⟨h1, h2⟩ := HI.out (i + 1) (by omega) hpre
        exact dv_round h1 h2 hR'L hDL (by rw [HDl.out]; omega) (by rw [HQl.out]; exact hi) HDl.out.symm HQQ.out HRWV.out HRWL.out
    case done =>
      rintro E ys W hE hys ⟨⟨R', Q, hR'l, hR'L, hQl, hQL, hR'a, hQa, hDa', kb, kq, kqf, k7, k8, hinv⟩, hGW⟩ hK
      obtain ⟨h1, h2⟩ := hinv 0 (by omega) hys
      rw [List.drop_zero] at h1 h2
      rw [HDv.out] at h1 h2
      obtain ⟨hq, hr2, -⟩ := div_end (A := A) (Bv := B) (f := f) (r := nv R') (q := nv Q) (by rw [h1, Nat.pow_zero, Nat.one_mul, Nat.mul_comm f B]) (by rw [Nat.mul_comm B f]; exact h2) HF2.out
      have hsh := shrink_any R' f r ((nd A).length + 1) W hR'a hR'L (by omega) (by omega) HF2.out (by omega)
      rw [hR'l] at hsh
      have HSH := Lib.hid hsh
      have HQ := Lib.hid hq
      have HR2 := Lib.hid hr2
      have HQa := Lib.hid hQa
      have HQl := Lib.hid hQl
      have HR'l := Lib.hid hR'l
      have HR'a := Lib.hid hR'a
      clear hinv h1 h2 hq hr2 hsh hQa hQl hR'l hR'a hDa'
      gi_wp2_with fail
      refine ⟨trivial, ?_⟩
      refine (callsIn_wide.2 HSH.out).mono ?_
      rintro e w5 ⟨R2, rfl, hR2l, hR2L, hR2v, hR2a, h5⟩
      rw [HR2.out] at hR2v
      rw [HR'l.out] at hR2l
      have hgne : g ≠ r ∧ g ≠ p7 ∧ g ≠ w.heap.size + 1 := by omega
      have h7r : p7 ≠ r := Ne.symm HM.out.r7
      have k75 : w5.cell? ⟨p7, 0, none⟩ = some (.slice (some ⟨r, 0, none⟩) ((nd A).length + 1) ((nd A).length + 1)) := by rw [h5.cell _ _ h7r (World.block_lt_of_cell? _ _ k7)]; exact k7
      have kq5 : w5.cell? ⟨w.heap.size + 1, 0, none⟩ = some (.slice (some ⟨g, 0, none⟩) n n) := by rw [h5.cell (w.heap.size + 1) 0 (by omega) (World.block_lt_of_cell? _ _ kq)]; exact kq
      have kqf5 : w5.frozen? ⟨w.heap.size + 1, 0, none⟩ = false := by rw [h5.frozen (w.heap.size + 1) 0 (by omega) (World.block_lt_of_cell? _ _ kq)]; exact kqf
      have hQ5 := HQa.out.ex h5 hgne.1
      have hkw : KeepsOthers W w5 := keeps_ex h5 (HR'a.out 0 (by rw [HR'l.out]; omega)).1
      have hK5 := hkw.same E _ hK rfl
      have hG5 : Gr w w5 := Ex.gr hGW (by omega) h5
      have hrdq : ∀ W', Gr w5 W' → Calls Tryz.prog 73 #[.slice (some ⟨g, 0, none⟩) n n] W' fun e w' => e = .returned (.slice (some ⟨g, 0, none⟩) (nd (A / B)).length n) ∧ W' = w' := fun W' hg' => by
        have h1 := (hQ5.gr hg').rd (p := fun _ => True) (cap := n) (by rw [HQl.out]; exact Nat.le_refl _) (by omega) trivial
        rw [HQl.out] at h1
        have h2 := trim_at W' h1 hQL
        rw [HQ.out] at h2
        exact h2
      have hrdr : ∀ W', Gr w5 W' → Calls Tryz.prog 73 #[.slice (some ⟨r, 0, none⟩) ((nd A).length + 1) ((nd A).length + 1)] W' fun e w' => e = .returned (.slice (some ⟨r, 0, none⟩) (nd (A % B)).length ((nd A).length + 1)) ∧ W' = w' := fun W' hg' => by
        have h1 := (hR2a.gr hg').rd (p := fun _ => True) (cap := (nd A).length + 1) (by rw [hR2l]; exact Nat.le_refl _) (by omega) trivial
        rw [hR2l] at h1
        have h2 := trim_at W' h1 hR2L
        rw [hR2v] at h2
        exact h2
      have HTQ := Lib.hid hrdq
      have HTR := Lib.hid hrdr
      have HQ5 := Lib.hid hQ5
      have HR5 := Lib.hid hR2a
      have HK5 := Lib.hid hK5
      have HR2v := Lib.hid hR2v
      have HR2l := Lib.hid hR2l
      clear hrdq hrdr hQ5 hR2a hK5 hK hkw h5 kb kq kqf k7 k8 hR2v hR2l
      obtain ⟨RR, hRR⟩ : ∃ RR : Value, RR = .int .i64 (nv R' % f : Nat) := ⟨_, rfl⟩
      rw [← hRR]
      clear hRR
      gi_wp2_with fail
      have hS : (fun W' : World => W'.cell? ⟨p7, 0, none⟩ = some (.slice (some ⟨r, 0, none⟩) ((nd A).length + 1) ((nd A).length + 1))) w5.drew := k75
      refine region_wide (fun W' : World => W'.cell? ⟨p7, 0, none⟩ = some (.slice (some ⟨r, 0, none⟩) ((nd A).length + 1) ((nd A).length + 1))) _ (by kernel_rfl) ?_
      refine take_at 2 (some 71) (v := ?v20) rfl rfl (by kernel_rfl) (by kernel_rfl) (by kernel_rfl) (by rfl) ?y20 hS ?t20
      case y20 =>
        intro w' hSw
        (try dsimp only at hSw)
        go_simp
        (try with_reducible rfl)
      simp only [Act.put, List.setIfInBounds_toArray, List.set_cons_zero, List.set_cons_succ]
      refine next_at 0 rfl (by kernel_rfl) (by rfl) (fun K hK => ?_)
      go_simp
      refine hK _ _ hS ?_
      clear hK K
      refine next_at 1 rfl (by kernel_rfl) (by rfl) (fun K hK => ?_)
      go_simp
      refine (HTQ.out _ (Gr.drew (Gr.refl _))).mono ?_
      rintro e w' ⟨rfl, rfl⟩
      refine hK _ _ hS ?_
      clear hK K
      refine next_at 3 rfl (by kernel_rfl) (by rfl) (fun K hK => ?_)
      go_simp
      refine (HTR.out _ (Gr.drew (Gr.refl _))).mono ?_
      rintro e w' ⟨rfl, rfl⟩
      refine hK _ _ hS ?_
      clear hK K
      refine next_at 4 rfl (by kernel_rfl) (by rfl) (fun K hK => ?_)
      go_simp
      have hS : (fun W' : World => W'.cell? ⟨p7, 0, none⟩ = some (.slice (some ⟨r, 0, none⟩) ((nd A).length + 1) ((nd A).length + 1))) ((w5.drew).setCell ⟨w.heap.size + 1, 0, none⟩ (.slice (some ⟨g, 0, none⟩) (nd (A / B)).length n)) := by
        show World.cell? _ _ = _
        rw [World.cell?_setCell_other _ _ _ _ (by intro e; cases e; omega)]; exact k75
      refine hK _ _ hS ?_
      clear hK K
      refine take_at 5 (some 5) (v := ?v25) rfl rfl (by kernel_rfl) (by kernel_rfl) (by kernel_rfl) (by rfl) ?y25 hS ?t25
      case y25 =>
        intro w' hSw
        (try dsimp only at hSw)
        go_simp
        (try with_reducible rfl)
      simp only [Act.put, List.setIfInBounds_toArray, List.set_cons_zero, List.set_cons_succ]
      rename_i K0 hK0 hS0
      refine wpAnyH_done (by kernel_rfl) ?_ _
      refine hK0 _ _ ?_
      clear hK0 K0 hS0 hS
      gi_wp2
      have hK' : ((w5.setCell ⟨w.heap.size + 1, 0, none⟩ (.slice (some ⟨g, 0, none⟩) (nd (A / B)).length n)).drew).heap[E]? = some (.deferred (some [])) := ((KeepsOthers.setCell _ _ _).trans (KeepsOthers.drew _)).same E _ HK5.out rfl
      refine ⟨by simp, .inl ⟨_, _, rfl, run_takeDeferred hK', ?_⟩⟩
      have hc0 : ((w5.setCell ⟨w.heap.size + 1, 0, none⟩ (.slice (some ⟨g, 0, none⟩) (nd (A / B)).length n)).drew).cell? ⟨w.heap.size + 1, 0, none⟩ = some (.slice (some ⟨g, 0, none⟩) (nd (A / B)).length n) := by
        rw [World.cell?_drew]; exact World.cell?_setCell_same' _ _ _ (by rw [kq5]; rfl)
      have hgb := grownBy_putObj' ((w5.setCell ⟨w.heap.size + 1, 0, none⟩ (.slice (some ⟨g, 0, none⟩) (nd (A / B)).length n)).drew) E (.deferred none)
      have hc5 := cell_kept hc0 hgb (fun r e => by cases e; exact ⟨_, hK', rfl⟩)
      have aQ : Arr ((w5.setCell ⟨w.heap.size + 1, 0, none⟩ (.slice (some ⟨g, 0, none⟩) (nd (A / B)).length n)).drew) g 0 Q := (HQ5.out.other _ hgne.2.2).drew
      have aR : Arr ((w5.setCell ⟨w.heap.size + 1, 0, none⟩ (.slice (some ⟨g, 0, none⟩) (nd (A / B)).length n)).drew) r 0 R2 := (HR5.out.other _ (by omega)).drew
      have aQ' := arr_kept aQ hgb (fun r e => by cases e; exact ⟨_, hK', rfl⟩)
      have aR' := arr_kept aR hgb (fun r e => by cases e; exact ⟨_, hK', rfl⟩)
      have hG6 : Gr w ((w5.setCell ⟨w.heap.size + 1, 0, none⟩ (.slice (some ⟨g, 0, none⟩) (nd (A / B)).length n)).drew) := (hG5.setCell (p := ⟨w.heap.size + 1, 0, none⟩) (by simp) _).drew
      have hw4 : w.heap.size ≤ E := by omega
      refine ⟨.tuple #[.slice (some ⟨g, 0, none⟩) (nd (A / B)).length n, .slice (some ⟨r, 0, none⟩) (nd (A % B)).length ((nd A).length + 1)], by simp [results, Tryz.f95, go_sem, hc5], ?_⟩
      exact ⟨_, _, rfl, aQ'.num hQL (by rw [HQl.out]; exact Nat.le_refl _) (by omega) HQ.out, aR'.num hR2L (by rw [HR2l.out]; exact Nat.le_refl _) (by omega) HR2v.out, hG6.trans (belowK_b (w := w) (Nat.le_refl _) _ E _ _ hw4 hK' rfl rfl)⟩
    case stop =>
      rintro D c pre W _ _ h _
      exact h.elim
end Go.Proofs.YtjpjnbgfodlkcaaGreatDoor
