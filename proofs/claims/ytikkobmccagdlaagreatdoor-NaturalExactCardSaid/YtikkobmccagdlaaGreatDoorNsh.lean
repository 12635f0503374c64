/- shrink. -/
import Derived.Test.YtikkobmccagdlaaGreatDoorNcmp
import Derived.Test.YtikkobmccagdlaaGreatDoorNadd
import Derived.Lib.Hide
namespace Go.Proofs.YtikkobmccagdlaaGreatDoor
open Go Go.RowKit Go.Shelf
set_option maxRecDepth 100000
set_option linter.unusedVariables false
attribute [local go_sem] Oper.semAt_some

theorem Ex.grown' {b : Nat} {u v w : World} {row : Option Nat} (h : Ex b u v) (g : v.grownBy w row) (hr : ∀ k, row = some k → u.heap.size ≤ k) : Ex b u w :=
  ⟨g.os.trans h.os, g.tape.trans h.tape, g.output.trans h.output, Nat.le_trans h.size g.size, fun j hj hs => (g.block j (Nat.lt_of_lt_of_le hs h.size) (fun hc => by have := hr j hc.symm; omega)).trans (h.block j hj hs)⟩
/-- a region that ends in one way -/
def QN (A : Act) (W : World) : Exit → Act → World → Prop
  | .normal, a, w => a = A ∧ w = W
  | _, _, _ => False
theorem region_cut {F : Fence} {n : Nat} {P : Program} {c : Code} {Q : Exit → Act → World → Prop} {a : Act} {w : World} (A : Act) (W : World) (h : c.wpIn F n P (QN A W) a w) (hQ : Q .normal A W) : c.wpIn F n P Q a w :=
  wpIn_mono h (fun e a' w' h => by cases e <;> first | exact h.elim | (obtain ⟨rfl, rfl⟩ := h; exact hQ))
def okT (_ : Nat) (_ : Int) : Prop := True
/-- what the rounds of shrink keep: the limbs that are there, the remainder, and, as long as the indexes come in order, what they are -/
def ShI (L : List Nat) (d g h : Nat) (sv : Value) (w : World) (pre : List (Ix L.length okT)) (W : World) : Prop :=
  (∃ (Q : List Nat) (r : Nat), Q.length = L.length ∧ Lim Q ∧ r < d ∧ Arr W g 0 Q ∧ W.cell? ⟨h + 1 + 1, 0, none⟩ = some (.int .i64 r) ∧ W.frozen? ⟨h + 1 + 1, 0, none⟩ = false ∧ W.cell? ⟨h, 0, none⟩ = some sv ∧ W.cell? ⟨h + 1, 0, none⟩ = some (.int .i64 d) ∧
    (∀ m, m ≤ L.length → ixs pre = dn L.length m → Q.take m = L.take m ∧ nv (L.drop m) = nv (Q.drop m) * d + r)) ∧ Ex g w W
theorem arr_kept {W W' : World} {row : Option Nat} {g o : Nat} {l : List Nat} (h : Arr W g o l) (hg : W.grownBy W' row) (hr : ∀ r, row = some r → ∃ o : Obj, W.heap[r]? = some o ∧ o.isCells = false) : Arr W' g o l :=
  fun i hi => ⟨cell_kept (h i hi).1 hg hr, (frozen_kept (h i hi).1 hg hr).trans (h i hi).2⟩
theorem ownFrom_ex {β : Type} {g n : Nat} {w : World} (hn : w.heap.size ≤ n) : OwnFrom n (fun (_ : β) W => Ex g w W) := fun _ _ _ _ hs hg hr => Ex.grown' hs hg (fun k e => Nat.le_trans hn (hr k e).1)
theorem shI_own (L : List Nat) (d g h : Nat) (sv : Value) (w : World) {n : Nat} (hn : w.heap.size ≤ n) : OwnFrom n (ShI L d g h sv w) :=
  OwnFrom.and (Go.Own.from (fun _ _ _ _ hs hg hr => by
    obtain ⟨Q, r, h1, h2, h3, h4, h5, h6, h7, h8, h9⟩ := hs
    exact ⟨Q, r, h1, h2, h3, arr_kept h4 hg hr, cell_kept h5 hg hr, (frozen_kept h5 hg hr).trans h6, cell_kept h7 hg hr, cell_kept h8 hg hr, h9⟩) _) (ownFrom_ex hn)
/-- what shrink leaves: the quotient in the same block; nothing below the base has changed but that block -/
def ShPost (g : Nat) (L : List Nat) (d : Nat) (w : World) (e : Ending) (w' : World) : Prop :=
  ∃ Q : List Nat, e = .returned (.int .i64 (nv L % d : Nat)) ∧ Q.length = L.length ∧ Lim Q ∧ nv Q = nv L / d ∧ Arr w' g 0 Q ∧ Ex g w w'
set_option maxHeartbeats 2000000 in
theorem shrink_any (L : List Nat) (d g cap : Nat) (w : World) (hA : Arr w g 0 L) (hL : Lim L) (hl : L.length ≤ 1000000) (hl0 : 0 < L.length) (hd : 0 < d) (hd1 : d ≤ 1073741824) :
    Calls Tryz.prog 83 #[.slice (some ⟨g, 0, none⟩) L.length cap, .int .i64 d] w (ShPost g L d w) := by
  have HA := Lib.hid hA
  have HL := Lib.hid hL
  have hgw : g < w.heap.size := World.block_lt_of_cell? _ _ (hA 0 hl0).1
  clear hA hL
  refine (callsIn_wide (n := 4)).1 ?_
  refine callsIn_of_wp_marks Tryz.func83 rfl trivial ?_ rfl
  simp only [Tryz.ntmps83, List.size_toArray, List.length_cons, List.length_nil, Nat.reduceAdd, Nat.reduceSub, Array.replicate_succ, Array.replicate_zero, List.push_toArray, List.append_toArray, List.nil_append, List.cons_append]
  gi_wp2_with (refine ⟨trivial, ?_⟩; gi_at_call 80; refine (back_in Fence.wide (4 - 1) trivial rfl _ _ _ _).mono ?_; rintro e w' ⟨rfl, rfl⟩)
  have b0 := Boxed.new w 24 (.slice (some ⟨g, 0, none⟩) L.length cap)
  have b1 := Boxed.new (w.alloc (.cells #[.slice (some ⟨g, 0, none⟩) L.length cap] 24)) 3 (.int .i64 d)
  have b2 := Boxed.new ((w.alloc (.cells #[.slice (some ⟨g, 0, none⟩) L.length cap] 24)).alloc (.cells #[.int .i64 d] 3)) 3 (.int .i64 0)
  have b3 := Boxed.new (((w.alloc (.cells #[.slice (some ⟨g, 0, none⟩) L.length cap] 24)).alloc (.cells #[.int .i64 d] 3)).alloc (.cells #[.int .i64 0] 3)) 24 (.slice (some ⟨g, 0, none⟩) L.length cap)
  simp only [World.size_alloc] at b1 b2 b3
  have b0 := ((b0.alloc (.cells #[.int .i64 d] 3)).alloc (.cells #[.int .i64 0] 3)).alloc (.cells #[.slice (some ⟨g, 0, none⟩) L.length cap] 24)
  have b1 := (b1.alloc (.cells #[.int .i64 0] 3)).alloc (.cells #[.slice (some ⟨g, 0, none⟩) L.length cap] 24)
  have b2 := b2.alloc (.cells #[.slice (some ⟨g, 0, none⟩) L.length cap] 24)
  have hG0 : Gr w ((((w.alloc (.cells #[.slice (some ⟨g, 0, none⟩) L.length cap] 24)).alloc (.cells #[.int .i64 d] 3)).alloc (.cells #[.int .i64 0] 3)).alloc (.cells #[.slice (some ⟨g, 0, none⟩) L.length cap] 24)) := (Gr.refl _).alloc _ |>.alloc _ |>.alloc _ |>.alloc _
  have hsz : ((((w.alloc (.cells #[.slice (some ⟨g, 0, none⟩) L.length cap] 24)).alloc (.cells #[.int .i64 d] 3)).alloc (.cells #[.int .i64 0] 3)).alloc (.cells #[.slice (some ⟨g, 0, none⟩) L.length cap] 24)).heap.size = w.heap.size + 1 + 1 + 1 + 1 := by simp
  generalize ((((w.alloc (.cells #[.slice (some ⟨g, 0, none⟩) L.length cap] 24)).alloc (.cells #[.int .i64 d] 3)).alloc (.cells #[.int .i64 0] 3)).alloc (.cells #[.slice (some ⟨g, 0, none⟩) L.length cap] 24)) = W0 at *
  have hA0 := HA.out.gr hG0
  refine wpIn_rangeFunc_ownG rfl (by decide) (gf := 112) (lb := #[.pointer (some ⟨w.heap.size + 1 + 1 + 1, 0, none⟩)]) rfl trivial (enters_of Tryz.func112 (by kernel_rfl) rfl)
    (back_stops Fence.wide (4 - 1) trivial rfl (by decide) (w.heap.size + 1 + 1 + 1) g 0 L.length cap (some ⟨g, 0, none⟩) okT hl W0 (by omega) b3.cell (.inr ⟨rfl, by omega, fun j hj => ⟨_, (hA0 j hj).1, trivial⟩⟩)) bkp_t (fun W l o o' _ h hc _ => bkp_b W l o o' h hc) (Below.refl _ _) (fun _ => rfl)
    (ShI L d g w.heap.size (.slice (some ⟨g, 0, none⟩) L.length cap) w) (fun _ _ _ => False) (shI_own L d g _ _ w (by omega)) (fun _ _ _ _ _ hs _ _ => hs)
    ⟨⟨L, 0, rfl, HL.out, hd, hA0, b2.cell, b2.frozen, b0.cell, b1.cell, fun m hm h => ⟨rfl, by
      have : m = L.length := dn_inj hm (Nat.le_refl _) (by rw [← h, dn_end]; rfl)
      subst this; simp [nv]⟩⟩, Ex.ofGr hG0⟩
    (fun x => { tmps := #[.slice (some ⟨g, 0, none⟩) L.length cap, .int .i64 d, .pointer (some ⟨w.heap.size, 0, none⟩), .pointer (some ⟨w.heap.size + 1, 0, none⟩), .int .i64 0, .pointer (some ⟨w.heap.size + 1 + 1, 0, none⟩), .int .i64 (x.1.1 : Nat), .slice (some ⟨g, 0, none⟩) L.length cap,
      .func (.func 112) #[] #[.pointer (some ⟨w.heap.size + 1 + 1 + 1, 0, none⟩)], .int .i64 (x.1.1 : Nat), .int .i64 x.1.2, undef, undef, undef, undef, undef, undef, undef, undef, undef, undef, undef, undef, undef, undef, undef, undef, undef], defers := [] }) ?assign ?body ?done ?stop
  case assign =>
    intro l x W K hK
    gi_wp2
    exact hK
  case body =>
    rintro l pre x W ⟨⟨Q, r, hQl, hQL, hr, hQa, hcr, hfr, hcs, hcd, hinv⟩, hex⟩ -
    obtain ⟨⟨i, z⟩, hi, hz⟩ := x
    have hci : W.cell? ⟨g, i, none⟩ = some (.int .i64 (Q.getD i 0 : Nat)) := by have := (hQa i (by rw [hQl]; exact hi)).1; rwa [Nat.zero_add] at this
    have hfi : W.frozen? ⟨g, i, none⟩ = false := by have := (hQa i (by rw [hQl]; exact hi)).2; rwa [Nat.zero_add] at this
    have HI := Lib.hid hinv
    have HQ := Lib.hid hQa
    have HQl := Lib.hid hQl
    have hq := lim_getD hQL i
    generalize hqq : Q.getD i 0 = q at hci hq
    have HQQ := Lib.hid hqq
    clear hinv hQa hQl hqq
    dsimp only
    dsimp only at hi
    have i1 : (i : Int) < (L.length : Int) := by omega
    have i0 : (0 : Int) ≤ (i : Int) := by omega
    have hs0 : r * 1073741824 ≤ 1073741823 * 1073741824 := Nat.mul_le_mul_right _ (by omega)
    obtain ⟨s, hs⟩ : ∃ s : Nat, s = r * 1073741824 := ⟨_, rfl⟩
    obtain ⟨t, ht⟩ : ∃ t : Nat, t = s + q := ⟨_, rfl⟩
    have m1 : IntKind.i64.wrap ((r : Int) * 1073741824) = (s : Int) := by rw [show (r : Int) * 1073741824 = (s : Int) by omega]; exact IntWalk.i64_in _ (by omega)
    have m2 : IntKind.i64.wrap ((s : Int) + (q : Int)) = (t : Int) := by rw [show (s : Int) + (q : Int) = (t : Int) by omega]; exact IntWalk.i64_in _ (by omega)
    have HS := Lib.hid hs
    have HT := Lib.hid ht
    clear hs ht hs0
    have hmx : Tryz.prog.follows .mixedOrders = true := by kernel_rfl
    gi_wp2
    refine region_cut { tmps := #[.slice (some ⟨g, 0, none⟩) L.length cap, .int .i64 d, .pointer (some ⟨w.heap.size, 0, none⟩), .pointer (some ⟨w.heap.size + 1, 0, none⟩), .int .i64 0, .pointer (some ⟨w.heap.size + 1 + 1, 0, none⟩), .int .i64 (i : Nat), .slice (some ⟨g, 0, none⟩) L.length cap,
      .func (.func 112) #[] #[.pointer (some ⟨w.heap.size + 1 + 1 + 1, 0, none⟩)], .int .i64 (i : Nat), .int .i64 z, .int .i64 (r : Nat), .int .i64 (s : Nat), .slice (some ⟨g, 0, none⟩) L.length cap, .int .i64 (i : Nat), .pointer (some ⟨g, i, none⟩), .int .i64 (q : Nat), .int .i64 (t : Nat), undef, undef, undef, undef, undef, undef, undef, undef, undef, undef], defers := [] } (W.setCell ⟨w.heap.size + 1 + 1, 0, none⟩ (.int .i64 (t : Nat))).drew ?r4 ?q4
    case r4 =>
      gi_region_with_o (fail)
      all_goals exact ⟨rfl, rfl⟩
    case q4 =>
      have g2 : (⟨w.heap.size + 1 + 1, 0, none⟩ : Addr) ≠ ⟨w.heap.size, 0, none⟩ := by simp
      have hne : ∀ c o, c ≠ w.heap.size + 1 + 1 → (W.setCell ⟨w.heap.size + 1 + 1, 0, none⟩ (.int .i64 (t : Nat))).drew.cell? ⟨c, o, none⟩ = W.cell? ⟨c, o, none⟩ := fun c o hc => by
        rw [World.cell?_drew, World.cell?_setCell_other _ _ _ _ (by intro e; cases e; exact hc rfl)]
      have k0 := hne w.heap.size 0 (by omega)
      have k1 := hne (w.heap.size + 1) 0 (by omega)
      have k2 : (W.setCell ⟨w.heap.size + 1 + 1, 0, none⟩ (.int .i64 (t : Nat))).drew.cell? ⟨w.heap.size + 1 + 1, 0, none⟩ = some (.int .i64 (t : Nat)) := by
        rw [World.cell?_drew]; exact World.cell?_setCell_same' _ _ _ (by rw [hcr]; rfl)
      have k3 := hne g i (by omega)
      have k6 := hne (w.heap.size + 1 + 1 + 1) 0 (by omega)
      rw [hcs] at k0
      rw [hcd] at k1
      rw [hci] at k3
      have k4 : (W.setCell ⟨w.heap.size + 1 + 1, 0, none⟩ (.int .i64 (t : Nat))).drew.frozen? ⟨g, i, none⟩ = false := by rw [World.frozen?_drew, World.frozen?_setCell]; exact hfi
      have k5 : (W.setCell ⟨w.heap.size + 1 + 1, 0, none⟩ (.int .i64 (t : Nat))).drew.frozen? ⟨w.heap.size + 1 + 1, 0, none⟩ = false := by rw [World.frozen?_drew, World.frozen?_setCell]; exact hfr
      have kA : Arr (W.setCell ⟨w.heap.size + 1 + 1, 0, none⟩ (.int .i64 (t : Nat))).drew g 0 Q := (HQ.out.ex (Ex.set (Ex.refl _ _) _ _) (by omega)).gr (Gr.drew (Gr.refl _))
      have kE : Ex g w (W.setCell ⟨w.heap.size + 1 + 1, 0, none⟩ (.int .i64 (t : Nat))).drew := (hex.setNew (by simp; omega) _).drew
      have kK : KeepsFrom W0.heap.size W (W.setCell ⟨w.heap.size + 1 + 1, 0, none⟩ (.int .i64 (t : Nat))).drew := ((KeepsOthers.setCell _ _ _).trans (KeepsOthers.drew _)).from _
      have HKA := Lib.hid kA
      generalize (W.setCell ⟨w.heap.size + 1 + 1, 0, none⟩ (.int .i64 (t : Nat))).drew = W1 at *
      clear hne g2 kA
      obtain ⟨p, hp⟩ : ∃ p : Nat, p = t / d := ⟨_, rfl⟩
      obtain ⟨r', hr'⟩ : ∃ r' : Nat, r' = t % d := ⟨_, rfl⟩
      have n1 : (t : Int).tdiv (d : Int) = (p : Int) := by rw [Int.tdiv_eq_ediv_of_nonneg (by omega), hp]; simp
      have n2 : wrap64 (p : Int) = (p : Int) := by
        refine IntWalk.wrap64_in _ ?_
        have := Nat.div_le_self t d
        have := HT.out; have := HS.out; have : r * 1073741824 ≤ 1073741823 * 1073741824 := Nat.mul_le_mul_right _ (by omega)
        omega
      have n3 : ((d : Int) == 0) = false := by rw [beq_eq_false_iff_ne]; omega
      have n4 : (t : Int) % (d : Int) = (r' : Int) := by rw [hr']; simp
      have n5 : (t : Int).tmod (d : Int) = (r' : Int) := by rw [Int.tmod_eq_emod_of_nonneg (by omega)]; exact n4
      have HP := Lib.hid hp
      have HR' := Lib.hid hr'
      clear hp hr'
      gi_wp2
      refine region_cut { tmps := #[.slice (some ⟨g, 0, none⟩) L.length cap, .int .i64 d, .pointer (some ⟨w.heap.size, 0, none⟩), .pointer (some ⟨w.heap.size + 1, 0, none⟩), .int .i64 0, .pointer (some ⟨w.heap.size + 1 + 1, 0, none⟩), .int .i64 (i : Nat), .slice (some ⟨g, 0, none⟩) L.length cap,
      .func (.func 112) #[] #[.pointer (some ⟨w.heap.size + 1 + 1 + 1, 0, none⟩)], .int .i64 (i : Nat), .int .i64 z, .int .i64 (r : Nat), .int .i64 (s : Nat), .slice (some ⟨g, 0, none⟩) L.length cap, .int .i64 (i : Nat), .pointer (some ⟨g, i, none⟩), .int .i64 (q : Nat), .int .i64 (t : Nat), .slice (some ⟨g, 0, none⟩) L.length cap, .int .i64 (i : Nat), .int .i64 (t : Nat), .int .i64 (d : Nat), .int .i64 (p : Nat), .pointer (some ⟨g, i, none⟩), undef, undef, undef, undef], defers := [] } (W1.setCell ⟨g, i, none⟩ (.int .i64 (p : Nat))).drew ?r5 ?q5
      case r5 =>
        gi_region_with_o (fail)
        all_goals exact ⟨rfl, rfl⟩
      case q5 =>
        have hA2 := HKA.out.set (i := i) (by rw [HQl.out]; exact hi) p
        rw [Nat.zero_add] at hA2
        have hg1 : ∀ c o, c ≠ g → (W1.setCell ⟨g, i, none⟩ (.int .i64 (p : Nat))).drew.cell? ⟨c, o, none⟩ = W1.cell? ⟨c, o, none⟩ := fun c o hc => by
          rw [World.cell?_drew, World.cell?_setCell_other _ _ _ _ (by intro e; cases e; exact hc rfl)]
        have j0 := hg1 w.heap.size 0 (by omega)
        have j1 := hg1 (w.heap.size + 1) 0 (by omega)
        have j2 := hg1 (w.heap.size + 1 + 1) 0 (by omega)
        have j3 : (W1.setCell ⟨g, i, none⟩ (.int .i64 (p : Nat))).drew.frozen? ⟨w.heap.size + 1 + 1, 0, none⟩ = false := by rw [World.frozen?_drew, World.frozen?_setCell]; exact k5
        have j6 := hg1 (w.heap.size + 1 + 1 + 1) 0 (by omega)
        rw [k6] at j6
        rw [k0] at j0
        rw [k1] at j1
        rw [k2] at j2
        have jA : Arr (W1.setCell ⟨g, i, none⟩ (.int .i64 (p : Nat))).drew g 0 (Q.set i p) := hA2.gr (Gr.drew (Gr.refl _))
        have jE : Ex g w (W1.setCell ⟨g, i, none⟩ (.int .i64 (p : Nat))).drew := (kE.set _ _).drew
        have jK : KeepsFrom W0.heap.size W (W1.setCell ⟨g, i, none⟩ (.int .i64 (p : Nat))).drew := kK.trans (((KeepsOthers.setCell _ _ _).trans (KeepsOthers.drew _)).from _)
        have HJA := Lib.hid jA
        generalize (W1.setCell ⟨g, i, none⟩ (.int .i64 (p : Nat))).drew = W2 at *
        clear hg1 jA hA2 k0 k1 k2 k3 k4 k5 k6
        gi_wp2
        have hlt := shr_lt hr hq
        have et : t = r * 1073741824 + q := by rw [HT.out, HS.out]
        refine ⟨jK.trans ((KeepsOthers.setCell _ _ _).from _), ⟨fun e => ?_, fun _ j hj => ?_⟩, ⟨Q.set i p, r', by rw [List.length_set]; exact HQl.out, lim_set hQL _ (by rw [HP.out, et]; exact hlt.1), by rw [HR'.out, et]; exact hlt.2, HJA.out.ex (Ex.set (Ex.refl _ _) _ _) (by omega), World.cell?_setCell_same' _ _ _ (by rw [j2]; rfl), by rw [World.frozen?_setCell]; exact j3, ?_, ?_, ?_⟩, jE.setNew (by simp; omega) _⟩
        · rw [World.cell?_setCell_other _ _ _ _ (by simp), j6]; exact e
        · rw [World.cell?_setCell_other _ _ _ _ (by intro hc; have := congrArg Addr.block hc; simp at this; omega)]
          exact ⟨_, (HJA.out j (by rw [List.length_set, HQl.out]; exact hj)).1, trivial⟩
        · rw [World.cell?_setCell_other _ _ _ _ (by simp)]; exact j0
        · rw [World.cell?_setCell_other _ _ _ _ (by simp)]; exact j1
        · intro m hm hmx
          rw [ixs_snoc] at hmx
          obtain ⟨hml, hpre, him⟩ := dn_last hm hmx
          have him : i = m := him
          subst him
          obtain ⟨e1, e2⟩ := HI.out (i + 1) (by omega) hpre
          have e3 := getD_take e1 (Nat.lt_succ_self i)
          have hst := shrink_step (L := L) (Q := Q) (i := i) (d := d) (r := r) hml (by rw [HQl.out]; exact hml) e2 hr HL.out e3
          rw [← e3, HQQ.out, ← et, ← HP.out, ← HR'.out] at hst
          refine ⟨?_, hst.1⟩
          rw [List.take_set_of_le (Nat.le_refl _)]
          have := congrArg (List.take i) e1
          rwa [List.take_take, List.take_take, Nat.min_eq_left (by omega)] at this
  case done =>
    rintro D ys W hD hys ⟨⟨Q, r, hQl, hQL, hr, hQa, hcr, hfr, hcs, hcd, hinv⟩, hex⟩ hK
    obtain ⟨-, hv⟩ := hinv 0 (by omega) hys
    rw [List.drop_zero, List.drop_zero] at hv
    have HV := Lib.hid hv
    have HQ := Lib.hid hQa
    clear hinv hv hQa
    gi_wp2
    refine ⟨by simp, .inl ⟨_, _, rfl, run_takeDeferred hK, ?_⟩⟩
    have hdiv : nv Q = nv L / d := by rw [HV.out, Nat.mul_comm, Nat.mul_add_div hd, Nat.div_eq_of_lt hr]; rfl
    have hmod : r = nv L % d := by rw [HV.out, Nat.mul_comm, Nat.mul_add_mod, Nat.mod_eq_of_lt hr]
    refine ⟨_, results_tmp rfl _ _ _, Q, by rw [← hmod]; rfl, hQl, hQL, hdiv, arr_kept HQ.out (grownBy_putObj' _ D (.deferred none)) (fun r e => by cases e; exact ⟨_, hK, rfl⟩), Ex.grown' hex (grownBy_putObj' _ D (.deferred none)) (fun k e => by cases e; omega)⟩
  case stop =>
    rintro D c pre W _ _ h _
    exact h.elim
end Go.Proofs.YtikkobmccagdlaaGreatDoor
