/- Fractions in memory; Valid. -/
import Derived.Test.YtikkobmccagdlaaGreatDoorNo
import Derived.Test.YtikkobmccagdlaaGreatDoorFm
import Derived.WalkKit
import Derived.WalkSpells
import Derived.WalkLawsBesides
import Derived.WalkSmall
import Derived.Handy
import Derived.BigQuiet
import Derived.Deep.QuietTactic
import Derived.Deep.RegionHeld3
import Derived.Deep.DeepFit
import Derived.Below
import Derived.Lib.Hide
import Derived.Lib.QuietBelow
namespace Go.Proofs.YtikkobmccagdlaaGreatDoor
open Go Go.RowKit Go.Sort
set_option maxRecDepth 100000
set_option linter.unusedVariables false
theorem num_slice {w : World} {v : Value} {N : Nat} (h : Num w v N) : ∃ (a : Option Addr) (cap : Nat), v = .slice a (nd N).length cap := by
  obtain ⟨a, cap, e, -⟩ := h
  exact ⟨a, cap, e⟩
/-- a valid fraction with this value -/
def Fra (w : World) (v : Value) (r : Rat) : Prop :=
  ∃ (x : Bool) (vn vd : Value) (N D : Nat), v = .agg #[.bool x, vn, vd] ∧ Num w vn N ∧ Num w vd D ∧ 0 < D ∧ (x = true → 0 < N) ∧ (nd N).length ≤ 64 ∧ (nd D).length ≤ 64 ∧ r = rat x N D
theorem Fra.gr {w w' : World} {v : Value} {r : Rat} (h : Fra w v r) (g : Gr w w') : Fra w' v r := by
  obtain ⟨x, vn, vd, N, D, h1, h2, h3, h4⟩ := h
  exact ⟨x, vn, vd, N, D, h1, h2.gr g, h3.gr g, h4⟩
/-- the reduced fraction with this value -/
def Red (w : World) (v : Value) (r : Rat) : Prop :=
  ∃ vn vd : Value, v = .agg #[.bool (decide (r.num < 0)), vn, vd] ∧ Num w vn r.num.natAbs ∧ Num w vd r.den
theorem Red.gr {w w' : World} {v : Value} {r : Rat} (h : Red w v r) (g : Gr w w') : Red w' v r := by
  obtain ⟨vn, vd, h1, h2, h3⟩ := h
  exact ⟨vn, vd, h1, h2.gr g, h3.gr g⟩
theorem rat_self (r : Rat) : rat (decide (r.num < 0)) r.num.natAbs r.den = r := by
  unfold rat sgn
  have : (if decide (r.num < 0) = true then -(r.num.natAbs : Int) else r.num.natAbs) = r.num := by
    by_cases h : r.num < 0
    · rw [if_pos (by simpa using h)]; omega
    · rw [if_neg (by simpa using h)]; omega
  rw [this, Rat.mkRat_self]
theorem Red.fra {w : World} {v : Value} {r : Rat} (h : Red w v r) (hb : Bd 64 r) : Fra w v r := by
  obtain ⟨vn, vd, h1, h2, h3⟩ := h
  refine ⟨_, vn, vd, _, _, h1, h2, h3, r.den_pos, fun hx => ?_, hb.1, hb.2, (rat_self r).symm⟩
  have := of_decide_eq_true hx
  omega
/-- no fraction, beside an error -/
def fzero : Value := .agg #[.bool false, .slice none 0 0, .slice none 0 0]
/-- the reduced fraction, or ErrLimit -/
def FRes (w : World) (r : Rat) (e : Ending) (w' : World) : Prop :=
  ∃ (v : Value) (er : Int), e = .returned (.tuple #[v, .int .i64 er]) ∧ ((Bd 64 r ∧ er = 0 ∧ Red w' v r) ∨ (¬ Bd 64 r ∧ er = 5 ∧ v = fzero)) ∧ Gr w w'
/-- a block of three cells that can be written -/
structure C3 (w : World) (r : Nat) (x y z : Value) : Prop where
  c0 : w.cell? ⟨r, 0, none⟩ = some x
  c1 : w.cell? ⟨r, 1, none⟩ = some y
  c2 : w.cell? ⟨r, 2, none⟩ = some z
  f0 : w.frozen? ⟨r, 0, none⟩ = false
  f1 : w.frozen? ⟨r, 1, none⟩ = false
  f2 : w.frozen? ⟨r, 2, none⟩ = false
  lt : r < w.heap.size
  no : ∀ o, 3 ≤ o → w.cell? ⟨r, o, none⟩ = none
theorem C3.same {w w' : World} {r : Nat} {x y z : Value} (h : C3 w r x y z) (c : ∀ o, w'.cell? ⟨r, o, none⟩ = w.cell? ⟨r, o, none⟩) (f : ∀ o, w'.frozen? ⟨r, o, none⟩ = w.frozen? ⟨r, o, none⟩) (hr : r < w'.heap.size) : C3 w' r x y z :=
  ⟨by rw [c]; exact h.c0, by rw [c]; exact h.c1, by rw [c]; exact h.c2, by rw [f]; exact h.f0, by rw [f]; exact h.f1, by rw [f]; exact h.f2, hr, fun o ho => by rw [c]; exact h.no o ho⟩
theorem C3.gr {w w' : World} {r : Nat} {x y z : Value} (h : C3 w r x y z) (g : Gr w w') : C3 w' r x y z :=
  h.same (fun o => (Gr.cells g).1 _ _ h.lt) (fun o => (Gr.cells g).2 _ _ h.lt) (Nat.lt_of_lt_of_le h.lt (Gr.size g))
theorem C3.new (w : World) (x y z : Value) (T : TypeId) (r : Nat) (hr : r = w.heap.size) : C3 (w.alloc (.cells #[x, y, z] T)) r x y z := by
  subst hr
  exact ⟨by simp, by simp, by simp, by simp, by simp, by simp, by simp, fun _ ho => by simp; omega⟩
theorem C3.other {w : World} {r s o : Nat} {x y z : Value} (h : C3 w r x y z) (v : Value) (hs : r ≠ s) : C3 (w.setCell ⟨s, o, none⟩ v) r x y z :=
  h.same (fun k => World.cell?_setCell_other _ _ _ _ (by intro e; cases e; exact hs rfl)) (fun k => by simp) (by simpa using h.lt)
theorem C3.set0 {w : World} {r : Nat} {x y z : Value} (h : C3 w r x y z) (v : Value) : C3 (w.setCell ⟨r, 0, none⟩ v) r v y z :=
  ⟨World.cell?_setCell_same' _ _ _ (by rw [h.c0]; rfl), by rw [World.cell?_setCell_other _ _ _ _ (by intro e; cases e)]; exact h.c1, by rw [World.cell?_setCell_other _ _ _ _ (by intro e; cases e)]; exact h.c2, by simpa using h.f0, by simpa using h.f1, by simpa using h.f2, by simpa using h.lt,
    fun o ho => by rw [World.cell?_setCell_other _ _ _ _ (by intro e; have := congrArg Addr.off e; simp at this; omega)]; exact h.no o ho⟩
theorem C3.set1 {w : World} {r : Nat} {x y z : Value} (h : C3 w r x y z) (v : Value) : C3 (w.setCell ⟨r, 1, none⟩ v) r x v z :=
  ⟨by rw [World.cell?_setCell_other _ _ _ _ (by intro e; cases e)]; exact h.c0, World.cell?_setCell_same' _ _ _ (by rw [h.c1]; rfl), by rw [World.cell?_setCell_other _ _ _ _ (by intro e; cases e)]; exact h.c2, by simpa using h.f0, by simpa using h.f1, by simpa using h.f2, by simpa using h.lt,
    fun o ho => by rw [World.cell?_setCell_other _ _ _ _ (by intro e; have := congrArg Addr.off e; simp at this; omega)]; exact h.no o ho⟩
theorem C3.set2 {w : World} {r : Nat} {x y z : Value} (h : C3 w r x y z) (v : Value) : C3 (w.setCell ⟨r, 2, none⟩ v) r x y v :=
  ⟨by rw [World.cell?_setCell_other _ _ _ _ (by intro e; cases e)]; exact h.c0, by rw [World.cell?_setCell_other _ _ _ _ (by intro e; cases e)]; exact h.c1, World.cell?_setCell_same' _ _ _ (by rw [h.c2]; rfl), by simpa using h.f0, by simpa using h.f1, by simpa using h.f2, by simpa using h.lt,
    fun o ho => by rw [World.cell?_setCell_other _ _ _ _ (by intro e; have := congrArg Addr.off e; simp at this; omega)]; exact h.no o ho⟩
/-- limbs do not lie in the block of a fraction -/
theorem C3.off {w : World} {r : Nat} {b : Bool} {a1 a2 : Option Addr} {n1 n2 k1 k2 : Nat} (c : C3 w r (.bool b) (.slice a1 n1 k1) (.slice a2 n2 k2)) {v : Value} {N : Nat} (h : Num w v N) : Rd (· ≠ r) w v (nd N) := by
  obtain ⟨a, cap, e, hl, hc, H⟩ := h
  refine ⟨a, cap, e, hl, hc, fun i hi => ?_⟩
  obtain ⟨p, off, ea, -, hcell⟩ := H i hi
  refine ⟨p, off, ea, ?_, hcell⟩
  rintro rfl
  generalize off + i = o at hcell
  match o, hcell with
  | 0, hcell => rw [c.c0] at hcell; cases hcell
  | 1, hcell => rw [c.c1] at hcell; cases hcell
  | 2, hcell => rw [c.c2] at hcell; cases hcell
  | o + 3, hcell => rw [c.no _ (by omega)] at hcell; cases hcell
theorem C3.num {w : World} {r o : Nat} {b : Bool} {a1 a2 : Option Addr} {n1 n2 k1 k2 : Nat} (c : C3 w r (.bool b) (.slice a1 n1 k1) (.slice a2 n2 k2)) {v : Value} {N : Nat} (h : Num w v N) (x : Value) : Num (w.setCell ⟨r, o, none⟩ x) v N :=
  ((c.off h).ex (Ex.set (Ex.refl r w) o x)).any
/-- a fraction is stored in the block -/
theorem C3.fill {w : World} {r : Nat} {b : Bool} {a1 a2 : Option Addr} {n1 n2 k1 k2 : Nat} (c : C3 w r (.bool b) (.slice a1 n1 k1) (.slice a2 n2 k2)) (b' : Bool) (p1 p2 : Option Addr) (m1 m2 j1 j2 : Nat) :
    C3 (((w.setCell ⟨r, 0, none⟩ (.bool b')).setCell ⟨r, 1, none⟩ (.slice p1 m1 j1)).setCell ⟨r, 2, none⟩ (.slice p2 m2 j2)) r (.bool b') (.slice p1 m1 j1) (.slice p2 m2 j2) ∧
    ∀ {v : Value} {N : Nat}, Num w v N → Num (((w.setCell ⟨r, 0, none⟩ (.bool b')).setCell ⟨r, 1, none⟩ (.slice p1 m1 j1)).setCell ⟨r, 2, none⟩ (.slice p2 m2 j2)) v N := by
  have h0 := c.set0 (.bool b')
  have h1 := h0.set1 (.slice p1 m1 j1)
  exact ⟨h1.set2 _, fun h => h1.num (h0.num (c.num h _) _) _⟩
theorem low_ok {N D : Nat} {x y : Bool} {w : World} {vq vp : Value} (hD0 : 0 < D) (hy : y = (x && decide (0 < (nd N).length))) (hq : Num w vq (N / N.gcd D)) (hp : Num w vp (D / N.gcd D)) : Red w (.agg #[.bool y, vq, vp]) (rat x N D) := by
  refine ⟨vq, vp, ?_, by rw [rat_num_abs hD0]; exact hq, by rw [rat_den hD0]; exact hp⟩
  have : decide (0 < (nd N).length) = decide (0 < N) := by
    rw [decide_eq_decide]
    constructor
    · intro h; apply Nat.pos_of_ne_zero; rintro rfl; rw [nd_zero] at h; simp at h
    · intro h; rw [nd_pos h]; simp
  rw [rat_neg hD0, hy, this]
theorem low_bd {N D : Nat} {x b1 b2 : Bool} (hD0 : 0 < D) (h1 : decide ((nd (N / N.gcd D)).length ≤ 64) = b1) (h2 : decide ((nd (D / N.gcd D)).length ≤ 64) = b2) : Bd 64 (rat x N D) ↔ (b1 && b2) = true := by
  unfold Bd
  rw [rat_num_abs hD0, rat_den hD0, ← h1, ← h2]
  simp
theorem part_any {N : Nat} (v : Value) (w : World) (b : Bool) (h : Num w v N) (hN : (nd N).length ≤ 256) (hb : decide ((nd N).length ≤ 64) = b) :
    Calls Tryz.prog 106 #[v] w fun e w' => e = .returned (.bool b) ∧ w = w' := by
  obtain ⟨a, cap, rfl⟩ := num_slice h
  have HV := Lib.hid (num_valid h hN)
  have HB := Lib.hid hb
  clear h hb
  go_enter Tryz.func106, Tryz.ntmps106
  go_wp2_with fail
  refine HV.out.mono ?_
  rintro e w' ⟨rfl, rfl⟩
  go_wp2
  go_ret
  exact ⟨ret_bool (by rw [← HB.out, decide_eq_decide]; omega), rfl⟩
set_option maxHeartbeats 1000000 in
theorem fvalid_any {N D : Nat} (x : Bool) (vn vd : Value) (w : World) (b1 b2 : Bool) (hN : Num w vn N) (hD : Num w vd D) (hD0 : 0 < D) (hx : x = true → 0 < N) (hn : (nd N).length ≤ 256) (hd : (nd D).length ≤ 256)
    (hb1 : decide ((nd N).length ≤ 64) = b1) (hb2 : decide ((nd D).length ≤ 64) = b2) :
    Calls Tryz.prog 61 #[.agg #[.bool x, vn, vd]] w fun e w' => e = .returned (.bool (b1 && b2)) ∧ Gr w w' := by
  have HN := Lib.hid hN
  have HD := Lib.hid hD
  have HB1 := Lib.hid hb1
  have HB2 := Lib.hid hb2
  obtain ⟨an, cn, rfl⟩ := num_slice hN
  obtain ⟨ad, cd, rfl⟩ := num_slice hD
  have hdl : 0 < (nd D).length := by rw [nd_pos hD0]; simp
  have d1 : decide (0 < (nd D).length) = true := by simpa using hdl
  clear hN hD hD0 hb1 hb2
  by_cases h0 : 0 < N
  · have hnl : 0 < (nd N).length := by rw [nd_pos h0]; simp
    have d2 : decide (0 < (nd N).length) = true := by simpa using hnl
    clear hx h0
    cases b1
    · skip
      go_enter Tryz.func61, Tryz.ntmps61
      go_wp2_with fail
      refine (part_any _ _ false (HN.out.gr (Gr.alloc (Gr.refl _) _)) hn HB1.out).mono ?_
      rintro e w' ⟨rfl, rfl⟩
      go_wp2
      go_ret
      exact ⟨rfl, (by repeat' (first | (with_reducible exact Gr.refl _) | (with_reducible assumption) | (with_reducible refine Gr.drewN ?_ _) | (with_reducible refine Gr.drew ?_) | (with_reducible refine Gr.alloc ?_ _) | (with_reducible refine Gr.setCell ?_ ?_ _) | (with_reducible refine Gr.grow ?_ _ _) | (refine Gr.step ?_ (by with_reducible assumption)) | go_size))⟩
    · cases b2
      · skip
        go_enter Tryz.func61, Tryz.ntmps61
        go_wp2_with fail
        refine (part_any _ _ true (HN.out.gr (Gr.alloc (Gr.refl _) _)) hn HB1.out).mono ?_
        rintro e w' ⟨rfl, rfl⟩
        go_wp2_with fail
        refine (part_any _ _ false (HD.out.gr (Gr.alloc (Gr.refl _) _)) hd HB2.out).mono ?_
        rintro e w' ⟨rfl, rfl⟩
        go_wp2
        go_ret
        exact ⟨rfl, (by repeat' (first | (with_reducible exact Gr.refl _) | (with_reducible assumption) | (with_reducible refine Gr.drewN ?_ _) | (with_reducible refine Gr.drew ?_) | (with_reducible refine Gr.alloc ?_ _) | (with_reducible refine Gr.setCell ?_ ?_ _) | (with_reducible refine Gr.grow ?_ _ _) | (refine Gr.step ?_ (by with_reducible assumption)) | go_size))⟩
      · skip
        go_enter Tryz.func61, Tryz.ntmps61
        go_wp2_with fail
        refine (part_any _ _ true (HN.out.gr (Gr.alloc (Gr.refl _) _)) hn HB1.out).mono ?_
        rintro e w' ⟨rfl, rfl⟩
        go_wp2_with fail
        refine (part_any _ _ true (HD.out.gr (Gr.alloc (Gr.refl _) _)) hd HB2.out).mono ?_
        rintro e w' ⟨rfl, rfl⟩
        go_wp2
        go_ret
        exact ⟨rfl, (by repeat' (first | (with_reducible exact Gr.refl _) | (with_reducible assumption) | (with_reducible refine Gr.drewN ?_ _) | (with_reducible refine Gr.drew ?_) | (with_reducible refine Gr.alloc ?_ _) | (with_reducible refine Gr.setCell ?_ ?_ _) | (with_reducible refine Gr.grow ?_ _ _) | (refine Gr.step ?_ (by with_reducible assumption)) | go_size))⟩
  · obtain rfl : N = 0 := by omega
    obtain rfl : x = false := by
      cases x
      · rfl
      · exact absurd (hx rfl) (by omega)
    have hnl : (nd 0).length = 0 := by rw [nd_zero]; rfl
    have d2 : decide (0 < (nd 0).length) = false := by rw [hnl]; rfl
    clear hx h0 hnl
    cases b1
    · skip
      go_enter Tryz.func61, Tryz.ntmps61
      go_wp2_with fail
      refine (part_any _ _ false (HN.out.gr (Gr.alloc (Gr.refl _) _)) hn HB1.out).mono ?_
      rintro e w' ⟨rfl, rfl⟩
      go_wp2
      go_ret
      exact ⟨rfl, (by repeat' (first | (with_reducible exact Gr.refl _) | (with_reducible assumption) | (with_reducible refine Gr.drewN ?_ _) | (with_reducible refine Gr.drew ?_) | (with_reducible refine Gr.alloc ?_ _) | (with_reducible refine Gr.setCell ?_ ?_ _) | (with_reducible refine Gr.grow ?_ _ _) | (refine Gr.step ?_ (by with_reducible assumption)) | go_size))⟩
    · cases b2
      · skip
        go_enter Tryz.func61, Tryz.ntmps61
        go_wp2_with fail
        refine (part_any _ _ true (HN.out.gr (Gr.alloc (Gr.refl _) _)) hn HB1.out).mono ?_
        rintro e w' ⟨rfl, rfl⟩
        go_wp2_with fail
        refine (part_any _ _ false (HD.out.gr (Gr.alloc (Gr.refl _) _)) hd HB2.out).mono ?_
        rintro e w' ⟨rfl, rfl⟩
        go_wp2
        go_ret
        exact ⟨rfl, (by repeat' (first | (with_reducible exact Gr.refl _) | (with_reducible assumption) | (with_reducible refine Gr.drewN ?_ _) | (with_reducible refine Gr.drew ?_) | (with_reducible refine Gr.alloc ?_ _) | (with_reducible refine Gr.setCell ?_ ?_ _) | (with_reducible refine Gr.grow ?_ _ _) | (refine Gr.step ?_ (by with_reducible assumption)) | go_size))⟩
      · skip
        go_enter Tryz.func61, Tryz.ntmps61
        go_wp2_with fail
        refine (part_any _ _ true (HN.out.gr (Gr.alloc (Gr.refl _) _)) hn HB1.out).mono ?_
        rintro e w' ⟨rfl, rfl⟩
        go_wp2_with fail
        refine (part_any _ _ true (HD.out.gr (Gr.alloc (Gr.refl _) _)) hd HB2.out).mono ?_
        rintro e w' ⟨rfl, rfl⟩
        go_wp2
        go_ret
        exact ⟨rfl, (by repeat' (first | (with_reducible exact Gr.refl _) | (with_reducible assumption) | (with_reducible refine Gr.drewN ?_ _) | (with_reducible refine Gr.drew ?_) | (with_reducible refine Gr.alloc ?_ _) | (with_reducible refine Gr.setCell ?_ ?_ _) | (with_reducible refine Gr.grow ?_ _ _) | (refine Gr.step ?_ (by with_reducible assumption)) | go_size))⟩
theorem fvalid_yes {N D : Nat} (x : Bool) (vn vd : Value) (w : World) (hN : Num w vn N) (hD : Num w vd D) (hD0 : 0 < D) (hx : x = true → 0 < N) (hn : (nd N).length ≤ 64) (hd : (nd D).length ≤ 64) :
    Calls Tryz.prog 61 #[.agg #[.bool x, vn, vd]] w fun e w' => e = .returned (.bool true) ∧ Gr w w' :=
  fvalid_any x vn vd w true true hN hD hD0 hx (by omega) (by omega) (decide_eq_true hn) (decide_eq_true hd)
end Go.Proofs.YtikkobmccagdlaaGreatDoor
