/- Several texts in one. -/
import Derived.Test.YtjpjnbgfodlkcaaGreatDoorGAJ
import Derived.Test.YtjpjnbgfodlkcaaGreatDoorRgM
import Derived.Test.YtjpjnbgfodlkcaaGreatDoorGAH
import Derived.WalkKit
import Derived.WalkSpells
import Derived.WalkLawsBesides
import Derived.WalkSmall
import Derived.Handy
import Derived.BigQuiet
import Derived.Deep.QuietTactic
import Derived.Deep.RegionHeld3
import Derived.Deep.DeepFit
import Derived.Below
import Derived.Lib.Hide
import Derived.Lib.QuietBelow
import Derived.Test.YtjpjnbgfodlkcaaGreatDoorGAA
import Derived.Test.YtjpjnbgfodlkcaaGreatDoorGAD
import Derived.Test.YtjpjnbgfodlkcaaGreatDoorGAC
import Derived.Deep.DeepCutAuto
/- The document's fractions: reduced, Reduce. -/
namespace Go.Proofs.YtjpjnbgfodlkcaaGreatDoor
open Go Go.RowKit Go.Sort
set_option maxRecDepth 100000
set_option linter.unusedVariables false
/-- the reduced fraction with this value, in blocks of which p is true -/
def RedP (p : Nat → Prop) (w : World) (v : Value) (r : Rat) : Prop :=
  ∃ vn vd : Value, v = .agg #[.bool (decide (r.num < 0)), vn, vd] ∧ Rd p w vn (nd r.num.natAbs) ∧ Rd p w vd (nd r.den)
theorem RedP.red {p : Nat → Prop} {w : World} {v : Value} {r : Rat} (h : RedP p w v r) : Red w v r := by
  obtain ⟨vn, vd, e, h1, h2⟩ := h
  exact ⟨vn, vd, e, h1.any, h2.any⟩
theorem RedP.gr {p : Nat → Prop} {w w' : World} {v : Value} {r : Rat} (h : RedP p w v r) (g : Gr w w') : RedP p w' v r := by
  obtain ⟨vn, vd, e, h1, h2⟩ := h
  exact ⟨vn, vd, e, h1.gr g, h2.gr g⟩
theorem RedP.imp {p q : Nat → Prop} {w : World} {v : Value} {r : Rat} (h : RedP p w v r) (hpq : ∀ b, p b → q b) : RedP q w v r := by
  obtain ⟨vn, vd, e, h1, h2⟩ := h
  exact ⟨vn, vd, e, h1.imp fun b _ => hpq b, h2.imp fun b _ => hpq b⟩
theorem Rd.exp {p : Nat → Prop} {r : Nat} {w w' : World} {v : Value} {l : List Nat} (h : Rd p w v l) (hp : ∀ c, p c → c ≠ r) (g : Ex r w w') : Rd p w' v l := by
  obtain ⟨a, cap, e, hl, hc, H⟩ := h
  exact ⟨a, cap, e, hl, hc, fun i hi => by
    obtain ⟨b, off, ea, hb, hcell⟩ := H i hi
    exact ⟨b, off, ea, hb, by rw [g.cell _ _ (hp _ hb) (World.block_lt_of_cell? _ _ hcell)]; exact hcell⟩⟩
theorem C3.offp {p : Nat → Prop} {w : World} {r : Nat} {b : Bool} {a1 a2 : Option Addr} {n1 n2 k1 k2 : Nat} (c : C3 w r (.bool b) (.slice a1 n1 k1) (.slice a2 n2 k2)) {v : Value} {l : List Nat} (h : Rd p w v l) : Rd (fun k => p k ∧ k ≠ r) w v l := by
  obtain ⟨a, cap, e, hl, hc, H⟩ := h
  refine ⟨a, cap, e, hl, hc, fun i hi => ?_⟩
  obtain ⟨q, off, ea, hp, hcell⟩ := H i hi
  refine ⟨q, off, ea, ⟨hp, ?_⟩, hcell⟩
  rintro rfl
  generalize off + i = o at hcell
  match o, hcell with
  | 0, hcell => rw [c.c0] at hcell; cases hcell
  | 1, hcell => rw [c.c1] at hcell; cases hcell
  | 2, hcell => rw [c.c2] at hcell; cases hcell
  | o + 3, hcell => rw [c.no _ (by omega)] at hcell; cases hcell
theorem C3.rdp {p : Nat → Prop} {w : World} {r o : Nat} {b : Bool} {a1 a2 : Option Addr} {n1 n2 k1 k2 : Nat} (c : C3 w r (.bool b) (.slice a1 n1 k1) (.slice a2 n2 k2)) {v : Value} {l : List Nat} (h : Rd p w v l) (x : Value) : Rd p (w.setCell ⟨r, o, none⟩ x) v l :=
  (Rd.exp (c.offp h) (fun _ h => h.2) (Ex.set (Ex.refl r w) o x)).imp fun _ _ h => h.1
theorem C3.fillp {p : Nat → Prop} {w : World} {r : Nat} {b : Bool} {a1 a2 : Option Addr} {n1 n2 k1 k2 : Nat} (c : C3 w r (.bool b) (.slice a1 n1 k1) (.slice a2 n2 k2)) (b' : Bool) (p1 p2 : Option Addr) (m1 m2 j1 j2 : Nat) {v : Value} {l : List Nat} (h : Rd p w v l) :
    Rd p (((w.setCell ⟨r, 0, none⟩ (.bool b')).setCell ⟨r, 1, none⟩ (.slice p1 m1 j1)).setCell ⟨r, 2, none⟩ (.slice p2 m2 j2)) v l := by
  have h0 := c.set0 (.bool b')
  have h1 := h0.set1 (.slice p1 m1 j1)
  exact h1.rdp (h0.rdp (c.rdp h _) _) _
theorem C3.redp {p : Nat → Prop} {w : World} {q : Nat} {b : Bool} {a1 a2 : Option Addr} {n1 n2 k1 k2 : Nat} (c : C3 w q (.bool b) (.slice a1 n1 k1) (.slice a2 n2 k2)) (b' : Bool) (p1 p2 : Option Addr) (m1 m2 j1 j2 : Nat) {v : Value} {r : Rat} (h : RedP p w v r) :
    RedP p (((w.setCell ⟨q, 0, none⟩ (.bool b')).setCell ⟨q, 1, none⟩ (.slice p1 m1 j1)).setCell ⟨q, 2, none⟩ (.slice p2 m2 j2)) v r := by
  obtain ⟨vn, vd, e, h1, h2⟩ := h
  exact ⟨vn, vd, e, c.fillp b' p1 p2 m1 m2 j1 j2 h1, c.fillp b' p1 p2 m1 m2 j1 j2 h2⟩
/-- a reduced fraction, in memory of the call's own -/
def RRed (w : World) (r : Rat) (e : Ending) (w' : World) : Prop := ∃ (b : Bool) (a1 a2 : Option Addr) (n1 n2 c1 c2 : Nat), e = .returned (.agg #[.bool b, .slice a1 n1 c1, .slice a2 n2 c2]) ∧ RedP (fun c => w.heap.size ≤ c) w' (.agg #[.bool b, .slice a1 n1 c1, .slice a2 n2 c2]) r ∧ Gr w w'
theorem red_zero {p : Nat → Prop} {x : Bool} {D : Nat} {w : World} {vn vd : Value} (hn : Rd p w vn (nd 0)) (hd : Rd p w vd (nd 1)) : RedP p w (.agg #[.bool false, vn, vd]) (rat x 0 D) := by
  rw [rat_zero]
  exact ⟨vn, vd, rfl, hn, hd⟩
theorem red_pos {p : Nat → Prop} {N D : Nat} {x : Bool} {w : World} {vq vp : Value} (hD0 : 0 < D) (hN : 0 < N) (hq : Rd p w vq (nd (N / N.gcd D))) (hp : Rd p w vp (nd (D / N.gcd D))) : RedP p w (.agg #[.bool x, vq, vp]) (rat x N D) := by
  refine ⟨vq, vp, ?_, by rw [rat_num_abs hD0]; exact hq, by rw [rat_den hD0]; exact hp⟩
  rw [rat_neg hD0, decide_eq_true hN, Bool.and_true]
set_option maxHeartbeats 2000000 in
theorem reduced_any {N D : Nat} (x : Bool) (vn vd : Value) (w : World) (hN : Num w vn N) (hD : Num w vd D) (hD0 : 0 < D) (hn : (nd N).length ≤ 4000) (hd : (nd D).length ≤ 4000) :
    Calls Tryz.prog 45 #[.bool x, vn, vd] w (RRed w (rat x N D)) := by
  have HN := Lib.hid hN
  have HD := Lib.hid hD
  obtain ⟨an, cn, rfl⟩ := num_slice hN
  obtain ⟨ad, cd, rfl⟩ := num_slice hD
  have HD0 := Lib.hid hD0
  clear hN hD hD0
  have hR0 := C3.new w (.bool false) (.slice none 0 0) (.slice none 0 0) 26 w.heap.size rfl
  have hG0 : Gr w (w.alloc (.cells #[.bool false, .slice none 0 0, .slice none 0 0] 26)) := Gr.alloc (Gr.refl _) _
  have hs0 : (w.alloc (.cells #[.bool false, .slice none 0 0, .slice none 0 0] 26)).heap.size = w.heap.size + 1 := by simp
  by_cases h0 : 0 < N
  · have hnl : 0 < (nd N).length := by rw [nd_pos h0]; simp
    have dN : (((nd N).length : Int) == 0) = false := by rw [beq_eq_false_iff_ne]; omega
    have HN0 := Lib.hid h0
    have HG0 : Hid (0 < N.gcd D) := Lib.hid (Nat.gcd_pos_of_pos_left _ h0)
    have hgl : (nd (N.gcd D)).length ≤ 4000 := nd_le_len' hn (Nat.gcd_le_left _ h0)
    clear h0 hnl
    go_enter Tryz.func45, Tryz.ntmps45
    go_wp2_with fail
    generalize w.alloc (.cells #[.bool false, .slice none 0 0, .slice none 0 0] 26) = W0 at *
    refine (rgcd_any _ _ _ (HN.out.gr hG0) (HD.out.gr hG0) (by omega) (by omega)).mono ?_
    rintro e w1 ⟨vg, rfl, hg, hg1⟩
    have HG := Lib.hid hg
    have hR := hR0.gr hg1
    have hG := hG0.step hg1
    clear hg hg1 hR0 hG0 hs0
    go_wp2_with fail
    refine (split_any _ _ _ (HN.out.gr hG) HG.out HG0.out hn hgl).mono ?_
    rintro e w2 ⟨vq, vr, rfl, hq, -, hg2⟩
    obtain ⟨aq, cq, rfl⟩ := num_slice hq.any
    have HQ := Lib.hid (hq.imp (q := fun c => w.heap.size ≤ c) fun _ _ hc => Nat.le_trans (Gr.size hG) hc)
    have hR := hR.gr hg2
    have hG := hG.step hg2
    have HG := Lib.hid (HG.out.gr hg2)
    clear hq hg2
    go_wp2_with fail
    refine (split_any _ _ _ (HD.out.gr hG) HG.out HG0.out hd hgl).mono ?_
    rintro e w3 ⟨vp, vs, rfl, hp, -, hg3⟩
    obtain ⟨ap, cp, rfl⟩ := num_slice hp.any
    have hR := hR.gr hg3
    have hG2 := hG
    have hG := hG.step hg3
    have HQ := Lib.hid (HQ.out.gr hg3)
    have HP := Lib.hid (hp.imp (q := fun c => w.heap.size ≤ c) fun _ _ hc => Nat.le_trans (Gr.size hG2) hc)
    have hfl := hR.fill x aq ap (nd (N / N.gcd D)).length (nd (D / N.gcd D)).length cq cp
    obtain ⟨sc0, sc1, sc2, -, -, -, -, -⟩ := hfl.1
    obtain ⟨rc0, rc1, rc2, rf0, rf1, rf2, rlt, -⟩ := id hR
    clear hp hg3
    go_wp2_with fail
    refine bodyPost_ret (v := .agg #[.bool x, .slice aq (nd (N / N.gcd D)).length cq, .slice ap (nd (D / N.gcd D)).length cp]) (by simp [results, Tryz.results45, go_sem, sc0, sc1, sc2]) rfl ?_
    exact ⟨_, _, _, _, _, _, _, rfl, red_pos HD0.out HN0.out (hR.fillp x aq ap (nd (N / N.gcd D)).length (nd (D / N.gcd D)).length cq cp HQ.out) (hR.fillp x aq ap (nd (N / N.gcd D)).length (nd (D / N.gcd D)).length cq cp HP.out), C3.three hG (Nat.le_refl _) _ _ _⟩
  · have hN0 : N = 0 := by omega
    have dN : (((nd N).length : Int) == 0) = true := by rw [hN0, nd_zero]; rfl
    have HN0 := Lib.hid hN0
    clear h0 hN0
    go_enter Tryz.func45, Tryz.ntmps45
    have hl1 := num_lit (w.alloc (.cells #[.bool false, .slice none 0 0, .slice (some ⟨w.heap.size + 1, 0, none⟩) 1 1] 26)) 1 1 rfl (by omega) (by omega)
    have hF := (C3.new w (.bool false) (.slice none 0 0) (.slice (some ⟨w.heap.size + 1, 0, none⟩) 1 1) 26 w.heap.size rfl).gr (Gr.alloc (Gr.refl _) (.cells #[.int .i64 1] 3))
    have hG1 : Gr w ((w.alloc (.cells #[.bool false, .slice none 0 0, .slice (some ⟨w.heap.size + 1, 0, none⟩) 1 1] 26)).alloc (.cells #[.int .i64 1] 3)) := (Gr.alloc (Gr.refl _) _).alloc _
    obtain ⟨sc0, sc1, sc2, -, -, -, -, -⟩ := hF
    simp only [World.size_alloc] at hl1
    have HL1 : Hid (Rd (fun c => w.heap.size ≤ c) ((w.alloc (.cells #[.bool false, .slice none 0 0, .slice (some ⟨w.heap.size + 1, 0, none⟩) 1 1] 26)).alloc (.cells #[.int .i64 1] 3)) (.slice (some ⟨w.heap.size + 1, 0, none⟩) 1 1) (nd 1)) := Lib.hid (by
      obtain ⟨a, c, e, h1, h2, H⟩ := hl1
      refine ⟨a, c, e, h1, h2, fun i hi => ?_⟩
      obtain ⟨b, off, ea, -, hc⟩ := H i hi
      refine ⟨b, off, ea, ?_, hc⟩
      rw [ea] at e
      simp only [Value.slice.injEq, Option.some.injEq, Addr.mk.injEq] at e
      omega)
    clear hR0 hG0 hs0 hl1
    go_wp2_with fail
    refine bodyPost_ret (v := .agg #[.bool false, .slice none 0 0, .slice (some ⟨w.heap.size + 1, 0, none⟩) 1 1]) (by simp [results, Tryz.results45, go_sem, sc0, sc1, sc2]) rfl ?_
    refine ⟨_, _, _, _, _, _, _, rfl, ?_, hG1⟩
    rw [HN0.out]
    exact red_zero (by rw [nd_zero]; exact Rd.nil _ _) HL1.out
set_option maxHeartbeats 1000000 in
theorem rreduce_any {r : Rat} (v : Value) (w : World) (h : Fra w v r) :
    Calls Tryz.prog 26 #[v] w (RRed w r) := by
  obtain ⟨x, va, vb, A, B, rfl, hA, hB, hB0, hx, lA, lB, rfl⟩ := h
  have HA := Lib.hid hA
  have HB := Lib.hid hB
  have HB0 := Lib.hid hB0
  obtain ⟨aa, ca, rfl⟩ := num_slice hA
  obtain ⟨ab, cb, rfl⟩ := num_slice hB
  have hG1 : Gr w ((w.alloc (.cells #[.bool x, .slice aa (nd A).length ca, .slice ab (nd B).length cb] 26)).alloc (.cells #[.bool false, .slice none 0 0, .slice none 0 0] 26)) := (Gr.alloc (Gr.refl _) _).alloc _
  have hR1 := C3.new (w.alloc (.cells #[.bool x, .slice aa (nd A).length ca, .slice ab (nd B).length cb] 26)) (.bool false) (.slice none 0 0) (.slice none 0 0) 26 (w.heap.size + 1) (by simp)
  clear hA hB hB0 hx
  go_enter Tryz.func26, Tryz.ntmps26
  go_wp2_with fail
  generalize (w.alloc (.cells #[.bool x, .slice aa (nd A).length ca, .slice ab (nd B).length cb] 26)).alloc (.cells #[.bool false, .slice none 0 0, .slice none 0 0] 26) = W0 at *
  refine (reduced_any x _ _ _ (HA.out.gr hG1) (HB.out.gr hG1) HB0.out (by omega) (by omega)).mono ?_
  rintro e w2 ⟨b, a1, a2, n1, n2, c1, c2, rfl, hred, hg⟩
  have hR := hR1.gr hg
  have hG := hG1.step hg
  have HRED := Lib.hid (hred.imp (q := fun c => w.heap.size ≤ c) fun _ hc => Nat.le_trans (Gr.size hG1) hc)
  have hfl := hR.fill b a1 a2 n1 n2 c1 c2
  obtain ⟨sc0, sc1, sc2, -, -, -, -, -⟩ := hfl.1
  obtain ⟨rc0, rc1, rc2, rf0, rf1, rf2, rlt, -⟩ := id hR
  clear hred hg
  go_wp2_with fail
  refine bodyPost_ret (v := .agg #[.bool b, .slice a1 n1 c1, .slice a2 n2 c2]) (by simp [results, Tryz.results26, go_sem, sc0, sc1, sc2]) rfl ?_
  exact ⟨_, _, _, _, _, _, _, rfl, hR.redp b a1 a2 n1 n2 c1 c2 HRED.out, C3.three hG (by omega) _ _ _⟩
end Go.Proofs.YtjpjnbgfodlkcaaGreatDoor
/- The source of draws: New, Next. -/
namespace Go.Proofs.YtjpjnbgfodlkcaaGreatDoor
open Go Go.RowKit Go.Sort
set_option maxRecDepth 100000
set_option linter.unusedVariables false

/-- the bytes of a slice can be read -/
def Bytes (w : World) (a : Option Addr) (len : Nat) : Prop := ∀ i, i < len → ∃ (b off : Nat) (z : Int), a = some ⟨b, off, none⟩ ∧ w.cell? ⟨b, off + i, none⟩ = some (.int .u8 z) ∧ 0 ≤ z ∧ z < 256
/-- block b holds choices: k of len bytes have been used -/
structure Cod (B : Nat) (w : World) (b : Nat) : Prop where
  base : B ≤ b
  ex : ∃ (a : Option Addr) (len cap k : Nat), w.cell? ⟨b, 0, none⟩ = some (.slice a len cap) ∧ w.cell? ⟨b, 1, none⟩ = some (.int .i64 k) ∧ k ≤ len ∧ len ≤ 1000 ∧ w.frozen? ⟨b, 1, none⟩ = false ∧ Bytes w a len ∧ (0 < len → ∀ x, a = some x → x.block < B)
theorem Cod.lt {B : Nat} {w : World} {b : Nat} (h : Cod B w b) : b < w.heap.size := by
  obtain ⟨a, len, cap, k, h0, _⟩ := h.ex
  exact World.block_lt_of_cell? w _ h0
theorem Bytes.ex {w w' : World} {b : Nat} {a : Option Addr} {len : Nat} (h : Bytes w a len) (hab : 0 < len → ∀ x, a = some x → x.block ≠ b) (g : Ex b w w') : Bytes w' a len := by
  intro i hi
  have hab := hab (by omega)
  obtain ⟨ab, off, z, e, hc, hz⟩ := h i hi
  refine ⟨ab, off, z, e, ?_, hz⟩
  rw [g.cell ab _ (hab _ e) (World.block_lt_of_cell? w _ hc)]; exact hc
/-- what is made or written elsewhere does not change the choices -/
theorem Cod.gr {B : Nat} {w w' : World} {b : Nat} (h : Cod B w b) (g : Gr w w') : Cod B w' b := by
  have hl := h.lt
  obtain ⟨a, len, cap, k, h0, h1, h2, h3, h4, h5, h6⟩ := h.ex
  have ⟨hc, hf⟩ := Gr.cells g
  have hB := h.base
  exact ⟨hB, a, len, cap, k, by rw [hc _ _ hl]; exact h0, by rw [hc _ _ hl]; exact h1, h2, h3, by rw [hf _ _ hl]; exact h4, h5.ex (b := b) (fun hl x e => Nat.ne_of_lt (Nat.lt_of_lt_of_le (h6 hl x e) hB)) (Ex.ofGr g), h6⟩
theorem ne_lt {B b len : Nat} {a : Option Addr} (hB : B ≤ b) (h6 : 0 < len → ∀ x, a = some x → x.block < B) : 0 < len → ∀ x, a = some x → x.block ≠ b := fun hl x e => Nat.ne_of_lt (Nat.lt_of_lt_of_le (h6 hl x e) hB)
/-- a write elsewhere -/
theorem Cod.set {B : Nat} {w : World} {b : Nat} (h : Cod B w b) (c o : Nat) (hc : c ≠ b) (hcB : B ≤ c) (v : Value) : Cod B (w.setCell ⟨c, o, none⟩ v) b := by
  have hl := h.lt
  obtain ⟨a, len, cap, k, h0, h1, h2, h3, h4, h5, h6⟩ := h.ex
  have he : Ex c w (w.setCell ⟨c, o, none⟩ v) := Ex.set (Ex.refl _ _) _ _
  exact ⟨h.base, a, len, cap, k, by rw [he.cell b 0 (Ne.symm hc) hl]; exact h0, by rw [he.cell b 1 (Ne.symm hc) hl]; exact h1, h2, h3, by rw [he.frozen b 1 (Ne.symm hc) hl]; exact h4, h5.ex (ne_lt hcB h6) he, h6⟩

theorem cod_set {B : Nat} {w : World} {b : Nat} {a : Option Addr} {len cap k : Nat} (h0 : w.cell? ⟨b, 0, none⟩ = some (.slice a len cap)) (h1 : w.cell? ⟨b, 1, none⟩ = some (.int .i64 k)) (h3 : len ≤ 1000) (h4 : w.frozen? ⟨b, 1, none⟩ = false) (h5 : Bytes w a len) (hB : B ≤ b) (h6 : 0 < len → ∀ x, a = some x → x.block < B) (hk : k < len) : Cod B (w.setCell ⟨b, 1, none⟩ (.int .i64 ((k : Int) + 1))) b := by
  refine ⟨hB, a, len, cap, k + 1, ?_, ?_, hk, h3, ?_, h5.ex (ne_lt hB h6) (Ex.set (Ex.refl _ _) _ _), h6⟩
  · first | (simp [go_sem, h0]; done) | (rw [World.cell?_setCell_other]; exact h0; simp)
  · rw [World.cell?_setCell_same' _ _ _ (by rw [h1]; rfl)]; simp
  · simpa using h4

def Nx (B b : Nat) (n : Int) (w : World) (e : Ending) (w' : World) : Prop := ∃ x : Int, e = .returned (.int .i64 x) ∧ 0 ≤ x ∧ x < n ∧ Cod B w' b ∧ Ex b w w'

theorem next_done (b : Nat) (n : Int) (w : World) (a : Option Addr) (len cap k : Nat) (hs : w.cell? ⟨b, 0, none⟩ = some (.slice a len cap)) (hk : w.cell? ⟨b, 1, none⟩ = some (.int .i64 k)) (h : len ≤ k) :
    Calls Tryz.prog 34 #[.pointer (some ⟨b, 0, none⟩), .int .i64 n] w fun e w' => e = .returned (.int .i64 0) ∧ ∃ m, w' = w.drewN m := by
  have d1 : decide ((len : Int) ≤ (k : Int)) = true := by simpa using h
  have d2 : decide (len ≤ k) = true := by simpa using h
  go_enter Tryz.func34, Tryz.ntmps34
  go_wp2_with fail
  go_quiet (fail)
  go_wp2
  go_ret
  exact ⟨rfl, _, rfl⟩
theorem next_small {B : Nat} (b : Nat) (n : Int) (w : World) (n0 : 1 ≤ n) (n1 : n ≤ 256) (h : Cod B w b) :
    Calls Tryz.prog 34 #[.pointer (some ⟨b, 0, none⟩), .int .i64 n] w (Nx B b n w) := by
  obtain ⟨a, len, cap, k, h0, h1, h2, h3, h4, h5, h6⟩ := h.ex
  by_cases hk : k < len
  · obtain ⟨ab, off, z, rfl, hz, hz0, hz1⟩ := h5 k hk
    have hB := h.base
    have hne := ne_lt hB h6 (by omega) _ rfl
    have d1 : decide ((len : Int) ≤ (k : Int)) = false := by simp; omega
    have d2 : decide (len ≤ k) = false := by simp; omega
    have d3 : decide (n < 1) = false := by simp; omega
    have k1 : (k : Int) < (len : Int) := by omega
    have k2 : (0 : Int) ≤ (k : Int) := by omega
    have H5 := Lib.hid h5
    have H6 := Lib.hid h6
    clear h5 h6 h2
    go_enter Tryz.func34, Tryz.ntmps34
    go_wp2_with fail
    go_quiet (fail)
    go_wp2_with fail
    go_quiet (fail)
    go_wp2_with fail
    go_ret
    refine ⟨z % n, ?_, Int.emod_nonneg _ (by omega), Int.emod_lt_of_pos _ (by omega), ?_, ?_⟩
    · rfl
    · exact cod_set (w := w.drewN _) h0 h1 h3 h4 (H5.out.ex (ne_lt hB H6.out) (Ex.ofGr (Gr.drewN (Gr.refl _) _))) hB H6.out hk
    · exact Ex.set (Ex.drewN (Ex.refl _ _) _) _ _
  · refine (next_done b n w a len cap k h0 h1 (by omega)).mono fun e w' ⟨he, m, hw⟩ => ?_
    subst hw
    exact ⟨0, he, by omega, by omega, Cod.gr ⟨h.base, a, len, cap, k, h0, h1, h2, h3, h4, h5, h6⟩ (Gr.drewN (Gr.refl _) m), Ex.drewN (Ex.refl _ _) m⟩
theorem next_any {B : Nat} (b : Nat) (n : Int) (w : World) (n0 : 1 ≤ n) (n1 : n ≤ 65536) (h : Cod B w b) :
    Calls Tryz.prog 34 #[.pointer (some ⟨b, 0, none⟩), .int .i64 n] w (Nx B b n w) := by
  by_cases n2 : n ≤ 256
  · exact next_small b n w n0 n2 h
  obtain ⟨a, len, cap, k, h0, h1, h2, h3, h4, h5, h6⟩ := h.ex
  by_cases hk : k < len
  · obtain ⟨ab, off, z, rfl, hz, hz0, hz1⟩ := h5 k hk
    have hB := h.base
    have hne := ne_lt hB h6 (by omega) _ rfl
    have d1 : decide ((len : Int) ≤ (k : Int)) = false := by simp; omega
    have d2 : decide (len ≤ k) = false := by simp; omega
    have d3 : decide (n < 1) = false := by simp; omega
    have k1 : (k : Int) < (len : Int) := by omega
    have k2 : (0 : Int) ≤ (k : Int) := by omega
    have k3 : 256 < n := by omega
    have H5 := Lib.hid h5
    have H6 := Lib.hid h6
    have HC : Hid (∀ m, Cod B ((w.drewN m).setCell ⟨b, 1, none⟩ (.int .i64 ((k : Int) + 1))) b) := fun m => cod_set (w := w.drewN m) h0 h1 h3 h4 (h5.ex (ne_lt hB h6) (Ex.ofGr (Gr.drewN (Gr.refl _) _))) hB h6 hk
    clear h5 h6 h2
    go_enter Tryz.func34, Tryz.ntmps34
    go_wp2_with fail
    go_quiet (fail)
    go_wp2_with fail
    go_quiet (fail)
    go_wp2_with fail
    refine (next_small b 256 _ (by omega) (by omega) (HC.out _)).mono ?_
    rintro e w2 ⟨y, rfl, y0, y1, hc2, he2⟩
    go_wp2_with fail
    go_ret
    refine ⟨(256 * z + y) % n, ?_, Int.emod_nonneg _ (by omega), Int.emod_lt_of_pos _ (by omega), hc2, Ex.trans (Ex.set (Ex.drewN (Ex.refl _ _) _) _ _) he2⟩
    rfl
  · refine (next_done b n w a len cap k h0 h1 (by omega)).mono fun e w' ⟨he, m, hw⟩ => ?_
    subst hw
    exact ⟨0, he, by omega, by omega, Cod.gr ⟨h.base, a, len, cap, k, h0, h1, h2, h3, h4, h5, h6⟩ (Gr.drewN (Gr.refl _) m), Ex.drewN (Ex.refl _ _) m⟩

/-- a slice of bytes that can be read, as a value -/
def BytesV (B : Nat) (w : World) (v : Value) (len : Nat) : Prop := ∃ (a : Option Addr) (cap : Nat), v = .slice a len cap ∧ len ≤ cap ∧ Bytes w a len ∧ B ≤ w.heap.size ∧ (0 < len → ∀ x, a = some x → x.block < B)
theorem BytesV.gr {B : Nat} {w w' : World} {v : Value} {len : Nat} (h : BytesV B w v len) (g : Gr w w') : BytesV B w' v len := by
  obtain ⟨a, cap, rfl, hc, hb, hB, hl⟩ := h
  refine ⟨a, cap, rfl, hc, ?_, Nat.le_trans hB (Gr.size g), hl⟩
  exact hb.ex (b := w.heap.size) (ne_lt hB hl) (Ex.ofGr g)

def NewPost (B : Nat) (w : World) (e : Ending) (w' : World) : Prop := ∃ b : Nat, e = .returned (.pointer (some ⟨b, 0, none⟩)) ∧ b = w.heap.size ∧ Cod B w' b ∧ Gr w w'
theorem new_any {B : Nat} (v : Value) (len m : Nat) (w : World) (hm : m ≤ 1000) (hl : len ≤ 9223372036854775807) (h : BytesV B w v len) :
    Calls Tryz.prog 5 #[v, .int .i64 m] w (NewPost B w) := by
  obtain ⟨a, cap, rfl, hcap, hb, hB, hlt⟩ := h
  by_cases h40 : m < len
  · have d1 : (m : Int) < (len : Int) := by omega
    have d2 : (m : Int) ≤ (cap : Int) := by omega
    have d3 : m ≤ cap := by omega
    have Hb := Lib.hid hb
    have Hl := Lib.hid hlt
    have Hc : Hid (Cod B (w.alloc (.cells #[.slice a m cap, .int .i64 0] 48)) w.heap.size) :=
      ⟨hB, a, m, cap, 0, by simp, by simp, by omega, by omega, by simp, Bytes.ex (b := w.heap.size) (fun i hi => hb i (by omega)) (ne_lt (len := m) hB (fun _ => hlt (by omega))) (Ex.ofGr (Gr.alloc (Gr.refl _) _)), fun _ => hlt (by omega)⟩
    clear hb hlt
    go_enter Tryz.func5, Tryz.ntmps5
    go_wp2
    go_ret
    exact ⟨w.heap.size, rfl, rfl, Hc.out, (by repeat' (first | (with_reducible exact Gr.refl _) | (with_reducible assumption) | (with_reducible refine Gr.drewN ?_ _) | (with_reducible refine Gr.drew ?_) | (with_reducible refine Gr.alloc ?_ _) | (with_reducible refine Gr.setCell ?_ ?_ _) | (with_reducible refine Gr.grow ?_ _ _) | (refine Gr.step ?_ (by with_reducible assumption)) | go_size))⟩
  · have d1 : ¬ (m : Int) < (len : Int) := by omega
    have Hc : Hid (Cod B (w.alloc (.cells #[.slice a len cap, .int .i64 0] 48)) w.heap.size) :=
      ⟨hB, a, len, cap, 0, by simp, by simp, by omega, by omega, by simp, Bytes.ex (b := w.heap.size) hb (ne_lt hB hlt) (Ex.ofGr (Gr.alloc (Gr.refl _) _)), hlt⟩
    have Hl := Lib.hid hlt
    clear hb hlt
    go_enter Tryz.func5, Tryz.ntmps5
    go_wp2
    go_ret
    exact ⟨w.heap.size, rfl, rfl, Hc.out, (by repeat' (first | (with_reducible exact Gr.refl _) | (with_reducible assumption) | (with_reducible refine Gr.drewN ?_ _) | (with_reducible refine Gr.drew ?_) | (with_reducible refine Gr.alloc ?_ _) | (with_reducible refine Gr.setCell ?_ ?_ _) | (with_reducible refine Gr.grow ?_ _ _) | (refine Gr.step ?_ (by with_reducible assumption)) | go_size))⟩
end Go.Proofs.YtjpjnbgfodlkcaaGreatDoor
/- Draws of numbers; Same; the sanity check. -/
namespace Go.Proofs.YtjpjnbgfodlkcaaGreatDoor
open Go Go.RowKit Go.Sort
set_option maxRecDepth 100000
set_option linter.unusedVariables false

theorem Cod.exk {B : Nat} {w w' : World} {b k : Nat} (h : Cod B w b) (he : Ex k w w') (hk : k ≠ b) (hB : B ≤ k) : Cod B w' b := by
  have hl := h.lt
  obtain ⟨a, len, cap, j, h0, h1, h2, h3, h4, h5, h6⟩ := h.ex
  exact ⟨h.base, a, len, cap, j, by rw [he.cell b 0 (Ne.symm hk) hl]; exact h0, by rw [he.cell b 1 (Ne.symm hk) hl]; exact h1, h2, h3, by rw [he.frozen b 1 (Ne.symm hk) hl]; exact h4, h5.ex (ne_lt hB h6) he, h6⟩
theorem Cod.grown {B : Nat} {w w' : World} {b : Nat} {row : Option Nat} (h : Cod B w b) (g : w.grownBy w' row) (hr : ∀ k, row = some k → k ≠ b ∧ B ≤ k) : Cod B w' b := by
  cases row with
  | none => exact h.gr (Gr.ofGrown g)
  | some k => exact h.exk (Ex.ofGrown g) (hr k rfl).1 (hr k rfl).2
/-- what the draw of a number gives -/
def NatPost (B b n : Nat) (w : World) (e : Ending) (w' : World) : Prop := ∃ (v : Value) (N : Nat), e = .returned v ∧ Rd (· ≠ b) w' v (nd N) ∧ (nd N).length ≤ n ∧ Cod B w' b ∧ Ex b w w'
def DrawRel (B b n : Nat) (w : World) (s v : Value) (wr : World) : Prop :=
  ∃ (m : Nat) (l : List Nat), s = .int .i64 m ∧ l.length + m ≤ n ∧ Lim l ∧ Own wr w.heap.size v l ∧ Cod B wr b ∧ Ex b w wr
set_option maxHeartbeats 2000000 in
theorem nat_any {B : Nat} (b n : Nat) (w : World) (h : Cod B w b) (hBw : B ≤ w.heap.size) (hn : n ≤ 60) :
    Calls Tryz.prog 35 #[.pointer (some ⟨b, 0, none⟩), .int .i64 n] w (NatPost B b n w) := by
  have hlt := h.lt
  have HBW := Lib.hid hBw
  clear hBw
  go_enter Tryz.func35, Tryz.ntmps35
  go_wp2_with fail
  refine (next_any b _ _ (by omega) (by omega) h).mono ?_
  rintro e w1 ⟨x, rfl, x0, x1, hc1, he1⟩
  go_wp2_with fail
  go_loopw [6, 5] (fun s v wr => DrawRel B b n w s v wr) (fun s _ _ => (intOf s).toNat)
  case atStart => exact ⟨x.toNat, [], by rw [Int.toNat_of_nonneg x0], by simp; omega, lim_nil, Own.nil _ _, hc1, he1⟩
  case round =>
    obtain ⟨m, l, rfl, hm, hL, hown, hcod, hex⟩ := hrel
    have HO := Lib.hid hown
    clear hown
    by_cases hm0 : 0 < m
    · have d : decide ((0 : Int) < (m : Int)) = true := by simpa using hm0
      go_wp2_with fail
      refine (next_any b 256 _ (by omega) (by omega) hcod).mono ?_
      rintro e w2 ⟨y, rfl, y0, y1, hc2, he2⟩
      go_wp2_with fail
      refine (next_any b 65536 _ (by omega) (by omega) hc2).mono ?_
      rintro e w3 ⟨p, rfl, p0, p1, hc3, he3⟩
      go_wp2_with fail
      refine (next_any b 16000 _ (by omega) (by omega) hc3).mono ?_
      rintro e w4 ⟨q, rfl, q0, q1, hc4, he4⟩
      have hz1 : p * (1 + q) ≤ 65535 * (1 + q) := Int.mul_le_mul_of_nonneg_right (by omega) (by omega)
      have hz0 : 0 ≤ p * (1 + q) := Int.mul_nonneg (by omega) (by omega)
      obtain ⟨z, hz⟩ : ∃ z : Int, z = p * (1 + q) := ⟨_, rfl⟩
      rw [← hz] at hz0 hz1
      have z1 : z ≤ 1048560000 := by omega
      have mz : IntKind.i64.wrap (p * (1 + q)) = z := by rw [← hz]; exact IntWalk.i64_in _ (by omega)
      clear hz hz1
      have hE4 := (he2.trans he3).trans he4
      clear he2 he3 he4 hc2 hc3
      go_wp2_with fail
      refine (next_any b 5 _ (by omega) (by omega) (hc4.gr (Gr.alloc (Gr.refl _) _))).mono ?_
      rintro e w5 ⟨i, rfl, i0, i1, hc5, he5⟩
      obtain ⟨j, rfl⟩ := Int.eq_ofNat_of_zero_le i0
      have hbw4 : b < w4.heap.size := hc4.lt
      obtain ⟨t, ht⟩ : ∃ t : Nat, w5.cell? ⟨w4.heap.size, j, none⟩ = some (.int .i64 t) := by
        obtain ⟨y', rfl⟩ := Int.eq_ofNat_of_zero_le y0
        obtain ⟨z', rfl⟩ := Int.eq_ofNat_of_zero_le hz0
        rw [he5.cell _ _ (by omega) (by go_size)]
        have hj : j = 0 ∨ j = 1 ∨ j = 2 ∨ j = 3 ∨ j = 4 := by omega
        rcases hj with rfl | rfl | rfl | rfl | rfl
        · exact ⟨0, by simp⟩
        · exact ⟨1, by simp⟩
        · exact ⟨1073741823, by simp⟩
        · exact ⟨y', by simp⟩
        · exact ⟨z', by simp⟩
      have j1 : (j : Int) < 5 := i1
      have j2 : j < 5 := by omega
      have t0 : (0 : Int) ≤ (t : Int) := by omega
      have hE5 : Ex b wr w5 := (hE4.alloc _).trans he5
      have hown5 := HO.out.ex hE5 hlt
      have hsz := hex.size
      have hsz5 := hE5.size
      obtain ⟨d, hd⟩ : ∃ d : Nat, d = t % 1073741824 := ⟨_, rfl⟩
      have md : (t : Int) % 1073741824 = (d : Int) := by omega
      have HD := Lib.hid hd
      obtain ⟨ti, hi1, hi2, hi3, hi4⟩ := intInfo
      have hown6 := hown5
      unfold Own at hown6
      clear hd i0 i1
      go_wp2_with (at_builtin; refine wpList_append_own_at _ rfl _ _ 24 rfl w.heap.size 3 ti (.int .i64 0) 1 8 Tryz.underlying24 hi1 hi2 hi3 hi4 rfl (by decide) _ _ _ rfl (hown6.alloc _) ⟨w5.heap.size, 0, none⟩ 1 1 [.int .i64 d] rfl rfl (cell_one_new _ _ _) (by simp [Value.oneCell']) (by unfold maxLen; omega) (by omega) (by simp; omega) ?_; intro v' w6 hown7 hgrow hnil hloc)
      clear hnil hloc
      refine ⟨⟨m - 1, l ++ [d], by rw [show ((m - 1 : Nat) : Int) = (m : Int) - 1 by omega], by simp; omega, lim_append.2 ⟨hL, lim_cons.2 ⟨by rw [HD.out]; omega, lim_nil⟩⟩, ?_, ?_, ?_⟩, by simp only [intOf]; omega⟩
      · unfold Own
        rw [List.length_append, List.map_append]
        exact hown7
      · have hB1 := HBW.out
        refine Cod.grown (hc5.gr (Gr.alloc (Gr.refl _) _)) hgrow (fun k hk => ?_)
        have := (World.ownsRow.lt hown6 k hk).1
        omega
      · exact Ex.grown ((hex.trans hE5).alloc _) hgrow (fun k hk => (World.ownsRow.lt hown6 k hk).1)
    · have d : decide ((0 : Int) < (m : Int)) = false := by simpa using hm0
      have hrd := HO.out.rd.imp (q := (· ≠ b)) (fun c _ hc => by omega)
      have HT := Lib.hid (rtrim_any wr hrd hL)
      have hle : (nd (nv l)).length ≤ n := Nat.le_trans ((nd_len _ _).2 (nv_lt hL)) (by omega)
      clear hrd
      go_wp2_with fail
      refine HT.out.mono ?_
      rintro e w' ⟨v, rfl, hv, rfl⟩
      have HV := Lib.hid hv
      clear hv
      go_wp2_with fail
      go_ret
      exact ⟨v, _, rfl, HV.out, hle, hcod, hex⟩

end Go.Proofs.YtjpjnbgfodlkcaaGreatDoor
