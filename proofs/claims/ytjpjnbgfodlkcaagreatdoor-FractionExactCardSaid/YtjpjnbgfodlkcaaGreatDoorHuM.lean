/- The walk of the statement on all functions of fractions (begun). -/
import Derived.Test.YtjpjnbgfodlkcaaGreatDoorGAL
import Derived.Test.YtjpjnbgfodlkcaaGreatDoorHdM
import Derived.Test.YtjpjnbgfodlkcaaGreatDoorGAN
import Derived.Test.YtjpjnbgfodlkcaaGreatDoorHqM
import Derived.Test.YtjpjnbgfodlkcaaGreatDoorGAV
import Derived.Test.YtjpjnbgfodlkcaaGreatDoorHgM
import Derived.Test.YtjpjnbgfodlkcaaGreatDoorHkM
import Derived.Test.YtjpjnbgfodlkcaaGreatDoorGAU
import Derived.Test.YtjpjnbgfodlkcaaGreatDoorGAQ
import Derived.Test.YtjpjnbgfodlkcaaGreatDoorGAR
import Derived.WalkKit
import Derived.WalkSpells
import Derived.WalkLawsBesides
import Derived.WalkSmall
import Derived.Handy
import Derived.BigQuiet
import Derived.Deep.QuietTactic
import Derived.Deep.RegionHeld3
import Derived.Deep.DeepFit
import Derived.Below
import Derived.Lib.Hide
import Derived.Lib.QuietBelow
import Derived.Deep.DeepCutAuto
import Derived.Laws.BytesArg
import Derived.Laws.IdiomStrings
namespace Go.Proofs.YtjpjnbgfodlkcaaGreatDoor
open Go Go.RowKit Go.Sort
set_option maxRecDepth 100000
set_option linter.unusedVariables false
/-- the drawn fractions and the given one lie in their blocks -/
structure XSt (w0 W : World) (b pa : Nat) (r1 r2 r3 a1 a2 a3 b1 b2 b3 : Value) (X Y : Rat) : Prop where
  cR : C3 W w0.heap.size r1 r2 r3
  cA : C3 W pa a1 a2 a3
  cB : C3 W (pa + 1) b1 b2 b3
  fA : Fra W (.agg #[a1, a2, a3]) X
  fB : Fra W (.agg #[b1, b2, b3]) Y
  G : Gr w0 W
  hc : Cod w0.heap.size W b
  hb : w0.heap.size < b
  hp : b < pa
theorem XSt.gr {w0 W W' : World} {b pa : Nat} {r1 r2 r3 a1 a2 a3 b1 b2 b3 : Value} {X Y : Rat} (h : XSt w0 W b pa r1 r2 r3 a1 a2 a3 b1 b2 b3 X Y) (g : Gr W W') : XSt w0 W' b pa r1 r2 r3 a1 a2 a3 b1 b2 b3 X Y :=
  ⟨h.cR.gr g, h.cA.gr g, h.cB.gr g, h.fA.gr g, h.fB.gr g, h.G.step g, h.hc.gr g, h.hb, h.hp⟩
theorem Fra.fill {w : World} {r : Nat} {b : Bool} {a1 a2 : Option Addr} {n1 n2 k1 k2 : Nat} (c : C3 w r (.bool b) (.slice a1 n1 k1) (.slice a2 n2 k2)) (b' : Bool) (p1 p2 : Option Addr) (m1 m2 j1 j2 : Nat) {v : Value} {X : Rat} (h : Fra w v X) :
    Fra (((w.setCell ⟨r, 0, none⟩ (.bool b')).setCell ⟨r, 1, none⟩ (.slice p1 m1 j1)).setCell ⟨r, 2, none⟩ (.slice p2 m2 j2)) v X := by
  obtain ⟨x, vn, vd, N, D, e, h1, h2, h3⟩ := h
  exact ⟨x, vn, vd, N, D, e, (c.fill b' p1 p2 m1 m2 j1 j2).2 h1, (c.fill b' p1 p2 m1 m2 j1 j2).2 h2, h3⟩
theorem FV.fill {w : World} {r : Nat} {b : Bool} {a1 a2 : Option Addr} {n1 n2 k1 k2 : Nat} (c : C3 w r (.bool b) (.slice a1 n1 k1) (.slice a2 n2 k2)) (b' : Bool) (p1 p2 : Option Addr) (m1 m2 j1 j2 : Nat) {v : Value} {x : Bool} {A B : Nat} (h : FV w v x A B) :
    FV (((w.setCell ⟨r, 0, none⟩ (.bool b')).setCell ⟨r, 1, none⟩ (.slice p1 m1 j1)).setCell ⟨r, 2, none⟩ (.slice p2 m2 j2)) v x A B := by
  obtain ⟨vn, vd, e, h1, h2⟩ := h
  exact ⟨vn, vd, e, (c.fill b' p1 p2 m1 m2 j1 j2).2 h1, (c.fill b' p1 p2 m1 m2 j1 j2).2 h2⟩
theorem C3.past {w : World} {r s : Nat} {x y z : Value} (h : C3 w r x y z) (hs : r ≠ s) (u v t : Value) : C3 (((w.setCell ⟨s, 0, none⟩ u).setCell ⟨s, 1, none⟩ v).setCell ⟨s, 2, none⟩ t) r x y z :=
  ((h.other u hs).other v hs).other t hs
theorem XSt.fill {w0 W : World} {b pa : Nat} {r1 r2 r3 a1 a2 a3 b1 b2 b3 : Value} {X Y : Rat} (h : XSt w0 W b pa r1 r2 r3 a1 a2 a3 b1 b2 b3 X Y) {q : Nat} {x : Bool} {e1 e2 : Option Addr} {n1 n2 k1 k2 : Nat} (c : C3 W q (.bool x) (.slice e1 n1 k1) (.slice e2 n2 k2)) (hq : pa + 1 < q) (b' : Bool) (p1 p2 : Option Addr) (m1 m2 j1 j2 : Nat) :
    XSt w0 (((W.setCell ⟨q, 0, none⟩ (.bool b')).setCell ⟨q, 1, none⟩ (.slice p1 m1 j1)).setCell ⟨q, 2, none⟩ (.slice p2 m2 j2)) b pa r1 r2 r3 a1 a2 a3 b1 b2 b3 X Y := by
  have hb := h.hb
  have hp := h.hp
  exact ⟨h.cR.past (by omega) _ _ _, h.cA.past (by omega) _ _ _, h.cB.past (by omega) _ _ _, h.fA.fill c _ _ _ _ _ _ _, h.fB.fill c _ _ _ _ _ _ _, C3.three h.G (by omega) _ _ _,
    ((h.hc.set q 0 (by omega) (by omega) _).set q 1 (by omega) (by omega) _).set q 2 (by omega) (by omega) _, hb, hp⟩
theorem add_pair (X Y : Rat) : ∃ (x : Bool) (A B : Nat) (E : Int), (∀ v u w, Fra w v X → Fra w u Y → Calls Tryz.prog 7 #[v, u] w (FPair w x A B E)) ∧ (∀ v u w, Fra w v X → Fra w u Y → Calls Tryz.prog 8 #[v, u] w (FPair w x A B E)) :=
  ⟨_, _, _, _, fun v u w ha hb => (fadd_any v u w ha hb).mono fun _ _ h => h.pair, fun v u w ha hb => (rfadd_any v u w ha hb).mono fun _ _ h => h.pair⟩
theorem sub_pair (X Y : Rat) : ∃ (x : Bool) (A B : Nat) (E : Int), (∀ v u w, Fra w v X → Fra w u Y → Calls Tryz.prog 10 #[v, u] w (FPair w x A B E)) ∧ (∀ v u w, Fra w v X → Fra w u Y → Calls Tryz.prog 11 #[v, u] w (FPair w x A B E)) :=
  ⟨_, _, _, _, fun v u w ha hb => (fsub_any v u w ha hb).mono fun _ _ h => h.pair, fun v u w ha hb => (rfsub_any v u w ha hb).mono fun _ _ h => h.pair⟩
theorem mul_pair (X Y : Rat) : ∃ (x : Bool) (A B : Nat) (E : Int), (∀ v u w, Fra w v X → Fra w u Y → Calls Tryz.prog 12 #[v, u] w (FPair w x A B E)) ∧ (∀ v u w, Fra w v X → Fra w u Y → Calls Tryz.prog 13 #[v, u] w (FPair w x A B E)) :=
  ⟨_, _, _, _, fun v u w ha hb => (fmul_any v u w ha hb).mono fun _ _ h => h.pair, fun v u w ha hb => (rfmul_any v u w ha hb).mono fun _ _ h => h.pair⟩
theorem div_pair (X Y : Rat) : ∃ (x : Bool) (A B : Nat) (E : Int), (∀ v u w, Fra w v X → Fra w u Y → Calls Tryz.prog 14 #[v, u] w (FPair w x A B E)) ∧ (∀ v u w, Fra w v X → Fra w u Y → Calls Tryz.prog 15 #[v, u] w (FPair w x A B E)) := by
  by_cases h0 : Y = 0
  · subst h0
    exact ⟨_, _, _, _, fun v u w ha hb => (fdiv_zero v u w ha hb).mono fun _ _ h => FPair.err h.1 h.2, fun v u w ha hb => (rfdiv_zero v u w ha hb).mono fun _ _ h => FPair.err h.1 h.2⟩
  · exact ⟨_, _, _, _, fun v u w ha hb => (fdiv_any v u w ha hb h0).mono fun _ _ h => h.pair, fun v u w ha hb => (rfdiv_any v u w ha hb h0).mono fun _ _ h => h.pair⟩
theorem from_pair (n d : Int) (n0 : -9223372036854775808 ≤ n) (n1 : n ≤ 9223372036854775807) (d0 : -9223372036854775808 ≤ d) (d1 : d ≤ 9223372036854775807) : ∃ (x : Bool) (A B : Nat) (E : Int), (∀ w, Calls Tryz.prog 16 #[.int .i64 n, .int .i64 d] w (FPair w x A B E)) ∧ (∀ w, Calls Tryz.prog 17 #[.int .i64 n, .int .i64 d] w (FPair w x A B E)) := by
  by_cases h0 : d = 0
  · subst h0
    exact ⟨_, _, _, _, fun w => (ffrom_zero n w).mono fun _ _ h => FPair.err h.1 h.2, fun w => (rffrom_zero n w).mono fun _ _ h => FPair.err h.1 h.2⟩
  · exact ⟨_, _, _, _, fun w => (ffrom_any n d w n0 n1 d0 d1 h0).mono fun _ _ h => h.pair, fun w => (rffrom_any n d w n0 n1 d0 d1 h0).mono fun _ _ h => h.pair⟩
theorem FlRes.pick (F : Int) : ∃ f E : Int, ∀ {w : World} {e : Ending} {w' : World}, FlRes w F e w' → e = .returned (.tuple #[.int .i64 f, .int .i64 E]) ∧ Gr w w' := by
  by_cases h : F.natAbs ≤ 4611686018427387904
  · refine ⟨F, 0, fun ⟨z, er, he, hc, hg⟩ => ?_⟩
    rcases hc with ⟨_, rfl, rfl⟩ | ⟨h2, _, _⟩
    · exact ⟨he, hg⟩
    · omega
  · refine ⟨0, 1, fun ⟨z, er, he, hc, hg⟩ => ?_⟩
    rcases hc with ⟨h2, _, _⟩ | ⟨_, rfl, rfl⟩
    · omega
    · exact ⟨he, hg⟩
theorem fvalid_fra {X : Rat} (v : Value) (w : World) (h : Fra w v X) : Calls Tryz.prog 29 #[v] w fun e w' => e = .returned (.bool true) ∧ Gr w w' := by
  obtain ⟨x, vn, vd, N, D, rfl, h1, h2, h3, h4, h5, h6, -⟩ := h
  exact fvalid_yes x vn vd w h1 h2 h3 h4 h5 h6
theorem conv_bytes (l : List UInt8) (w : World) : ∃ (cap : Nat) (w' : World), (convert 9 22 (.string (str l))).run Tryz.prog w = .ok (.slice (some ⟨w.heap.size, 0, none⟩) l.length cap) w' ∧ Gr w w' ∧ w.heap.size < w'.heap.size ∧ l.length ≤ cap ∧
    (∀ j u, ((l.map fun c : UInt8 => (c.toNat : Int)).map (Value.int .u8))[j]? = some u → w'.cell? ((⟨w.heap.size, 0, none⟩ : Addr).add j) = some u) := by
  have h := run_bytes_of_string (P := Tryz.prog) w 9 22 5 (str l) Tryz.underlying9 Tryz.underlying22 Tryz.underlying5
  rw [str_size] at h
  refine ⟨_, _, h, (Gr.drew (Gr.refl _)).alloc _, by simp, grownCap_ge _ _ _ _, ?_⟩
  intro j u hj
  rw [List.getElem?_map, List.getElem?_map] at hj
  cases hc : l[j]? with
  | none => rw [hc] at hj; cases hj
  | some c =>
    rw [hc] at hj
    obtain rfl := Option.some.inj hj
    obtain ⟨hjl, hjc⟩ := List.getElem?_eq_some_iff.1 hc
    have hb := bytesRow_at (str l) (grownCap w l.length 0 5) j (by simpa [str] using hjl)
    have hn : ∀ (o : Obj), (w.drew.alloc o).heap[w.heap.size]? = some o := fun o => by
      show (w.heap.push o)[w.heap.size]? = _
      simp
    have hb2 : (bytesRow (str l) (grownCap w l.length 0 5))[j]? = some (.int .u8 (c.toNat : Int)) := hb.trans (by simp [str, hjc])
    rw [show (⟨w.heap.size, 0, none⟩ : Addr).add j = ⟨w.heap.size, j, none⟩ by unfold Addr.add; split <;> simp_all]
    simp only [World.cell?, hn]
    simp [hb2]
theorem conv_str {w : World} {base : Nat} {v : Value} {ys : List Int} (h : w.ownsRow base 5 1 v ys.length (ys.map (Value.int .u8))) :
    ∃ S : ByteArray, S.size = ys.length ∧ ∀ w', Gr w w' → (convert 22 9 v).run Tryz.prog w' = .ok (.string S) w' := by
  rcases h.2 with ⟨rfl, h0⟩ | ⟨g, cap, cur, rfl, -, hh, -⟩
  · exact ⟨ByteArray.empty, by rw [h0]; rfl, fun w' _ => run_convert_bytes_nil w' _ _ Tryz.underlying22 Tryz.underlying5 0 0 _ Tryz.underlying9⟩
  · refine ⟨strOfNums ys, by rw [strOfNums_size], fun w' g' => run_convert_bytes_arg w' _ _ Tryz.underlying22 Tryz.underlying5 g 0 ys.length cap ys rfl ?_ _ Tryz.underlying9⟩
    intro i hi
    have hc := h.cellAt i (by omega)
    rw [List.getElem?_map, List.getElem?_eq_getElem hi] at hc
    rw [Nat.zero_add, (Gr.cells g').1 g i (World.block_lt_of_cell? w _ hc), hc]
    simp [List.getD, List.getElem?_eq_getElem hi]
theorem spoilt_n {B : Nat} (b k m cap : Nat) (xs : List Int) (w : World) (h : Cod B w b) (hm : m = xs.length) (hne : 0 < m) (hl : m ≤ 3000) (hcap : m ≤ cap)
    (hrow : ∀ j u, (xs.map (Value.int .u8))[j]? = some u → w.cell? ((⟨k, 0, none⟩ : Addr).add j) = some u) (hkb : k ≠ b) (hk : k < w.heap.size) (hx : ∀ y ∈ xs, 0 ≤ y ∧ y < 256) :
    Calls Tryz.prog 31 #[.pointer (some ⟨b, 0, none⟩), .slice (some ⟨k, 0, none⟩) m cap] w (SpPostB b m w) := by
  subst hm; exact spoilt_any b k cap xs w h hne hl hcap hrow hkb hk hx
theorem mgr {w w' : World} (h : ∃ m : Int, w.cell? ⟨0, 0, none⟩ = some (.int .i64 m)) (g : Gr w w') : ∃ m : Int, w'.cell? ⟨0, 0, none⟩ = some (.int .i64 m) := by
  obtain ⟨m, h⟩ := h
  exact ⟨m, by rw [(Gr.cells g).1 _ 0 (World.block_lt_of_cell? w _ h)]; exact h⟩
theorem parse_pair (t : ByteArray) (h : t.size ≤ 5000) : ∃ (x : Bool) (A B : Nat) (E : Int),
    (∀ W, (∃ m : Int, W.cell? ⟨0, 0, none⟩ = some (.int .i64 m)) → Calls Tryz.prog 32 #[.string t] W (FPair W x A B E)) ∧
    (∀ W, Calls Tryz.prog 33 #[.string t] W (FPair W x A B E)) := by
  obtain ⟨l, rfl⟩ : ∃ l, t = str l := ⟨_, (str_of t).symm⟩
  rw [str_size] at h
  exact ⟨_, _, _, _, fun W hm => (fparse_any l W (by omega) hm).mono fun _ _ h => h.pair, fun W => (rfparse_any l W (by omega)).mono fun _ _ h => h.pair⟩
theorem ftext_len {r : Rat} (hb : Bd 64 r) : 0 < (ftext r).length ∧ (ftext r).length ≤ 1400 := by
  obtain ⟨l1, l2⟩ := hb
  have s1 := dd_short l1 (by omega)
  have s2 := dd_short l2 (by omega)
  have p : 0 < (Lib.decDigits r.num.natAbs).length := by
    unfold Lib.decDigits; split <;> simp
  unfold ftext
  rw [List.length_append, List.length_append]
  split <;> split <;> simp <;> omega
set_option maxHeartbeats 4000000 in
theorem exact_head (sv : Value) (len : Nat) (rb : Bool) (an ad : Option Addr) (ln cn ld cd : Nat) (n d : Int) (l : List UInt8) (w : World) (ht : Tab w) (hm : ∃ m : Int, w.cell? ⟨0, 0, none⟩ = some (.int .i64 m)) (hl : len ≤ 9223372036854775807) (hb : BytesV w.heap.size w sv len) (n0 : -9223372036854775808 ≤ n) (n1 : n ≤ 9223372036854775807) (d0 : -9223372036854775808 ≤ d) (d1 : d ≤ 9223372036854775807) (lR mR : List Int) (hr1 : RdI w (.slice an ln cn) lR) (hr2 : RdI w (.slice ad ld cd) mR) (hbig : ln ≤ 100 ∧ ld ≤ 100 ∧ l.length ≤ 300) :
    Calls Tryz.prog 3 #[sv, .agg #[.bool rb, .slice an ln cn, .slice ad ld cd], .int .i64 n, .int .i64 d, .string (str l)] w fun e w' => e = .returned (.bool true) ∧ Gr w w' := by
  have HT := Lib.hid ht
  have HT0 := Lib.hid ht
  have HM := Lib.hid hm
  have HR1 := Lib.hid hr1
  have HR2 := Lib.hid hr2
  obtain ⟨vv, hvv⟩ : ∃ vv, vv = fvr rb lR mR := ⟨_, rfl⟩
  have HV := Lib.hid hvv
  clear ht hm hr1 hr2 hvv
  obtain ⟨b1, b2, b3⟩ := hbig
  have u1 : decide ((100 : Int) < (ln : Int)) = false := by rw [decide_eq_false_iff_not]; omega
  have u2 : decide ((100 : Int) < (ld : Int)) = false := by rw [decide_eq_false_iff_not]; omega
  have u3 : decide ((300 : Int) < ((str l).size : Int)) = false := by rw [decide_eq_false_iff_not, str_size]; omega
  have hg0 : Gr w (w.alloc (.cells #[.bool rb, .slice an ln cn, .slice ad ld cd] 26)) := Gr.alloc (Gr.refl _) _
  have cR := C3.new w (.bool rb) (.slice an ln cn) (.slice ad ld cd) 26 w.heap.size rfl
  have hb0 := hb.gr hg0
  have HT := Lib.hid (HT.out.gr hg0)
  go_enter Tryz.func3, Tryz.ntmps3
  obtain ⟨r0, r1, r2, -, -, -, -, -⟩ := id cR
  go_wp2_with (go_at_call 4; refine (fawake_any _ HT.out).mono ?_; rintro e w1 ⟨rfl, hg1⟩; clear r0 r1 r2; have cR := cR.gr hg1; obtain ⟨r0, r1, r2, -, -, -, -, -⟩ := id cR)
  refine (new_any sv len 200 _ (by omega) hl (hb0.gr hg1)).mono ?_
  rintro e w2 ⟨b, rfl, hbe, hc2, hg2⟩
  have hbw : w.heap.size < b := by have h1 := Gr.size hg1; simp at h1; omega
  have hG2 : Gr w w2 := (hg0.step hg1).step hg2
  have cR := cR.gr hg2
  clear hbe hb hb0 hg0 r0 r1 r2
  go_wp2_with fail
  refine (frac_any b 4 _ hc2 (Gr.size hG2) (by omega) (by omega)).mono ?_
  rintro e w3 ⟨bx, ax1, ax2, nx1, nx2, cx1, cx2, X, rfl, hx, dX, hc3, he3⟩
  have hG3 : Gr w w3 := Ex.gr hG2 (by omega) he3
  have cR := cR.ex he3 (by omega)
  go_wp2_with fail
  refine (frac_any b 4 _ hc3 (Gr.size hG3) (by omega) (by omega)).mono ?_
  rintro e w4 ⟨by', ay1, ay2, ny1, ny2, cy1, cy2, Y, rfl, hy, dY, hc4, he4⟩
  have hG4 : Gr w w4 := Ex.gr hG3 (by omega) he4
  have cR := cR.ex he4 (by omega)
  have hX4 := hx.ex he4
  have hS : XSt w ((w4.alloc (.cells #[.bool bx, .slice ax1 nx1 cx1, .slice ax2 nx2 cx2] 26)).alloc (.cells #[.bool by', .slice ay1 ny1 cy1, .slice ay2 ny2 cy2] 26)) b w4.heap.size (.bool rb) (.slice an ln cn) (.slice ad ld cd) (.bool bx) (.slice ax1 nx1 cx1) (.slice ax2 nx2 cx2) (.bool by') (.slice ay1 ny1 cy1) (.slice ay2 ny2 cy2) X Y := by
    have g46 : Gr w4 ((w4.alloc (.cells #[.bool bx, .slice ax1 nx1 cx1, .slice ax2 nx2 cx2] 26)).alloc (.cells #[.bool by', .slice ay1 ny1 cy1, .slice ay2 ny2 cy2] 26)) := (Gr.alloc (Gr.refl _) _).alloc _
    exact ⟨cR.gr g46, (C3.new w4 _ _ _ _ w4.heap.size rfl).gr (Gr.alloc (Gr.refl _) _), C3.new _ _ _ _ _ _ (by simp), (FraP.fra hX4).gr g46, (FraP.fra hy).gr g46, hG4.step g46, hc4.gr g46, hbw, hc4.lt⟩
  clear hG2 hG3 hG4 he3 he4 hc2 hc3 hc4 hx hy hX4 cR hg1 hg2
  go_wp2_with fail
  generalize (w4.alloc (.cells #[.bool bx, .slice ax1 nx1 cx1, .slice ax2 nx2 cx2] 26)).alloc (.cells #[.bool by', .slice ay1 ny1 cy1, .slice ay2 ny2 cy2] 26) = w6 at *
  generalize w4.heap.size = pa at *
  obtain ⟨y1, A1, B1, E1, P1, Q1⟩ := add_pair X Y
  obtain ⟨p0, p1, p2, -, -, -, -, -⟩ := hS.cA
  obtain ⟨q0, q1, q2, -, -, -, -, -⟩ := hS.cB
  go_wp2_with fail
  clear p0 p1 p2 q0 q1 q2
  refine (P1 _ _ _ hS.fA hS.fB).mono ?_
  rintro e wa ⟨va, rfl, hv, lA, lB, hg⟩
  replace hS := hS.gr hg
  clear hg
  obtain ⟨vn, vd, rfl, hn, hd⟩ := hv
  obtain ⟨s1wa, k1wa, rfl⟩ := num_slice hn
  obtain ⟨s2wa, k2wa, rfl⟩ := num_slice hd
  have hv : FV wa (.agg #[.bool y1, .slice s1wa (nd A1).length k1wa, .slice s2wa (nd B1).length k2wa]) y1 A1 B1 := ⟨_, _, rfl, hn, hd⟩
  clear hn hd
  have hqx : pa + 1 < wa.heap.size := hS.cB.lt
  have hg : Gr wa (wa.alloc (.cells #[.bool y1, .slice s1wa (nd A1).length k1wa, .slice s2wa (nd B1).length k2wa] 26)) := Gr.alloc (Gr.refl _) _
  have cX := C3.new wa (.bool y1) (.slice s1wa (nd A1).length k1wa) (.slice s2wa (nd B1).length k2wa) 26 wa.heap.size rfl
  replace hS := hS.gr hg
  have VX := Lib.hid (hv.gr hg)
  clear hv hg
  obtain ⟨p0, p1, p2, -, -, -, -, -⟩ := hS.cA
  obtain ⟨q0, q1, q2, -, -, -, -, -⟩ := hS.cB
  go_wp2_with fail
  clear p0 p1 p2 q0 q1 q2
  generalize wa.alloc (.cells #[.bool y1, .slice s1wa (nd A1).length k1wa, .slice s2wa (nd B1).length k2wa] 26) = wa' at *
  generalize wa.heap.size = px at *
  refine (Q1 _ _ _ hS.fA hS.fB).mono ?_
  rintro e wb ⟨vb, rfl, hv, -, -, hg⟩
  replace hS := hS.gr hg
  replace cX := cX.gr hg
  have VX := Lib.hid (VX.out.gr hg)
  clear hg
  obtain ⟨vn, vd, rfl, hn, hd⟩ := hv
  obtain ⟨s1wb, k1wb, rfl⟩ := num_slice hn
  obtain ⟨s2wb, k2wb, rfl⟩ := num_slice hd
  have hv : FV wb (.agg #[.bool y1, .slice s1wb (nd A1).length k1wb, .slice s2wb (nd B1).length k2wb]) y1 A1 B1 := ⟨_, _, rfl, hn, hd⟩
  clear hn hd
  have hxy : px < wb.heap.size := cX.lt
  have hqy : pa + 1 < wb.heap.size := by omega
  have hg : Gr wb (wb.alloc (.cells #[.bool y1, .slice s1wb (nd A1).length k1wb, .slice s2wb (nd B1).length k2wb] 26)) := Gr.alloc (Gr.refl _) _
  have cY := C3.new wb (.bool y1) (.slice s1wb (nd A1).length k1wb) (.slice s2wb (nd B1).length k2wb) 26 wb.heap.size rfl
  replace hS := hS.gr hg
  replace cX := cX.gr hg
  have VX := Lib.hid (VX.out.gr hg)
  have VY := Lib.hid (hv.gr hg)
  clear hv hg
  obtain ⟨p0, p1, p2, -, -, -, -, -⟩ := id cX
  obtain ⟨q0, q1, q2, -, -, -, -, -⟩ := id cY
  go_wp2_with fail
  clear p0 p1 p2 q0 q1 q2
  refine (lsame_fv _ _ E1 _ VX.out VY.out lA lB).mono ?_
  rintro e wc ⟨rfl, hg⟩
  replace hS := hS.gr hg
  replace cX := cX.gr hg
  replace cY := cY.gr hg
  clear hg VX VY lA lB
  generalize wb.heap.size = py at *
  obtain ⟨y2, A2, B2, E2, P2, Q2⟩ := sub_pair X Y
  obtain ⟨p0, p1, p2, -, -, -, -, -⟩ := hS.cA
  obtain ⟨q0, q1, q2, -, -, -, -, -⟩ := hS.cB
  go_wp2_with fail
  clear p0 p1 p2 q0 q1 q2
  refine (P2 _ _ _ hS.fA hS.fB).mono ?_
  rintro e wa2 ⟨va, rfl, hv, lA, lB, hg⟩
  replace hS := hS.gr hg
  replace cX := cX.gr hg
  replace cY := cY.gr hg
  clear hg
  obtain ⟨vn, vd, rfl, hn, hd⟩ := hv
  obtain ⟨s1wa2, k1wa2, rfl⟩ := num_slice hn
  obtain ⟨s2wa2, k2wa2, rfl⟩ := num_slice hd
  have hv : FV wa2 (.agg #[.bool y2, .slice s1wa2 (nd A2).length k1wa2, .slice s2wa2 (nd B2).length k2wa2]) y2 A2 B2 := ⟨_, _, rfl, hn, hd⟩
  clear hn hd
  obtain ⟨x0, x1, x2, f0, f1, f2, flt, -⟩ := id cX
  replace hS := hS.fill cX hqx y2 s1wa2 s2wa2 (nd A2).length (nd B2).length k1wa2 k2wa2
  have VX := Lib.hid (hv.fill cX y2 s1wa2 s2wa2 (nd A2).length (nd B2).length k1wa2 k2wa2)
  replace cY := cY.past (s := px) (by omega) (.bool y2) (.slice s1wa2 (nd A2).length k1wa2) (.slice s2wa2 (nd B2).length k2wa2)
  replace cX := (cX.fill y2 s1wa2 s2wa2 (nd A2).length (nd B2).length k1wa2 k2wa2).1
  clear hv
  obtain ⟨p0, p1, p2, -, -, -, -, -⟩ := hS.cA
  obtain ⟨q0, q1, q2, -, -, -, -, -⟩ := hS.cB
  go_wp2_with fail
  clear p0 p1 p2 q0 q1 q2
  clear x0 x1 x2 f0 f1 f2 flt
  generalize ((wa2.setCell ⟨px, 0, none⟩ (.bool y2)).setCell ⟨px, 1, none⟩ (.slice s1wa2 (nd A2).length k1wa2)).setCell ⟨px, 2, none⟩ (.slice s2wa2 (nd B2).length k2wa2) = wa' at *
  refine (Q2 _ _ _ hS.fA hS.fB).mono ?_
  rintro e wb2 ⟨vb, rfl, hv, -, -, hg⟩
  replace hS := hS.gr hg
  replace cX := cX.gr hg
  replace cY := cY.gr hg
  have VX := Lib.hid (VX.out.gr hg)
  clear hg
  obtain ⟨vn, vd, rfl, hn, hd⟩ := hv
  obtain ⟨s1wb2, k1wb2, rfl⟩ := num_slice hn
  obtain ⟨s2wb2, k2wb2, rfl⟩ := num_slice hd
  have hv : FV wb2 (.agg #[.bool y2, .slice s1wb2 (nd A2).length k1wb2, .slice s2wb2 (nd B2).length k2wb2]) y2 A2 B2 := ⟨_, _, rfl, hn, hd⟩
  clear hn hd
  obtain ⟨x0, x1, x2, f0, f1, f2, flt, -⟩ := id cY
  replace hS := hS.fill cY hqy y2 s1wb2 s2wb2 (nd A2).length (nd B2).length k1wb2 k2wb2
  have VX := Lib.hid (VX.out.fill cY y2 s1wb2 s2wb2 (nd A2).length (nd B2).length k1wb2 k2wb2)
  have VY := Lib.hid (hv.fill cY y2 s1wb2 s2wb2 (nd A2).length (nd B2).length k1wb2 k2wb2)
  replace cX := cX.past (s := py) (by omega) (.bool y2) (.slice s1wb2 (nd A2).length k1wb2) (.slice s2wb2 (nd B2).length k2wb2)
  replace cY := (cY.fill y2 s1wb2 s2wb2 (nd A2).length (nd B2).length k1wb2 k2wb2).1
  clear hv
  obtain ⟨p0, p1, p2, -, -, -, -, -⟩ := id cX
  obtain ⟨q0, q1, q2, -, -, -, -, -⟩ := id cY
  go_wp2_with fail
  clear p0 p1 p2 q0 q1 q2
  refine (lsame_fv _ _ E2 _ VX.out VY.out lA lB).mono ?_
  rintro e wc2 ⟨rfl, hg⟩
  replace hS := hS.gr hg
  replace cX := cX.gr hg
  replace cY := cY.gr hg
  clear hg VX VY lA lB
  clear x0 x1 x2 f0 f1 f2 flt
  obtain ⟨y3, A3, B3, E3, P3, Q3⟩ := mul_pair X Y
  obtain ⟨p0, p1, p2, -, -, -, -, -⟩ := hS.cA
  obtain ⟨q0, q1, q2, -, -, -, -, -⟩ := hS.cB
  go_wp2_with fail
  clear p0 p1 p2 q0 q1 q2
  refine (P3 _ _ _ hS.fA hS.fB).mono ?_
  rintro e wa3 ⟨va, rfl, hv, lA, lB, hg⟩
  replace hS := hS.gr hg
  replace cX := cX.gr hg
  replace cY := cY.gr hg
  clear hg
  obtain ⟨vn, vd, rfl, hn, hd⟩ := hv
  obtain ⟨s1wa3, k1wa3, rfl⟩ := num_slice hn
  obtain ⟨s2wa3, k2wa3, rfl⟩ := num_slice hd
  have hv : FV wa3 (.agg #[.bool y3, .slice s1wa3 (nd A3).length k1wa3, .slice s2wa3 (nd B3).length k2wa3]) y3 A3 B3 := ⟨_, _, rfl, hn, hd⟩
  clear hn hd
  obtain ⟨x0, x1, x2, f0, f1, f2, flt, -⟩ := id cX
  replace hS := hS.fill cX hqx y3 s1wa3 s2wa3 (nd A3).length (nd B3).length k1wa3 k2wa3
  have VX := Lib.hid (hv.fill cX y3 s1wa3 s2wa3 (nd A3).length (nd B3).length k1wa3 k2wa3)
  replace cY := cY.past (s := px) (by omega) (.bool y3) (.slice s1wa3 (nd A3).length k1wa3) (.slice s2wa3 (nd B3).length k2wa3)
  replace cX := (cX.fill y3 s1wa3 s2wa3 (nd A3).length (nd B3).length k1wa3 k2wa3).1
  clear hv
  obtain ⟨p0, p1, p2, -, -, -, -, -⟩ := hS.cA
  obtain ⟨q0, q1, q2, -, -, -, -, -⟩ := hS.cB
  go_wp2_with fail
  clear p0 p1 p2 q0 q1 q2
  clear x0 x1 x2 f0 f1 f2 flt
  generalize ((wa3.setCell ⟨px, 0, none⟩ (.bool y3)).setCell ⟨px, 1, none⟩ (.slice s1wa3 (nd A3).length k1wa3)).setCell ⟨px, 2, none⟩ (.slice s2wa3 (nd B3).length k2wa3) = wa' at *
  refine (Q3 _ _ _ hS.fA hS.fB).mono ?_
  rintro e wb3 ⟨vb, rfl, hv, -, -, hg⟩
  replace hS := hS.gr hg
  replace cX := cX.gr hg
  replace cY := cY.gr hg
  have VX := Lib.hid (VX.out.gr hg)
  clear hg
  obtain ⟨vn, vd, rfl, hn, hd⟩ := hv
  obtain ⟨s1wb3, k1wb3, rfl⟩ := num_slice hn
  obtain ⟨s2wb3, k2wb3, rfl⟩ := num_slice hd
  have hv : FV wb3 (.agg #[.bool y3, .slice s1wb3 (nd A3).length k1wb3, .slice s2wb3 (nd B3).length k2wb3]) y3 A3 B3 := ⟨_, _, rfl, hn, hd⟩
  clear hn hd
  obtain ⟨x0, x1, x2, f0, f1, f2, flt, -⟩ := id cY
  replace hS := hS.fill cY hqy y3 s1wb3 s2wb3 (nd A3).length (nd B3).length k1wb3 k2wb3
  have VX := Lib.hid (VX.out.fill cY y3 s1wb3 s2wb3 (nd A3).length (nd B3).length k1wb3 k2wb3)
  have VY := Lib.hid (hv.fill cY y3 s1wb3 s2wb3 (nd A3).length (nd B3).length k1wb3 k2wb3)
  replace cX := cX.past (s := py) (by omega) (.bool y3) (.slice s1wb3 (nd A3).length k1wb3) (.slice s2wb3 (nd B3).length k2wb3)
  replace cY := (cY.fill y3 s1wb3 s2wb3 (nd A3).length (nd B3).length k1wb3 k2wb3).1
  clear hv
  obtain ⟨p0, p1, p2, -, -, -, -, -⟩ := id cX
  obtain ⟨q0, q1, q2, -, -, -, -, -⟩ := id cY
  go_wp2_with fail
  clear p0 p1 p2 q0 q1 q2
  refine (lsame_fv _ _ E3 _ VX.out VY.out lA lB).mono ?_
  rintro e wc3 ⟨rfl, hg⟩
  replace hS := hS.gr hg
  replace cX := cX.gr hg
  replace cY := cY.gr hg
  clear hg VX VY lA lB
  clear x0 x1 x2 f0 f1 f2 flt
  obtain ⟨y4, A4, B4, E4, P4, Q4⟩ := div_pair X Y
  obtain ⟨p0, p1, p2, -, -, -, -, -⟩ := hS.cA
  obtain ⟨q0, q1, q2, -, -, -, -, -⟩ := hS.cB
  go_wp2_with fail
  clear p0 p1 p2 q0 q1 q2
  refine (P4 _ _ _ hS.fA hS.fB).mono ?_
  rintro e wa4 ⟨va, rfl, hv, lA, lB, hg⟩
  replace hS := hS.gr hg
  replace cX := cX.gr hg
  replace cY := cY.gr hg
  clear hg
  obtain ⟨vn, vd, rfl, hn, hd⟩ := hv
  obtain ⟨s1wa4, k1wa4, rfl⟩ := num_slice hn
  obtain ⟨s2wa4, k2wa4, rfl⟩ := num_slice hd
  have hv : FV wa4 (.agg #[.bool y4, .slice s1wa4 (nd A4).length k1wa4, .slice s2wa4 (nd B4).length k2wa4]) y4 A4 B4 := ⟨_, _, rfl, hn, hd⟩
  clear hn hd
  obtain ⟨x0, x1, x2, f0, f1, f2, flt, -⟩ := id cX
  replace hS := hS.fill cX hqx y4 s1wa4 s2wa4 (nd A4).length (nd B4).length k1wa4 k2wa4
  have VX := Lib.hid (hv.fill cX y4 s1wa4 s2wa4 (nd A4).length (nd B4).length k1wa4 k2wa4)
  replace cY := cY.past (s := px) (by omega) (.bool y4) (.slice s1wa4 (nd A4).length k1wa4) (.slice s2wa4 (nd B4).length k2wa4)
  replace cX := (cX.fill y4 s1wa4 s2wa4 (nd A4).length (nd B4).length k1wa4 k2wa4).1
  clear hv
  obtain ⟨p0, p1, p2, -, -, -, -, -⟩ := hS.cA
  obtain ⟨q0, q1, q2, -, -, -, -, -⟩ := hS.cB
  go_wp2_with fail
  clear p0 p1 p2 q0 q1 q2
  clear x0 x1 x2 f0 f1 f2 flt
  generalize ((wa4.setCell ⟨px, 0, none⟩ (.bool y4)).setCell ⟨px, 1, none⟩ (.slice s1wa4 (nd A4).length k1wa4)).setCell ⟨px, 2, none⟩ (.slice s2wa4 (nd B4).length k2wa4) = wa' at *
  refine (Q4 _ _ _ hS.fA hS.fB).mono ?_
  rintro e wb4 ⟨vb, rfl, hv, -, -, hg⟩
  replace hS := hS.gr hg
  replace cX := cX.gr hg
  replace cY := cY.gr hg
  have VX := Lib.hid (VX.out.gr hg)
  clear hg
  obtain ⟨vn, vd, rfl, hn, hd⟩ := hv
  obtain ⟨s1wb4, k1wb4, rfl⟩ := num_slice hn
  obtain ⟨s2wb4, k2wb4, rfl⟩ := num_slice hd
  have hv : FV wb4 (.agg #[.bool y4, .slice s1wb4 (nd A4).length k1wb4, .slice s2wb4 (nd B4).length k2wb4]) y4 A4 B4 := ⟨_, _, rfl, hn, hd⟩
  clear hn hd
  obtain ⟨x0, x1, x2, f0, f1, f2, flt, -⟩ := id cY
  replace hS := hS.fill cY hqy y4 s1wb4 s2wb4 (nd A4).length (nd B4).length k1wb4 k2wb4
  have VX := Lib.hid (VX.out.fill cY y4 s1wb4 s2wb4 (nd A4).length (nd B4).length k1wb4 k2wb4)
  have VY := Lib.hid (hv.fill cY y4 s1wb4 s2wb4 (nd A4).length (nd B4).length k1wb4 k2wb4)
  replace cX := cX.past (s := py) (by omega) (.bool y4) (.slice s1wb4 (nd A4).length k1wb4) (.slice s2wb4 (nd B4).length k2wb4)
  replace cY := (cY.fill y4 s1wb4 s2wb4 (nd A4).length (nd B4).length k1wb4 k2wb4).1
  clear hv
  obtain ⟨p0, p1, p2, -, -, -, -, -⟩ := id cX
  obtain ⟨q0, q1, q2, -, -, -, -, -⟩ := id cY
  go_wp2_with fail
  clear p0 p1 p2 q0 q1 q2
  refine (lsame_fv _ _ E4 _ VX.out VY.out lA lB).mono ?_
  rintro e wc4 ⟨rfl, hg⟩
  replace hS := hS.gr hg
  replace cX := cX.gr hg
  replace cY := cY.gr hg
  clear hg VX VY lA lB
  clear x0 x1 x2 f0 f1 f2 flt
  obtain ⟨y5, A5, B5, E5, P5, Q5⟩ := from_pair n d n0 n1 d0 d1
  obtain ⟨p0, p1, p2, -, -, -, -, -⟩ := hS.cA
  obtain ⟨q0, q1, q2, -, -, -, -, -⟩ := hS.cB
  go_wp2_with fail
  clear p0 p1 p2 q0 q1 q2
  refine (P5 _).mono ?_
  rintro e wa5 ⟨va, rfl, hv, lA, lB, hg⟩
  replace hS := hS.gr hg
  replace cX := cX.gr hg
  replace cY := cY.gr hg
  clear hg
  obtain ⟨vn, vd, rfl, hn, hd⟩ := hv
  obtain ⟨s1wa5, k1wa5, rfl⟩ := num_slice hn
  obtain ⟨s2wa5, k2wa5, rfl⟩ := num_slice hd
  have hv : FV wa5 (.agg #[.bool y5, .slice s1wa5 (nd A5).length k1wa5, .slice s2wa5 (nd B5).length k2wa5]) y5 A5 B5 := ⟨_, _, rfl, hn, hd⟩
  clear hn hd
  obtain ⟨x0, x1, x2, f0, f1, f2, flt, -⟩ := id cX
  replace hS := hS.fill cX hqx y5 s1wa5 s2wa5 (nd A5).length (nd B5).length k1wa5 k2wa5
  have VX := Lib.hid (hv.fill cX y5 s1wa5 s2wa5 (nd A5).length (nd B5).length k1wa5 k2wa5)
  replace cY := cY.past (s := px) (by omega) (.bool y5) (.slice s1wa5 (nd A5).length k1wa5) (.slice s2wa5 (nd B5).length k2wa5)
  replace cX := (cX.fill y5 s1wa5 s2wa5 (nd A5).length (nd B5).length k1wa5 k2wa5).1
  clear hv
  obtain ⟨p0, p1, p2, -, -, -, -, -⟩ := hS.cA
  obtain ⟨q0, q1, q2, -, -, -, -, -⟩ := hS.cB
  go_wp2_with fail
  clear p0 p1 p2 q0 q1 q2
  clear x0 x1 x2 f0 f1 f2 flt
  generalize ((wa5.setCell ⟨px, 0, none⟩ (.bool y5)).setCell ⟨px, 1, none⟩ (.slice s1wa5 (nd A5).length k1wa5)).setCell ⟨px, 2, none⟩ (.slice s2wa5 (nd B5).length k2wa5) = wa' at *
  refine (Q5 _).mono ?_
  rintro e wb5 ⟨vb, rfl, hv, -, -, hg⟩
  replace hS := hS.gr hg
  replace cX := cX.gr hg
  replace cY := cY.gr hg
  have VX := Lib.hid (VX.out.gr hg)
  clear hg
  obtain ⟨vn, vd, rfl, hn, hd⟩ := hv
  obtain ⟨s1wb5, k1wb5, rfl⟩ := num_slice hn
  obtain ⟨s2wb5, k2wb5, rfl⟩ := num_slice hd
  have hv : FV wb5 (.agg #[.bool y5, .slice s1wb5 (nd A5).length k1wb5, .slice s2wb5 (nd B5).length k2wb5]) y5 A5 B5 := ⟨_, _, rfl, hn, hd⟩
  clear hn hd
  obtain ⟨x0, x1, x2, f0, f1, f2, flt, -⟩ := id cY
  replace hS := hS.fill cY hqy y5 s1wb5 s2wb5 (nd A5).length (nd B5).length k1wb5 k2wb5
  have VX := Lib.hid (VX.out.fill cY y5 s1wb5 s2wb5 (nd A5).length (nd B5).length k1wb5 k2wb5)
  have VY := Lib.hid (hv.fill cY y5 s1wb5 s2wb5 (nd A5).length (nd B5).length k1wb5 k2wb5)
  replace cX := cX.past (s := py) (by omega) (.bool y5) (.slice s1wb5 (nd A5).length k1wb5) (.slice s2wb5 (nd B5).length k2wb5)
  replace cY := (cY.fill y5 s1wb5 s2wb5 (nd A5).length (nd B5).length k1wb5 k2wb5).1
  clear hv
  obtain ⟨f6, E6, K6⟩ := FlRes.pick X.floor
  obtain ⟨f7, E7, K7⟩ := FlRes.pick (ceil X)
  obtain ⟨p0, p1, p2, -, -, -, -, -⟩ := hS.cA
  obtain ⟨q0, q1, q2, -, -, -, -, -⟩ := hS.cB
  go_wp2_with fail
  clear p0 p1 p2 q0 q1 q2
  refine (floor_any _ _ hS.fA).mono ?_
  intro e wd h
  obtain ⟨rfl, hg⟩ := (K6 h)
  (try clear h)
  replace hS := hS.gr hg
  replace cX := cX.gr hg
  replace cY := cY.gr hg
  have VX := Lib.hid (VX.out.gr hg)
  have VY := Lib.hid (VY.out.gr hg)
  clear hg
  clear x0 x1 x2 f0 f1 f2 flt
  obtain ⟨p0, p1, p2, -, -, -, -, -⟩ := hS.cA
  obtain ⟨q0, q1, q2, -, -, -, -, -⟩ := hS.cB
  go_wp2_with fail
  clear p0 p1 p2 q0 q1 q2
  refine (rffloor_any _ _ hS.fA).mono ?_
  intro e we h
  obtain ⟨rfl, hg⟩ := (K6 h)
  (try clear h)
  replace hS := hS.gr hg
  replace cX := cX.gr hg
  replace cY := cY.gr hg
  have VX := Lib.hid (VX.out.gr hg)
  have VY := Lib.hid (VY.out.gr hg)
  clear hg
  obtain ⟨p0, p1, p2, -, -, -, -, -⟩ := hS.cA
  obtain ⟨q0, q1, q2, -, -, -, -, -⟩ := hS.cB
  go_wp2_with fail
  clear p0 p1 p2 q0 q1 q2
  refine (ceil_any _ _ hS.fA).mono ?_
  intro e wf h
  obtain ⟨rfl, hg⟩ := (K7 h)
  (try clear h)
  replace hS := hS.gr hg
  replace cX := cX.gr hg
  replace cY := cY.gr hg
  have VX := Lib.hid (VX.out.gr hg)
  have VY := Lib.hid (VY.out.gr hg)
  clear hg
  obtain ⟨p0, p1, p2, -, -, -, -, -⟩ := hS.cA
  obtain ⟨q0, q1, q2, -, -, -, -, -⟩ := hS.cB
  go_wp2_with fail
  clear p0 p1 p2 q0 q1 q2
  refine (rfceil_any _ _ hS.fA).mono ?_
  intro e wg h
  obtain ⟨rfl, hg⟩ := (K7 h)
  (try clear h)
  replace hS := hS.gr hg
  replace cX := cX.gr hg
  replace cY := cY.gr hg
  have VX := Lib.hid (VX.out.gr hg)
  have VY := Lib.hid (VY.out.gr hg)
  clear hg
  obtain ⟨p0, p1, p2, -, -, -, -, -⟩ := hS.cA
  obtain ⟨q0, q1, q2, -, -, -, -, -⟩ := hS.cB
  go_wp2_with fail
  clear p0 p1 p2 q0 q1 q2
  refine (fcompare_any _ _ _ hS.fA hS.fB).mono ?_
  intro e wh h
  obtain ⟨rfl, hg⟩ := h
  (try clear h)
  replace hS := hS.gr hg
  replace cX := cX.gr hg
  replace cY := cY.gr hg
  have VX := Lib.hid (VX.out.gr hg)
  have VY := Lib.hid (VY.out.gr hg)
  clear hg
  obtain ⟨p0, p1, p2, -, -, -, -, -⟩ := hS.cA
  obtain ⟨q0, q1, q2, -, -, -, -, -⟩ := hS.cB
  go_wp2_with fail
  clear p0 p1 p2 q0 q1 q2
  refine (rfcompare_any _ _ _ hS.fA hS.fB).mono ?_
  intro e Wc h
  obtain ⟨rfl, hg⟩ := h
  (try clear h)
  replace hS := hS.gr hg
  replace cX := cX.gr hg
  replace cY := cY.gr hg
  have VX := Lib.hid (VX.out.gr hg)
  have VY := Lib.hid (VY.out.gr hg)
  clear hg
  go_wp2_with fail
  have hD : Gr Wc Wc.drew := Gr.drew (Gr.refl _)
  refine region_plain (fun W' => Gr Wc W') (by kernel_rfl) ?_
  refine take_at 0 (some 192) (v := ?vt0) rfl rfl (by kernel_rfl) (by kernel_rfl) (by kernel_rfl) (by rfl) ?yt0 hD ?tt0
  case yt0 =>
    intro w' hSw
    obtain ⟨q0, q1, q2, -, -, -, -, -⟩ := cX.gr hSw
    go_simp
    (try with_reducible rfl)
  simp only [Act.put, List.setIfInBounds_toArray, List.set_cons_zero, List.set_cons_succ]
  refine take_at 1 (some 193) (v := ?vt1) rfl rfl (by kernel_rfl) (by kernel_rfl) (by kernel_rfl) (by rfl) ?yt1 hD ?tt1
  case yt1 =>
    intro w' hSw
    go_simp
    (try with_reducible rfl)
  simp only [Act.put, List.setIfInBounds_toArray, List.set_cons_zero, List.set_cons_succ]
  refine take_at 2 (some 194) (v := ?vt2) rfl rfl (by kernel_rfl) (by kernel_rfl) (by kernel_rfl) (by rfl) ?yt2 hD ?tt2
  case yt2 =>
    intro w' hSw
    obtain ⟨q0, q1, q2, -, -, -, -, -⟩ := cY.gr hSw
    go_simp
    (try with_reducible rfl)
  simp only [Act.put, List.setIfInBounds_toArray, List.set_cons_zero, List.set_cons_succ]
  refine take_at 3 (some 195) (v := ?vt3) rfl rfl (by kernel_rfl) (by kernel_rfl) (by kernel_rfl) (by rfl) ?yt3 hD ?tt3
  case yt3 =>
    intro w' hSw
    go_simp
    (try with_reducible rfl)
  simp only [Act.put, List.setIfInBounds_toArray, List.set_cons_zero, List.set_cons_succ]
  refine next_at 4 rfl (by kernel_rfl) (by rfl) (fun K hK => ?_)
  go_simp
  refine (lsame_fv _ _ _ _ (VX.out.gr hD) (VY.out.gr hD) lA lB).mono ?_
  rintro e wn4 ⟨rfl, hg⟩
  replace hD := Gr.step hD hg
  refine hK _ _ hD ?_
  clear hK K hg
  refine next_at 5 rfl (by kernel_rfl) (by rfl) (fun K hK => ?_)
  go_simp
  (try simp only [beq_self_eq_true, Bool.not_true])
  refine hK _ _ hD ?_
  clear hK K
  refine next_at 6 rfl (by kernel_rfl) (by rfl) (fun K hK => ?_)
  go_simp
  (try simp only [beq_self_eq_true, Bool.not_true])
  refine hK _ _ hD ?_
  clear hK K
  refine take_at 7 (some 199) (v := ?vt7) rfl rfl (by kernel_rfl) (by kernel_rfl) (by kernel_rfl) (by rfl) ?yt7 hD ?tt7
  case yt7 =>
    intro w' hSw
    go_simp
    (try with_reducible rfl)
  simp only [Act.put, List.setIfInBounds_toArray, List.set_cons_zero, List.set_cons_succ]
  refine take_at 8 (some 200) (v := ?vt8) rfl rfl (by kernel_rfl) (by kernel_rfl) (by kernel_rfl) (by rfl) ?yt8 hD ?tt8
  case yt8 =>
    intro w' hSw
    go_simp
    (try with_reducible rfl)
  simp only [Act.put, List.setIfInBounds_toArray, List.set_cons_zero, List.set_cons_succ]
  refine next_at 9 rfl (by kernel_rfl) (by rfl) (fun K hK => ?_)
  go_simp
  (try simp only [beq_self_eq_true, Bool.not_true])
  refine hK _ _ hD ?_
  clear hK K
  refine next_at 10 rfl (by kernel_rfl) (by rfl) (fun K hK => ?_)
  go_simp
  (try simp only [beq_self_eq_true, Bool.not_true])
  refine hK _ _ hD ?_
  clear hK K
  refine next_at 11 rfl (by kernel_rfl) (by rfl) (fun K hK => ?_)
  go_simp
  (try simp only [beq_self_eq_true, Bool.not_true])
  refine hK _ _ hD ?_
  clear hK K
  refine take_at 12 (some 204) (v := ?vt12) rfl rfl (by kernel_rfl) (by kernel_rfl) (by kernel_rfl) (by rfl) ?yt12 hD ?tt12
  case yt12 =>
    intro w' hSw
    go_simp
    (try with_reducible rfl)
  simp only [Act.put, List.setIfInBounds_toArray, List.set_cons_zero, List.set_cons_succ]
  refine take_at 13 (some 205) (v := ?vt13) rfl rfl (by kernel_rfl) (by kernel_rfl) (by kernel_rfl) (by rfl) ?yt13 hD ?tt13
  case yt13 =>
    intro w' hSw
    go_simp
    (try with_reducible rfl)
  simp only [Act.put, List.setIfInBounds_toArray, List.set_cons_zero, List.set_cons_succ]
  refine next_at 14 rfl (by kernel_rfl) (by rfl) (fun K hK => ?_)
  go_simp
  (try simp only [beq_self_eq_true, Bool.not_true])
  refine hK _ _ hD ?_
  clear hK K
  refine next_at 15 rfl (by kernel_rfl) (by rfl) (fun K hK => ?_)
  go_simp
  (try simp only [beq_self_eq_true, Bool.not_true])
  refine hK _ _ hD ?_
  clear hK K
  refine next_at 16 rfl (by kernel_rfl) (by rfl) (fun K hK => ?_)
  go_simp
  (try simp only [beq_self_eq_true, Bool.not_true])
  refine hK _ _ hD ?_
  clear hK K
  refine take_at 17 (some 209) (v := ?vt17) rfl rfl (by kernel_rfl) (by kernel_rfl) (by kernel_rfl) (by rfl) ?yt17 hD ?tt17
  case yt17 =>
    intro w' hSw
    go_simp
    (try with_reducible rfl)
  simp only [Act.put, List.setIfInBounds_toArray, List.set_cons_zero, List.set_cons_succ]
  refine take_at 18 (some 210) (v := ?vt18) rfl rfl (by kernel_rfl) (by kernel_rfl) (by kernel_rfl) (by rfl) ?yt18 hD ?tt18
  case yt18 =>
    intro w' hSw
    go_simp
    (try with_reducible rfl)
  simp only [Act.put, List.setIfInBounds_toArray, List.set_cons_zero, List.set_cons_succ]
  refine next_at 19 rfl (by kernel_rfl) (by rfl) (fun K hK => ?_)
  go_simp
  (try simp only [beq_self_eq_true, Bool.not_true])
  refine hK _ _ hD ?_
  clear hK K
  refine next_at 20 rfl (by kernel_rfl) (by rfl) (fun K hK => ?_)
  go_simp
  (try simp only [beq_self_eq_true, Bool.not_true])
  refine hK _ _ hD ?_
  clear hK K
  refine next_at 21 rfl (by kernel_rfl) (by rfl) (fun K hK => ?_)
  go_simp
  (try simp only [beq_self_eq_true, Bool.not_true])
  refine hK _ _ hD ?_
  clear hK K
  refine take_at 22 (some 214) (v := ?vt22) rfl rfl (by kernel_rfl) (by kernel_rfl) (by kernel_rfl) (by rfl) ?yt22 hD ?tt22
  case yt22 =>
    intro w' hSw
    go_simp
    (try with_reducible rfl)
  simp only [Act.put, List.setIfInBounds_toArray, List.set_cons_zero, List.set_cons_succ]
  refine take_at 23 (some 215) (v := ?vt23) rfl rfl (by kernel_rfl) (by kernel_rfl) (by kernel_rfl) (by rfl) ?yt23 hD ?tt23
  case yt23 =>
    intro w' hSw
    go_simp
    (try with_reducible rfl)
  simp only [Act.put, List.setIfInBounds_toArray, List.set_cons_zero, List.set_cons_succ]
  refine next_at 24 rfl (by kernel_rfl) (by rfl) (fun K hK => ?_)
  go_simp
  (try simp only [beq_self_eq_true, Bool.not_true])
  refine hK _ _ hD ?_
  clear hK K
  refine next_at 25 rfl (by kernel_rfl) (by rfl) (fun K hK => ?_)
  go_simp
  (try simp only [beq_self_eq_true, Bool.not_true])
  refine hK _ _ hD ?_
  clear hK K
  refine next_at 26 rfl (by kernel_rfl) (by rfl) (fun K hK => ?_)
  go_simp
  (try simp only [beq_self_eq_true, Bool.not_true])
  refine hK _ _ hD ?_
  clear hK K
  refine take_at 27 (some 219) (v := ?vt27) rfl rfl (by kernel_rfl) (by kernel_rfl) (by kernel_rfl) (by rfl) ?yt27 hD ?tt27
  case yt27 =>
    intro w' hSw
    go_simp
    (try with_reducible rfl)
  simp only [Act.put, List.setIfInBounds_toArray, List.set_cons_zero, List.set_cons_succ]
  refine take_at 28 (some 220) (v := ?vt28) rfl rfl (by kernel_rfl) (by kernel_rfl) (by kernel_rfl) (by rfl) ?yt28 hD ?tt28
  case yt28 =>
    intro w' hSw
    go_simp
    (try with_reducible rfl)
  simp only [Act.put, List.setIfInBounds_toArray, List.set_cons_zero, List.set_cons_succ]
  refine next_at 29 rfl (by kernel_rfl) (by rfl) (fun K hK => ?_)
  go_simp
  (try simp only [beq_self_eq_true, Bool.not_true])
  refine hK _ _ hD ?_
  clear hK K
  refine next_at 30 rfl (by kernel_rfl) (by rfl) (fun K hK => ?_)
  go_simp
  (try simp only [beq_self_eq_true, Bool.not_true])
  refine hK _ _ hD ?_
  clear hK K
  refine next_at 31 rfl (by kernel_rfl) (by rfl) (fun K hK => ?_)
  go_simp
  (try simp only [beq_self_eq_true, Bool.not_true])
  refine hK _ _ hD ?_
  clear hK K
  refine take_at 32 (some 224) (v := ?vt32) rfl rfl (by kernel_rfl) (by kernel_rfl) (by kernel_rfl) (by rfl) ?yt32 hD ?tt32
  case yt32 =>
    intro w' hSw
    go_simp
    (try with_reducible rfl)
  simp only [Act.put, List.setIfInBounds_toArray, List.set_cons_zero, List.set_cons_succ]
  refine take_at 33 (some 225) (v := ?vt33) rfl rfl (by kernel_rfl) (by kernel_rfl) (by kernel_rfl) (by rfl) ?yt33 hD ?tt33
  case yt33 =>
    intro w' hSw
    go_simp
    (try with_reducible rfl)
  simp only [Act.put, List.setIfInBounds_toArray, List.set_cons_zero, List.set_cons_succ]
  refine next_at 34 rfl (by kernel_rfl) (by rfl) (fun K hK => ?_)
  go_simp
  (try simp only [beq_self_eq_true, Bool.not_true])
  refine hK _ _ hD ?_
  clear hK K
  refine next_at 35 rfl (by kernel_rfl) (by rfl) (fun K hK => ?_)
  go_simp
  (try simp only [beq_self_eq_true, Bool.not_true])
  refine hK _ _ hD ?_
  clear hK K
  refine next_at 36 rfl (by kernel_rfl) (by rfl) (fun K hK => ?_)
  go_simp
  (try simp only [beq_self_eq_true, Bool.not_true])
  refine hK _ _ hD ?_
  clear hK K
  refine take_at 37 (some 229) (v := ?vt37) rfl rfl (by kernel_rfl) (by kernel_rfl) (by kernel_rfl) (by rfl) ?yt37 hD ?tt37
  case yt37 =>
    intro w' hSw
    obtain ⟨q0, q1, q2, -, -, -, -, -⟩ := hS.cA.gr hSw
    go_simp
    (try with_reducible rfl)
  simp only [Act.put, List.setIfInBounds_toArray, List.set_cons_zero, List.set_cons_succ]
  refine take_at 39 (some 231) (v := ?vt39) rfl rfl (by kernel_rfl) (by kernel_rfl) (by kernel_rfl) (by rfl) ?yt39 hD ?tt39
  case yt39 =>
    intro w' hSw
    obtain ⟨q0, q1, q2, -, -, -, -, -⟩ := hS.cA.gr hSw
    go_simp
    (try with_reducible rfl)
  simp only [Act.put, List.setIfInBounds_toArray, List.set_cons_zero, List.set_cons_succ]
  refine next_at 38 rfl (by kernel_rfl) (by rfl) (fun K hK => ?_)
  go_simp
  refine (freduce_any _ _ (hS.fA.gr hD)).mono ?_
  rintro e wr1 ⟨u1, rfl, hru, hbd, hg⟩
  replace hD := Gr.step hD hg
  refine hK _ _ hD ?_
  clear hK K hg
  refine next_at 40 rfl (by kernel_rfl) (by rfl) (fun K hK => ?_)
  go_simp
  refine (rreduce_any _ _ (hS.fA.gr hD)).mono ?_
  rintro e wr2 ⟨rb1, ra1, ra2, rn1, rn2, rc1, rc2, rfl, hrp, hg⟩
  replace hD := Gr.step hD hg
  replace hru := hru.gr hg
  refine hK _ _ hD ?_
  clear hK K hg
  refine next_at 41 rfl (by kernel_rfl) (by rfl) (fun K hK => ?_)
  go_simp
  refine (fsame_yes _ _ _ hru hrp.red hbd).mono ?_
  rintro e wn41 ⟨rfl, hg⟩
  replace hD := Gr.step hD hg
  refine hK _ _ hD ?_
  clear hK K hg
  refine next_at 42 rfl (by kernel_rfl) (by rfl) (fun K hK => ?_)
  go_simp
  (try simp only [beq_self_eq_true, Bool.not_true])
  refine hK _ _ hD ?_
  clear hK K
  refine next_at 43 rfl (by kernel_rfl) (by rfl) (fun K hK => ?_)
  go_simp
  (try simp only [beq_self_eq_true, Bool.not_true])
  refine hK _ _ hD ?_
  clear hK K
  refine next_at 44 rfl (by kernel_rfl) (by rfl) (fun K hK => ?_)
  go_simp
  (try simp only [beq_self_eq_true, Bool.not_true])
  refine hK _ _ hD ?_
  clear hK K
  clear hru hrp
  refine take_at 45 (some 237) (v := ?vt45) rfl rfl (by kernel_rfl) (by kernel_rfl) (by kernel_rfl) (by rfl) ?yt45 hD ?tt45
  case yt45 =>
    intro w' hSw
    obtain ⟨q0, q1, q2, -, -, -, -, -⟩ := hS.cA.gr hSw
    go_simp
    (try with_reducible rfl)
  simp only [Act.put, List.setIfInBounds_toArray, List.set_cons_zero, List.set_cons_succ]
  refine take_at 47 (some 239) (v := ?vt47) rfl rfl (by kernel_rfl) (by kernel_rfl) (by kernel_rfl) (by rfl) ?yt47 hD ?tt47
  case yt47 =>
    intro w' hSw
    obtain ⟨q0, q1, q2, -, -, -, -, -⟩ := hS.cA.gr hSw
    go_simp
    (try with_reducible rfl)
  simp only [Act.put, List.setIfInBounds_toArray, List.set_cons_zero, List.set_cons_succ]
  refine next_at 46 rfl (by kernel_rfl) (by rfl) (fun K hK => ?_)
  go_simp
  refine (ftext_any _ _ (hS.fA.gr hD) (HT0.out.gr (hS.G.step hD))).mono ?_
  rintro e wn46 ⟨rfl, hg⟩
  replace hD := Gr.step hD hg
  refine hK _ _ hD ?_
  clear hK K hg
  refine next_at 48 rfl (by kernel_rfl) (by rfl) (fun K hK => ?_)
  go_simp
  refine (rftext_any _ _ (hS.fA.gr hD)).mono ?_
  rintro e wn48 ⟨rfl, hg⟩
  replace hD := Gr.step hD hg
  refine hK _ _ hD ?_
  clear hK K hg
  refine next_at 49 rfl (by kernel_rfl) (by rfl) (fun K hK => ?_)
  go_simp
  (try simp only [beq_self_eq_true, Bool.not_true])
  refine hK _ _ hD ?_
  clear hK K
  refine next_at 50 rfl (by kernel_rfl) (by rfl) (fun K hK => ?_)
  go_simp
  (try simp only [beq_self_eq_true, Bool.not_true])
  refine hK _ _ hD ?_
  clear hK K
  refine next_at 51 rfl (by kernel_rfl) (by rfl) (fun K hK => ?_)
  go_simp
  (try simp only [beq_self_eq_true, Bool.not_true])
  refine hK _ _ hD ?_
  clear hK K
  refine take_at 52 (some 244) (v := ?vt52) rfl rfl (by kernel_rfl) (by kernel_rfl) (by kernel_rfl) (by rfl) ?yt52 hD ?tt52
  case yt52 =>
    intro w' hSw
    obtain ⟨q0, q1, q2, -, -, -, -, -⟩ := hS.cR.gr hSw
    go_simp
    (try with_reducible rfl)
  simp only [Act.put, List.setIfInBounds_toArray, List.set_cons_zero, List.set_cons_succ]
  refine take_at 54 (some 246) (v := ?vt54) rfl rfl (by kernel_rfl) (by kernel_rfl) (by kernel_rfl) (by rfl) ?yt54 hD ?tt54
  case yt54 =>
    intro w' hSw
    obtain ⟨q0, q1, q2, -, -, -, -, -⟩ := hS.cR.gr hSw
    go_simp
    (try with_reducible rfl)
  simp only [Act.put, List.setIfInBounds_toArray, List.set_cons_zero, List.set_cons_succ]
  refine next_at 53 rfl (by kernel_rfl) (by rfl) (fun K hK => ?_)
  go_simp
  refine (fvraw_c _ _ _ lR mR _ (HR1.out.gr (hS.G.step hD)) (HR2.out.gr (hS.G.step hD)) vv HV.out).mono ?_
  rintro e wn53 ⟨rfl, hg⟩
  replace hD := Gr.step hD hg
  refine hK _ _ hD ?_
  clear hK K hg
  refine next_at 55 rfl (by kernel_rfl) (by rfl) (fun K hK => ?_)
  go_simp
  refine (rfvraw_c _ _ _ lR mR _ (HR1.out.gr (hS.G.step hD)) (HR2.out.gr (hS.G.step hD)) vv HV.out).mono ?_
  rintro e wn55 ⟨rfl, hg⟩
  replace hD := Gr.step hD hg
  refine hK _ _ hD ?_
  clear hK K hg
  refine next_at 56 rfl (by kernel_rfl) (by rfl) (fun K hK => ?_)
  go_simp
  (try simp only [beq_self_eq_true, Bool.not_true])
  refine hK _ _ hD ?_
  clear hK K
  refine next_at 57 rfl (by kernel_rfl) (by rfl) (fun K hK => ?_)
  go_simp
  (try simp only [beq_self_eq_true, Bool.not_true])
  refine hK _ _ hD ?_
  clear hK K
  refine next_at 58 rfl (by kernel_rfl) (by rfl) (fun K hK => ?_)
  go_simp
  (try simp only [beq_self_eq_true, Bool.not_true])
  refine hK _ _ hD ?_
  clear hK K
  refine take_at 59 (some 251) (v := ?vt59) rfl rfl (by kernel_rfl) (by kernel_rfl) (by kernel_rfl) (by rfl) ?yt59 hD ?tt59
  case yt59 =>
    intro w' hSw
    obtain ⟨q0, q1, q2, -, -, -, -, -⟩ := hS.cA.gr hSw
    go_simp
    (try with_reducible rfl)
  simp only [Act.put, List.setIfInBounds_toArray, List.set_cons_zero, List.set_cons_succ]
  refine next_at 60 rfl (by kernel_rfl) (by rfl) (fun K hK => ?_)
  go_simp
  refine (fvalid_fra _ _ (hS.fA.gr hD)).mono ?_
  rintro e wn60 ⟨rfl, hg⟩
  replace hD := Gr.step hD hg
  refine hK _ _ hD ?_
  clear hK K hg
  refine next_at 61 rfl (by kernel_rfl) (by rfl) (fun K hK => ?_)
  go_simp
  (try simp only [beq_self_eq_true, Bool.not_true])
  refine hK _ _ hD ?_
  clear hK K
  refine next_at 62 rfl (by kernel_rfl) (by rfl) (fun K hK => ?_)
  go_simp
  (try simp only [beq_self_eq_true, Bool.not_true])
  refine hK _ _ hD ?_
  clear hK K
  refine wpAnyH_done (by kernel_rfl) ?_ _
  refine qz_normal ?_
  replace hS := hS.gr hD
  replace cX := cX.gr hD
  replace cY := cY.gr hD
  clear hD VX VY
  go_wp2_with fail
  have lF := ftext_len hbd
  have r10 : ∀ w, (Op.stringOp .add (str l) ⟨#[47]⟩).run Tryz.prog w = .ok (.string (str (l ++ [47]))) w := add_str l [47] (by simp; omega)
  have r12 : ∀ w, (Op.stringOp .add (str (l ++ [47])) (str l)).run Tryz.prog w = .ok (.string (str (l ++ 47 :: l))) w := fun w => by rw [show l ++ 47 :: l = l ++ [47] ++ l by simp]; exact add_str (l ++ [47]) l (by simp; omega) w
  have r14 : ∀ w, (Op.stringOp .add ⟨#[45]⟩ (str l)).run Tryz.prog w = .ok (.string (str (45 :: l))) w := add_str [45] l (by simp; omega)
  have hdr : Gr wn60 wn60.drew := Gr.drew (Gr.refl _)
  have hG := hS.G.step hdr
  have fA := hS.fA.gr hdr
  have hc := hS.hc.gr hdr
  have hD := hS.cA.gr hdr
  have hp := hS.hp
  have hb0 := hS.hb
  clear hdr hS cX cY hbd
  refine region_plain (fun W' => C3 W' pa (.bool bx) (.slice ax1 nx1 cx1) (.slice ax2 nx2 cx2)) (by kernel_rfl) ?_
  refine take_at 0 (some 255) (v := ?vu0) rfl rfl (by kernel_rfl) (by kernel_rfl) (by kernel_rfl) (by rfl) ?yu0 hD ?tu0
  case yu0 =>
    intro w' hSw
    obtain ⟨q0, q1, q2, -, -, -, -, -⟩ := id hSw
    go_simp
    (try with_reducible rfl)
  simp only [Act.put, List.setIfInBounds_toArray, List.set_cons_zero, List.set_cons_succ]
  refine take_at 1 (some 256) (v := ?vu1) rfl rfl (by kernel_rfl) (by kernel_rfl) (by kernel_rfl) (by rfl) ?yu1 hD ?tu1
  case yu1 =>
    intro w' hSw
    obtain ⟨q0, q1, q2, -, -, -, -, -⟩ := id hSw
    go_simp
    (try with_reducible rfl)
  simp only [Act.put, List.setIfInBounds_toArray, List.set_cons_zero, List.set_cons_succ]
  refine take_at 3 (some 258) (v := ?vu3) rfl rfl (by kernel_rfl) (by kernel_rfl) (by kernel_rfl) (by rfl) ?yu3 hD ?tu3
  case yu3 =>
    intro w' hSw
    obtain ⟨q0, q1, q2, -, -, -, -, -⟩ := id hSw
    go_simp
    (try with_reducible rfl)
  simp only [Act.put, List.setIfInBounds_toArray, List.set_cons_zero, List.set_cons_succ]
  refine take_at 4 (some 259) (v := ?vu4) rfl rfl (by kernel_rfl) (by kernel_rfl) (by kernel_rfl) (by rfl) ?yu4 hD ?tu4
  case yu4 =>
    intro w' hSw
    obtain ⟨q0, q1, q2, -, -, -, -, -⟩ := id hSw
    go_simp
    (try with_reducible rfl)
  simp only [Act.put, List.setIfInBounds_toArray, List.set_cons_zero, List.set_cons_succ]
  refine take_at 9 (some 264) (v := ?vu9) rfl rfl (by kernel_rfl) (by kernel_rfl) (by kernel_rfl) (by rfl) ?yu9 hD ?tu9
  case yu9 =>
    intro w' hSw
    obtain ⟨q0, q1, q2, -, -, -, -, -⟩ := id hSw
    go_simp
    (try with_reducible rfl)
  simp only [Act.put, List.setIfInBounds_toArray, List.set_cons_zero, List.set_cons_succ]
  refine take_at 10 (some 265) (v := ?vu10) rfl rfl (by kernel_rfl) (by kernel_rfl) (by kernel_rfl) (by rfl) ?yu10 hD ?tu10
  case yu10 =>
    intro w' hSw
    obtain ⟨q0, q1, q2, -, -, -, -, -⟩ := id hSw
    go_simp
    (try with_reducible rfl)
  simp only [Act.put, List.setIfInBounds_toArray, List.set_cons_zero, List.set_cons_succ]
  refine take_at 11 (some 266) (v := ?vu11) rfl rfl (by kernel_rfl) (by kernel_rfl) (by kernel_rfl) (by rfl) ?yu11 hD ?tu11
  case yu11 =>
    intro w' hSw
    obtain ⟨q0, q1, q2, -, -, -, -, -⟩ := id hSw
    go_simp
    (try with_reducible rfl)
  simp only [Act.put, List.setIfInBounds_toArray, List.set_cons_zero, List.set_cons_succ]
  refine take_at 12 (some 267) (v := ?vu12) rfl rfl (by kernel_rfl) (by kernel_rfl) (by kernel_rfl) (by rfl) ?yu12 hD ?tu12
  case yu12 =>
    intro w' hSw
    obtain ⟨q0, q1, q2, -, -, -, -, -⟩ := id hSw
    go_simp
    (try with_reducible rfl)
  simp only [Act.put, List.setIfInBounds_toArray, List.set_cons_zero, List.set_cons_succ]
  refine take_at 13 (some 268) (v := ?vu13) rfl rfl (by kernel_rfl) (by kernel_rfl) (by kernel_rfl) (by rfl) ?yu13 hD ?tu13
  case yu13 =>
    intro w' hSw
    obtain ⟨q0, q1, q2, -, -, -, -, -⟩ := id hSw
    go_simp
    (try with_reducible rfl)
  simp only [Act.put, List.setIfInBounds_toArray, List.set_cons_zero, List.set_cons_succ]
  refine take_at 14 (some 269) (v := ?vu14) rfl rfl (by kernel_rfl) (by kernel_rfl) (by kernel_rfl) (by rfl) ?yu14 hD ?tu14
  case yu14 =>
    intro w' hSw
    obtain ⟨q0, q1, q2, -, -, -, -, -⟩ := id hSw
    go_simp
    (try with_reducible rfl)
  simp only [Act.put, List.setIfInBounds_toArray, List.set_cons_zero, List.set_cons_succ]
  refine take_at 17 (some 272) (v := ?vu17) rfl rfl (by kernel_rfl) (by kernel_rfl) (by kernel_rfl) (by rfl) ?yu17 hD ?tu17
  case yu17 =>
    intro w' hSw
    obtain ⟨q0, q1, q2, -, -, -, -, -⟩ := id hSw
    go_simp
    (try with_reducible rfl)
  simp only [Act.put, List.setIfInBounds_toArray, List.set_cons_zero, List.set_cons_succ]
  refine next_at 2 rfl (by kernel_rfl) (by rfl) (fun K hK => ?_)
  go_simp
  refine (ftext_any _ _ fA (HT0.out.gr hG)).mono ?_
  rintro e wk5 ⟨rfl, hg⟩
  replace hG := hG.step hg
  replace fA := fA.gr hg
  replace hc := hc.gr hg
  replace hD := hD.gr hg
  refine hK _ _ hD ?_
  clear hK K hg
  refine next_at 5 rfl (by kernel_rfl) (by rfl) (fun K hK => ?_)
  go_simp
  refine (ftext_any _ _ fA (HT0.out.gr hG)).mono ?_
  rintro e wk6 ⟨rfl, hg⟩
  replace hG := hG.step hg
  replace fA := fA.gr hg
  replace hc := hc.gr hg
  replace hD := hD.gr hg
  refine hK _ _ hD ?_
  clear hK K hg
  refine next_at 6 rfl (by kernel_rfl) (by rfl) (fun K hK => ?_)
  obtain ⟨cap, wk7, hcv, hg, hs8, hcap, hrow⟩ := conv_bytes (ftext X) wk6
  have hb6 := hc.lt
  go_simp
  replace hG := hG.step hg
  replace fA := fA.gr hg
  replace hc := hc.gr hg
  replace hD := hD.gr hg
  refine hK _ _ hD ?_
  clear hK K hg
  clear hcv
  refine next_at 7 rfl (by kernel_rfl) (by rfl) (fun K hK => ?_)
  go_simp
  refine (spoilt_n b wk6.heap.size _ cap _ _ hc (by simp) lF.1 (by omega) hcap hrow (by omega) hs8 (fun y hy => by
    rw [List.mem_map] at hy
    obtain ⟨c, -, rfl⟩ := hy
    have := c.toNat_lt; omega)).mono ?_
  rintro e wk9 ⟨v, ys, rfl, hown, hys, he, -⟩
  obtain ⟨S, hSz, hconv⟩ := conv_str hown
  replace hG := Ex.gr hG (by omega) he
  replace hD := hD.ex he (by omega)
  refine hK _ _ hD ?_
  clear hK K he hown hrow hs8 hcap hc fA hb6
  have h10 := hconv _ (Gr.refl _)
  refine next_at 8 rfl (by kernel_rfl) (by rfl) (fun K hK => ?_)
  go_simp
  refine hK _ _ hD ?_
  clear hK K h10 hconv
  refine next_at 15 rfl (by kernel_rfl) (by rfl) (fun K hK => ?_)
  go_simp
  have g15 : Gr wk9 (wk9.alloc (.cells #[.string (str l), .string (str (ftext X)), .string S, .string (str (l ++ 47 :: l)), .string (str (45 :: l))] 9)) := Gr.alloc (Gr.refl _) _
  have hX : ∀ i, i < 5 → ∃ t : ByteArray, (wk9.alloc (.cells #[.string (str l), .string (str (ftext X)), .string S, .string (str (l ++ 47 :: l)), .string (str (45 :: l))] 9)).cell? ⟨wk9.heap.size, i, none⟩ = some (.string t) ∧ t.size ≤ 5000 := by
    intro i hi
    rw [World.cell?_alloc_new]
    have : i = 0 ∨ i = 1 ∨ i = 2 ∨ i = 3 ∨ i = 4 := by omega
    rcases this with rfl | rfl | rfl | rfl | rfl <;> refine ⟨_, rfl, ?_⟩
    · rw [str_size]; omega
    · rw [str_size]; omega
    · omega
    · rw [str_size, List.length_append, List.length_cons]; omega
    · rw [str_size, List.length_cons]; omega
  replace hG := hG.step g15
  replace hD := hD.gr g15
  clear g15
  generalize wk9.alloc (.cells #[.string (str l), .string (str (ftext X)), .string S, .string (str (l ++ 47 :: l)), .string (str (45 :: l))] 9) = W0 at *
  generalize wk9.heap.size = L at *
  refine hK _ _ hD ?_
  clear hK K
  refine next_at 16 rfl (by kernel_rfl) (by rfl) (fun K hK => ?_)
  go_simp
  (try simp only [beq_self_eq_true, Bool.not_true])
  refine hK _ _ hD ?_
  clear hK K
  refine wpAnyH_done (by kernel_rfl) ?_ _
  refine qz_normal ?_
  have HX := Lib.hid hX
  clear hX hD
  go_wp2_with fail
  go_loopw [272] (fun v wr => ∃ i : Nat, i ≤ 5 ∧ v = .int .i64 i ∧ Gr W0 wr) (fun v _ => 5 - (intOf v).toNat)
  case atStart => exact ⟨0, by omega, rfl, Gr.refl _⟩
  case round =>
    obtain ⟨i, hi, rfl, hgr⟩ := hrel
    by_cases hi5 : i < 5
    · obtain ⟨t, hcv, ht⟩ := HX.out i hi5
      have i0 : (i : Int) < 5 := by omega
      have hL := World.block_lt_of_cell? _ _ hcv
      have hcr : wr.cell? ⟨L, i, none⟩ = some (.string t) := by rw [(Gr.cells hgr).1 _ _ hL]; exact hcv
      obtain ⟨yz, Az, Bz, Ez, ca1, ca2⟩ := parse_pair t ht
      have CA1 := Lib.hid ca1
      have CA2 := Lib.hid ca2
      clear ca1 ca2
      go_wp2_with fail
      clear hcr
      refine (CA1.out _ (mgr HM.out (hG.step hgr))).mono ?_
      rintro e wz1 ⟨va, rfl, hv, lA, lB, hg⟩
      replace hgr := hgr.step hg
      clear hg
      obtain ⟨vn, vd, rfl, hn, hd⟩ := hv
      obtain ⟨s1wz1, k1wz1, rfl⟩ := num_slice hn
      obtain ⟨s2wz1, k2wz1, rfl⟩ := num_slice hd
      have hv : FV wz1 (.agg #[.bool yz, .slice s1wz1 (nd Az).length k1wz1, .slice s2wz1 (nd Bz).length k2wz1]) yz Az Bz := ⟨_, _, rfl, hn, hd⟩
      clear hn hd
      have hg : Gr wz1 (wz1.alloc (.cells #[.bool yz, .slice s1wz1 (nd Az).length k1wz1, .slice s2wz1 (nd Bz).length k2wz1] 26)) := Gr.alloc (Gr.refl _) _
      have cX := C3.new wz1 (.bool yz) (.slice s1wz1 (nd Az).length k1wz1) (.slice s2wz1 (nd Bz).length k2wz1) 26 wz1.heap.size rfl
      have VX := Lib.hid (hv.gr hg)
      replace hgr := hgr.step hg
      clear hv hg
      go_wp2_with fail
      generalize wz1.alloc (.cells #[.bool yz, .slice s1wz1 (nd Az).length k1wz1, .slice s2wz1 (nd Bz).length k2wz1] 26) = wz1' at *
      generalize wz1.heap.size = px' at *
      refine (CA2.out _).mono ?_
      rintro e wz2 ⟨vb, rfl, hv, -, -, hg⟩
      replace hgr := hgr.step hg
      replace cX := cX.gr hg
      have VX := Lib.hid (VX.out.gr hg)
      clear hg
      obtain ⟨vn, vd, rfl, hn, hd⟩ := hv
      obtain ⟨s1wz2, k1wz2, rfl⟩ := num_slice hn
      obtain ⟨s2wz2, k2wz2, rfl⟩ := num_slice hd
      have hv : FV wz2 (.agg #[.bool yz, .slice s1wz2 (nd Az).length k1wz2, .slice s2wz2 (nd Bz).length k2wz2]) yz Az Bz := ⟨_, _, rfl, hn, hd⟩
      clear hn hd
      have hg : Gr wz2 (wz2.alloc (.cells #[.bool yz, .slice s1wz2 (nd Az).length k1wz2, .slice s2wz2 (nd Bz).length k2wz2] 26)) := Gr.alloc (Gr.refl _) _
      have cY := C3.new wz2 (.bool yz) (.slice s1wz2 (nd Az).length k1wz2) (.slice s2wz2 (nd Bz).length k2wz2) 26 wz2.heap.size rfl
      replace hgr := hgr.step hg
      replace cX := cX.gr hg
      have VX := Lib.hid (VX.out.gr hg)
      have VY := Lib.hid (hv.gr hg)
      clear hv hg
      obtain ⟨p0, p1, p2, -, -, -, -, -⟩ := id cX
      obtain ⟨q0, q1, q2, -, -, -, -, -⟩ := id cY
      go_wp2_with fail
      clear p0 p1 p2 q0 q1 q2
      refine (lsame_fv _ _ Ez _ VX.out VY.out lA lB).mono ?_
      rintro e wz3 ⟨rfl, hg⟩
      replace hgr := hgr.step hg
      clear hg VX VY lA lB cX cY
      go_wp2_with fail
      case roundEnd =>
        refine ⟨⟨i + 1, by omega, by simp, ?_⟩, by simp [intOf]; omega⟩
        exact hgr
    · obtain rfl : i = 5 := by omega
      clear hi hi5
      go_wp2_with fail
      go_ret
      exact ⟨rfl, hG.step hgr⟩
end Go.Proofs.YtjpjnbgfodlkcaaGreatDoor
