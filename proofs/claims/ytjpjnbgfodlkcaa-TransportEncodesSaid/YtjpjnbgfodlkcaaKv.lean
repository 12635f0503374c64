/- The walk of the statement on encodings. -/
import Derived.Test.YtjpjnbgfodlkcaaKz
import Derived.Test.YtjpjnbgfodlkcaaKq
import Derived.WalkKit
import Derived.WalkSpells
import Derived.WalkLawsBesides
import Derived.WalkSmall
import Derived.Handy
import Derived.BigQuiet
import Derived.Deep.QuietTactic
import Derived.Deep.RegionHeld3
import Derived.Deep.DeepFit
import Derived.Below
import Derived.Lib.Hide
import Derived.Lib.QuietBelow
import Derived.Deep.DeepCutAuto
namespace Go.Proofs.Ytjpjnbgfodlkcaa
open Go Go.RowKit Go.Sort
set_option maxRecDepth 100000
set_option linter.unusedVariables false
set_option linter.unusedSimpArgs false
theorem region_cut4 {P : Program} {c : Code} {Q : Exit → Act → World → Prop} {a : Act} {w : World} (aF : Nat → Nat → Nat → Nat → Act) (R : Nat → Nat → Nat → Nat → World → Prop)
    (h : c.wp P (fun e a' w' => e = .normal ∧ ∃ x1 x2 x3 x4, a' = aF x1 x2 x3 x4 ∧ R x1 x2 x3 x4 w') a w) (k : ∀ x1 x2 x3 x4 w', R x1 x2 x3 x4 w' → Q .normal (aF x1 x2 x3 x4) w') : c.wp P Q a w := by
  refine Code.wp_mono (fun e a' w' h' => ?_) h
  obtain ⟨he, x1, x2, x3, x4, ha, hr⟩ := h'
  rw [he, ha]
  exact k _ _ _ _ _ hr
theorem encR_len {ok : Prop} [Decidable ok] {a b : Nat} {d m : List Nat} (h : d.length ≤ b → m.length ≤ 5000) : (encR ok a b d m).length ≤ 100000 := by
  unfold encR
  split
  · next k => have := h k.2.2; omega
  · simp
/-- both sides of an encoding as the same opaque values -/
theorem echo_pair (r : Bool) (x y : Int) (d : List Nat) (hl : d.length ≤ 30000) : ∃ (E : Nat) (L : List Nat), L.length ≤ 100000 ∧ E ≤ 5 ∧ (∀ (p : Nat → Prop) v w, Rb p w v d → Calls Try.prog 11 #[.agg #[.bool r, .int .i64 x, .int .i64 y, v]] w (EncRes w E L)) ∧
    ∀ (p : Nat → Prop) v w, Rb p w v d → Calls Try.prog 12 #[.agg #[.bool r, .int .i64 x, .int .i64 y, v]] w (EncRes w E L) :=
  ⟨_, _, encR_len (fun h => by rw [echo_len]; omega), by unfold encE; split <;> (try split) <;> (try split) <;> omega, fun p v w h => echo_any r x y w h hl, fun p v w h => recho_any r x y w h hl⟩
theorem note_pair (t c : Int) (d : List Nat) (hl : d.length ≤ 30000) : ∃ (E : Nat) (L : List Nat), L.length ≤ 100000 ∧ E ≤ 5 ∧ (∀ (p : Nat → Prop) v w, Rb p w v d → Calls Try.prog 13 #[.agg #[.int .i64 t, .int .i64 c, v]] w (EncRes w E L)) ∧
    ∀ (p : Nat → Prop) v w, Rb p w v d → Calls Try.prog 14 #[.agg #[.int .i64 t, .int .i64 c, v]] w (EncRes w E L) :=
  ⟨_, _, encR_len (fun h => by rw [note_len]; omega), by unfold encE; split <;> (try split) <;> (try split) <;> omega, fun p v w h => note_any t c w h hl, fun p v w h => rnote_any t c w h hl⟩
theorem udp_pair (src dst : Nat) (x y : Int) (d : List Nat) (hl : d.length ≤ 30000) (hs : src < 4294967296) (hd : dst < 4294967296) : ∃ (E : Nat) (L : List Nat), L.length ≤ 100000 ∧ E ≤ 5 ∧ (∀ (p : Nat → Prop) v w, Rb p w v d → Calls Try.prog 15 #[.int .u32 src, .int .u32 dst, .agg #[.int .i64 x, .int .i64 y, v]] w (EncRes w E L)) ∧
    ∀ (p : Nat → Prop) v w, Rb p w v d → Calls Try.prog 16 #[.int .u32 src, .int .u32 dst, .agg #[.int .i64 x, .int .i64 y, v]] w (EncRes w E L) :=
  ⟨_, _, encR_len (fun h => by rw [udp_len]; omega), by unfold encE; split <;> (try split) <;> (try split) <;> omega, fun p v w h => udp_any src dst x y w h hl hs hd, fun p v w h => rudp_any src dst x y w h hl hs hd⟩
theorem tcp_pair (src dst : Nat) (a b sq ak fl wi : Int) (d : List Nat) (hl : d.length ≤ 30000) (hs : src < 4294967296) (hd : dst < 4294967296) : ∃ (E : Nat) (L : List Nat), L.length ≤ 100000 ∧ E ≤ 5 ∧ (∀ (p : Nat → Prop) v w, Rb p w v d → Calls Try.prog 17 #[.int .u32 src, .int .u32 dst, .agg #[.int .i64 a, .int .i64 b, .int .i64 sq, .int .i64 ak, .int .i64 fl, .int .i64 wi, v]] w (EncRes w E L)) ∧
    ∀ (p : Nat → Prop) v w, Rb p w v d → Calls Try.prog 18 #[.int .u32 src, .int .u32 dst, .agg #[.int .i64 a, .int .i64 b, .int .i64 sq, .int .i64 ak, .int .i64 fl, .int .i64 wi, v]] w (EncRes w E L) :=
  ⟨_, _, encR_len (fun h => by rw [tcp_len]; omega), by unfold encE; split <;> (try split) <;> (try split) <;> omega, fun p v w h => tcp_any src dst a b sq ak fl wi w h hl hs hd, fun p v w h => rtcp_any src dst a b sq ak fl wi w h hl hs hd⟩
/-- what stays in the loop -/
structure VSt (w W : World) (B b g5 g6 g7 g8 : Nat) (r : Bool) (x y t c p q a a2 sq ak fl wi : Int) (ve vn vu vt : Value) : Prop where
  c5 : CL W g5 [.bool r, .int .i64 x, .int .i64 y, ve]
  c6 : CL W g6 [.int .i64 t, .int .i64 c, vn]
  c7 : CL W g7 [.int .i64 p, .int .i64 q, vu]
  c8 : CL W g8 [.int .i64 a, .int .i64 a2, .int .i64 sq, .int .i64 ak, .int .i64 fl, .int .i64 wi, vt]
  G : Gr w W
  C : Cod B W b
theorem VSt.gr {w W W' : World} {B b g5 g6 g7 g8 : Nat} {r : Bool} {x y t c p q a a2 sq ak fl wi : Int} {ve vn vu vt : Value} (h : VSt w W B b g5 g6 g7 g8 r x y t c p q a a2 sq ak fl wi ve vn vu vt) (g : Gr W W') : VSt w W' B b g5 g6 g7 g8 r x y t c p q a a2 sq ak fl wi ve vn vu vt :=
  ⟨h.c5.gr g, h.c6.gr g, h.c7.gr g, h.c8.gr g, h.G.step g, h.C.gr g⟩
theorem VSt.s5 {w W : World} {B b g5 g6 g7 g8 : Nat} {r : Bool} {x y t c p q a a2 sq ak fl wi : Int} {ve vn vu vt : Value} (h : VSt w W B b g5 g6 g7 g8 r x y t c p q a a2 sq ak fl wi ve vn vu vt) (hw : w.heap.size ≤ g5 ∧ g5 < g6 ∧ g6 < g7 ∧ g7 < g8) (hB : B ≤ w.heap.size) (hb : g8 < b) (i j : Int) : VSt w ((W.setCell ⟨g5, 1, none⟩ (.int .i64 i)).setCell ⟨g5, 2, none⟩ (.int .i64 j)) B b g5 g6 g7 g8 r i j t c p q a a2 sq ak fl wi ve vn vu vt :=
  ⟨by simpa using ((h.c5.set 1 (.int .i64 i) (by simp)).set 2 (.int .i64 j) (by simp)), ((h.c6.other (.int .i64 i) (by omega)).other (.int .i64 j) (by omega)), ((h.c7.other (.int .i64 i) (by omega)).other (.int .i64 j) (by omega)), ((h.c8.other (.int .i64 i) (by omega)).other (.int .i64 j) (by omega)), ((h.G.setCell (p := ⟨g5, 1, none⟩) (by show w.heap.size ≤ g5; omega) (.int .i64 i)).setCell (p := ⟨g5, 2, none⟩) (by show w.heap.size ≤ g5; omega) (.int .i64 j)), ((h.C.set g5 1 (by omega) (by omega) (.int .i64 i)).set g5 2 (by omega) (by omega) (.int .i64 j))⟩
theorem VSt.s6 {w W : World} {B b g5 g6 g7 g8 : Nat} {r : Bool} {x y t c p q a a2 sq ak fl wi : Int} {ve vn vu vt : Value} (h : VSt w W B b g5 g6 g7 g8 r x y t c p q a a2 sq ak fl wi ve vn vu vt) (hw : w.heap.size ≤ g5 ∧ g5 < g6 ∧ g6 < g7 ∧ g7 < g8) (hB : B ≤ w.heap.size) (hb : g8 < b) (i j : Int) : VSt w ((W.setCell ⟨g6, 0, none⟩ (.int .i64 i)).setCell ⟨g6, 1, none⟩ (.int .i64 j)) B b g5 g6 g7 g8 r x y i j p q a a2 sq ak fl wi ve vn vu vt :=
  ⟨((h.c5.other (.int .i64 i) (by omega)).other (.int .i64 j) (by omega)), by simpa using ((h.c6.set 0 (.int .i64 i) (by simp)).set 1 (.int .i64 j) (by simp)), ((h.c7.other (.int .i64 i) (by omega)).other (.int .i64 j) (by omega)), ((h.c8.other (.int .i64 i) (by omega)).other (.int .i64 j) (by omega)), ((h.G.setCell (p := ⟨g6, 0, none⟩) (by show w.heap.size ≤ g6; omega) (.int .i64 i)).setCell (p := ⟨g6, 1, none⟩) (by show w.heap.size ≤ g6; omega) (.int .i64 j)), ((h.C.set g6 0 (by omega) (by omega) (.int .i64 i)).set g6 1 (by omega) (by omega) (.int .i64 j))⟩
theorem VSt.s7 {w W : World} {B b g5 g6 g7 g8 : Nat} {r : Bool} {x y t c p q a a2 sq ak fl wi : Int} {ve vn vu vt : Value} (h : VSt w W B b g5 g6 g7 g8 r x y t c p q a a2 sq ak fl wi ve vn vu vt) (hw : w.heap.size ≤ g5 ∧ g5 < g6 ∧ g6 < g7 ∧ g7 < g8) (hB : B ≤ w.heap.size) (hb : g8 < b) (i j : Int) : VSt w ((W.setCell ⟨g7, 0, none⟩ (.int .i64 i)).setCell ⟨g7, 1, none⟩ (.int .i64 j)) B b g5 g6 g7 g8 r x y t c i j a a2 sq ak fl wi ve vn vu vt :=
  ⟨((h.c5.other (.int .i64 i) (by omega)).other (.int .i64 j) (by omega)), ((h.c6.other (.int .i64 i) (by omega)).other (.int .i64 j) (by omega)), by simpa using ((h.c7.set 0 (.int .i64 i) (by simp)).set 1 (.int .i64 j) (by simp)), ((h.c8.other (.int .i64 i) (by omega)).other (.int .i64 j) (by omega)), ((h.G.setCell (p := ⟨g7, 0, none⟩) (by show w.heap.size ≤ g7; omega) (.int .i64 i)).setCell (p := ⟨g7, 1, none⟩) (by show w.heap.size ≤ g7; omega) (.int .i64 j)), ((h.C.set g7 0 (by omega) (by omega) (.int .i64 i)).set g7 1 (by omega) (by omega) (.int .i64 j))⟩
theorem VSt.s8 {w W : World} {B b g5 g6 g7 g8 : Nat} {r : Bool} {x y t c p q a a2 sq ak fl wi : Int} {ve vn vu vt : Value} (h : VSt w W B b g5 g6 g7 g8 r x y t c p q a a2 sq ak fl wi ve vn vu vt) (hw : w.heap.size ≤ g5 ∧ g5 < g6 ∧ g6 < g7 ∧ g7 < g8) (hB : B ≤ w.heap.size) (hb : g8 < b) (i0 i1 i2 i3 i4 i5 : Int) : VSt w ((((((W.setCell ⟨g8, 0, none⟩ (.int .i64 i0)).setCell ⟨g8, 1, none⟩ (.int .i64 i1)).setCell ⟨g8, 2, none⟩ (.int .i64 i2)).setCell ⟨g8, 3, none⟩ (.int .i64 i3)).setCell ⟨g8, 4, none⟩ (.int .i64 i4)).setCell ⟨g8, 5, none⟩ (.int .i64 i5)) B b g5 g6 g7 g8 r x y t c p q i0 i1 i2 i3 i4 i5 ve vn vu vt :=
  ⟨((((((h.c5.other (.int .i64 i0) (by omega)).other (.int .i64 i1) (by omega)).other (.int .i64 i2) (by omega)).other (.int .i64 i3) (by omega)).other (.int .i64 i4) (by omega)).other (.int .i64 i5) (by omega)), ((((((h.c6.other (.int .i64 i0) (by omega)).other (.int .i64 i1) (by omega)).other (.int .i64 i2) (by omega)).other (.int .i64 i3) (by omega)).other (.int .i64 i4) (by omega)).other (.int .i64 i5) (by omega)), ((((((h.c7.other (.int .i64 i0) (by omega)).other (.int .i64 i1) (by omega)).other (.int .i64 i2) (by omega)).other (.int .i64 i3) (by omega)).other (.int .i64 i4) (by omega)).other (.int .i64 i5) (by omega)), by simpa using ((((((h.c8.set 0 (.int .i64 i0) (by simp)).set 1 (.int .i64 i1) (by simp)).set 2 (.int .i64 i2) (by simp)).set 3 (.int .i64 i3) (by simp)).set 4 (.int .i64 i4) (by simp)).set 5 (.int .i64 i5) (by simp)), ((((((h.G.setCell (p := ⟨g8, 0, none⟩) (by show w.heap.size ≤ g8; omega) (.int .i64 i0)).setCell (p := ⟨g8, 1, none⟩) (by show w.heap.size ≤ g8; omega) (.int .i64 i1)).setCell (p := ⟨g8, 2, none⟩) (by show w.heap.size ≤ g8; omega) (.int .i64 i2)).setCell (p := ⟨g8, 3, none⟩) (by show w.heap.size ≤ g8; omega) (.int .i64 i3)).setCell (p := ⟨g8, 4, none⟩) (by show w.heap.size ≤ g8; omega) (.int .i64 i4)).setCell (p := ⟨g8, 5, none⟩) (by show w.heap.size ≤ g8; omega) (.int .i64 i5)), ((((((h.C.set g8 0 (by omega) (by omega) (.int .i64 i0)).set g8 1 (by omega) (by omega) (.int .i64 i1)).set g8 2 (by omega) (by omega) (.int .i64 i2)).set g8 3 (by omega) (by omega) (.int .i64 i3)).set g8 4 (by omega) (by omega) (.int .i64 i4)).set g8 5 (by omega) (by omega) (.int .i64 i5))⟩
theorem VSt.ex {w W W' : World} {B b g5 g6 g7 g8 : Nat} {r : Bool} {x y t c p q a a2 sq ak fl wi : Int} {ve vn vu vt : Value} (h : VSt w W B b g5 g6 g7 g8 r x y t c p q a a2 sq ak fl wi ve vn vu vt) (g : Ex b W W') (hc : Cod B W' b) (h5 : g5 ≠ b) (h6 : g6 ≠ b) (h7 : g7 ≠ b) (h8 : g8 ≠ b) (hb : w.heap.size ≤ b) : VSt w W' B b g5 g6 g7 g8 r x y t c p q a a2 sq ak fl wi ve vn vu vt :=
  ⟨h.c5.ex g h5, h.c6.ex g h6, h.c7.ex g h7, h.c8.ex g h8, Ex.gr h.G hb g, hc⟩
set_option maxHeartbeats 4000000 in
theorem encodes_walk {pe pn pu pt : Nat → Prop} (sv : Value) (len : Nat) (r : Bool) (x y t c p q a a2 sq ak fl wi : Int) (ve vn vu vt : Value) (le ln lu lt : List Nat) (w : World) (hl : len ≤ 9223372036854775807) (hb : BytesV w.heap.size w sv len) (he : Rb pe w ve le) (hn : Rb pn w vn ln) (hu : Rb pu w vu lu) (ht : Rb pt w vt lt)
    (hbig : le.length ≤ 1600 ∧ ln.length ≤ 1600 ∧ lu.length ≤ 1600 ∧ lt.length ≤ 1600) :
    Calls Try.prog 3 #[.agg #[.bool r, .int .i64 x, .int .i64 y, ve], .agg #[.int .i64 t, .int .i64 c, vn], .agg #[.int .i64 p, .int .i64 q, vu], .agg #[.int .i64 a, .int .i64 a2, .int .i64 sq, .int .i64 ak, .int .i64 fl, .int .i64 wi, vt], sv] w fun e w' => e = .returned (.bool true) ∧ Gr w w' := by
  have HB := Lib.hid hb
  have HRE := Lib.hid he
  have HRN := Lib.hid hn
  have HRU := Lib.hid hu
  have HRT := Lib.hid ht
  have HLE := Lib.hid (show le.length ≤ 30000 by omega)
  have HLN := Lib.hid (show ln.length ≤ 30000 by omega)
  have HLU := Lib.hid (show lu.length ≤ 30000 by omega)
  have HLT := Lib.hid (show lt.length ≤ 30000 by omega)
  obtain ⟨ae, ce, rfl, -, -⟩ := he.form
  obtain ⟨an, cn, rfl, -, -⟩ := hn.form
  obtain ⟨au, cu, rfl, -, -⟩ := hu.form
  obtain ⟨at1, ct, rfl, -, -⟩ := ht.form
  obtain ⟨b1, b2, b3, b4⟩ := hbig
  clear he hn hu ht hb
  generalize hn1 : le.length = N1 at HRE ⊢
  generalize hn2 : ln.length = N2 at HRN ⊢
  generalize hn3 : lu.length = N3 at HRU ⊢
  generalize hn4 : lt.length = N4 at HRT ⊢
  have d1 : decide ((1600 : Int) < (N1 : Int)) = false := by rw [decide_eq_false_iff_not]; omega
  have d2 : decide ((1600 : Int) < (N2 : Int)) = false := by rw [decide_eq_false_iff_not]; omega
  have d3 : decide ((1600 : Int) < (N3 : Int)) = false := by rw [decide_eq_false_iff_not]; omega
  have d4 : decide ((1600 : Int) < (N4 : Int)) = false := by rw [decide_eq_false_iff_not]; omega
  have HN1 := Lib.hid hn1
  clear hn1 hn2 hn3 hn4 b1 b2 b3 b4
  have hC5 := (((CL.new w [.bool r, .int .i64 x, .int .i64 y, .slice ae N1 ce] 24 w.heap.size rfl).gr (Gr.alloc (Gr.refl _) (.cells #[.int .i64 t, .int .i64 c, .slice an N2 cn] 26))).gr (Gr.alloc (Gr.refl _) (.cells #[.int .i64 p, .int .i64 q, .slice au N3 cu] 28))).gr (Gr.alloc (Gr.refl _) (.cells #[.int .i64 a, .int .i64 a2, .int .i64 sq, .int .i64 ak, .int .i64 fl, .int .i64 wi, .slice at1 N4 ct] 30))
  have hC6 := ((CL.new (w.alloc (.cells #[.bool r, .int .i64 x, .int .i64 y, .slice ae N1 ce] 24)) [.int .i64 t, .int .i64 c, .slice an N2 cn] 26 (w.heap.size + 1) (by simp)).gr (Gr.alloc (Gr.refl _) (.cells #[.int .i64 p, .int .i64 q, .slice au N3 cu] 28))).gr (Gr.alloc (Gr.refl _) (.cells #[.int .i64 a, .int .i64 a2, .int .i64 sq, .int .i64 ak, .int .i64 fl, .int .i64 wi, .slice at1 N4 ct] 30))
  have hC7 := (CL.new ((w.alloc (.cells #[.bool r, .int .i64 x, .int .i64 y, .slice ae N1 ce] 24)).alloc (.cells #[.int .i64 t, .int .i64 c, .slice an N2 cn] 26)) [.int .i64 p, .int .i64 q, .slice au N3 cu] 28 (w.heap.size + 1 + 1) (by simp)).gr (Gr.alloc (Gr.refl _) (.cells #[.int .i64 a, .int .i64 a2, .int .i64 sq, .int .i64 ak, .int .i64 fl, .int .i64 wi, .slice at1 N4 ct] 30))
  have hC8 := CL.new (((w.alloc (.cells #[.bool r, .int .i64 x, .int .i64 y, .slice ae N1 ce] 24)).alloc (.cells #[.int .i64 t, .int .i64 c, .slice an N2 cn] 26)).alloc (.cells #[.int .i64 p, .int .i64 q, .slice au N3 cu] 28)) [.int .i64 a, .int .i64 a2, .int .i64 sq, .int .i64 ak, .int .i64 fl, .int .i64 wi, .slice at1 N4 ct] 30 (w.heap.size + 1 + 1 + 1) (by simp)
  have hG := ((((Gr.refl w).alloc (.cells #[.bool r, .int .i64 x, .int .i64 y, .slice ae N1 ce] 24)).alloc (.cells #[.int .i64 t, .int .i64 c, .slice an N2 cn] 26)).alloc (.cells #[.int .i64 p, .int .i64 q, .slice au N3 cu] 28)).alloc (.cells #[.int .i64 a, .int .i64 a2, .int .i64 sq, .int .i64 ak, .int .i64 fl, .int .i64 wi, .slice at1 N4 ct] 30)
  have hgs : w.heap.size ≤ w.heap.size ∧ w.heap.size < w.heap.size + 1 ∧ w.heap.size + 1 < w.heap.size + 1 + 1 ∧ w.heap.size + 1 + 1 < w.heap.size + 1 + 1 + 1 := by omega
  go_enter Try.func3, Try.ntmps3
  go_upto_region 1 with fail
  generalize ((((w.alloc (.cells #[.bool r, .int .i64 x, .int .i64 y, .slice ae N1 ce] 24)).alloc (.cells #[.int .i64 t, .int .i64 c, .slice an N2 cn] 26)).alloc (.cells #[.int .i64 p, .int .i64 q, .slice au N3 cu] 28)).alloc (.cells #[.int .i64 a, .int .i64 a2, .int .i64 sq, .int .i64 ak, .int .i64 fl, .int .i64 wi, .slice at1 N4 ct] 30)) = wz at hC5 hC6 hC7 hC8 hG ⊢
  generalize hg8 : w.heap.size + 1 + 1 + 1 = g8 at hC8 hgs ⊢
  generalize hg7 : w.heap.size + 1 + 1 = g7 at hC7 hgs ⊢
  generalize hg6 : w.heap.size + 1 = g6 at hC6 hgs ⊢
  generalize hg5e : w.heap.size = g5 at hC5 ⊢
  obtain ⟨hle5, hle6, hle7, hle8⟩ : w.heap.size ≤ g5 ∧ g5 < g6 ∧ g6 < g7 ∧ g7 < g8 := by omega
  clear hgs hg8 hg7 hg6 hg5e
  go_wp2_with fail
  refine (tawake_any _).mono ?_
  rintro e w1 ⟨rfl, hg⟩
  replace hC5 := hC5.gr hg
  replace hC6 := hC6.gr hg
  replace hC7 := hC7.gr hg
  replace hC8 := hC8.gr hg
  replace hG := hG.step hg
  clear hg
  obtain ⟨⟨x0, x1, x2, x3⟩, -⟩ := hC5.four
  obtain ⟨⟨y0, y1, y2⟩, -⟩ := hC6.three
  obtain ⟨⟨z0, z1, z2⟩, -⟩ := hC7.three
  obtain ⟨⟨u0, u1, u2, u3, u4, u5, u6⟩, -⟩ := hC8.seven
  go_wp2_with fail
  clear x0 x1 x2 x3 y0 y1 y2 z0 z1 z2 u0 u1 u2 u3 u4 u5 u6
  refine (new_any sv len 120 _ (by omega) hl (HB.out.gr hG)).mono ?_
  rintro e w2 ⟨b, rfl, hbe, hc, hg⟩
  have hg5 : g5 ≠ b := by have := hC5.lt; omega
  have hg6 : g6 ≠ b := by have := hC6.lt; omega
  have hg7 : g7 ≠ b := by have := hC7.lt; omega
  have hg8 : g8 ≠ b := by have := hC8.lt; omega
  have hgb8 : g8 < b := by have := hC8.lt; omega
  have hbw : w.heap.size ≤ b := by have := Gr.size hG; omega
  replace hC5 := hC5.gr hg
  replace hC6 := hC6.gr hg
  replace hC7 := hC7.gr hg
  replace hC8 := hC8.gr hg
  replace hG := hG.step hg
  clear hg hbe
  have hV : VSt w w2 w.heap.size b g5 g6 g7 g8 r x y t c p q a a2 sq ak fl wi (.slice ae N1 ce) (.slice an N2 cn) (.slice au N3 cu) (.slice at1 N4 ct) := ⟨hC5, hC6, hC7, hC8, hG, hc⟩
  clear hC5 hC6 hC7 hC8 hG hc
  go_wp2_with fail
  refine (address_any b _ hV.C).mono ?_
  rintro e w3 ⟨src, rfl, hsrc, hc', hx⟩
  replace hV := hV.ex hx hc' hg5 hg6 hg7 hg8 hbw
  clear hc' hx
  go_wp2_with fail
  refine (address_any b _ hV.C).mono ?_
  rintro e w4 ⟨dst, rfl, hdst, hc', hx⟩
  replace hV := hV.ex hx hc' hg5 hg6 hg7 hg8 hbw
  clear hc' hx
  go_wp2_with fail
  go_loopw [14] (fun iv wr => ∃ (k : Nat) (x y t c p q a a2 sq ak fl wi : Int), k ≤ 2 ∧ iv = .int .i64 k ∧ VSt w wr w.heap.size b g5 g6 g7 g8 r x y t c p q a a2 sq ak fl wi (.slice ae N1 ce) (.slice an N2 cn) (.slice au N3 cu) (.slice at1 N4 ct)) (fun iv _ => 2 - (intOf iv).toNat)
  case atStart => exact ⟨0, x, y, t, c, p, q, a, a2, sq, ak, fl, wi, by omega, rfl, hV⟩
  case round =>
    clear hV
    obtain ⟨k, x, y, t, c, p, q, a, a2, sq, ak, fl, wi, hk, rfl, hV⟩ := hrel
    by_cases hk2 : k < 2
    · have dk : (k : Int) < 2 := by omega
      obtain ⟨E1, L1, hll1, hE1, HP1, HQ1⟩ := echo_pair r x y le HLE.out
      obtain ⟨⟨x0, x1, x2, x3⟩, -⟩ := hV.c5.four
      go_wp2_with fail
      refine (HP1 _ _ wr (HRE.out.gr hV.G)).mono ?_
      rintro e w1a ⟨va1, rfl, ho, hg⟩
      have hva1 := ho.rb.any
      obtain ⟨aa1, ca1, rfl, -, -⟩ := ho.rb.form
      generalize hna1 : L1.length = NA1 at hva1 ⊢
      have HNA1 := Lib.hid hna1
      clear hna1
      replace hV := hV.gr hg
      clear ho hg x0 x1 x2 x3
      obtain ⟨⟨x0, x1, x2, x3⟩, -⟩ := hV.c5.four
      go_wp2_with fail
      refine (HQ1 _ _ w1a (HRE.out.gr hV.G)).mono ?_
      rintro e w1b ⟨vb1, rfl, ho, hg⟩
      have hvb1 := ho.rb.any
      obtain ⟨ab1, cb1, rfl, -, -⟩ := ho.rb.form
      rw [HNA1.out] at hvb1 ⊢
      replace hV := hV.gr hg
      replace hva1 := hva1.gr hg
      clear ho hg HP1 HQ1 x0 x1 x2 x3
      obtain ⟨E2, L2, hll2, hE2, HP2, HQ2⟩ := note_pair t c ln HLN.out
      obtain ⟨⟨x0, x1, x2⟩, -⟩ := hV.c6.three
      go_wp2_with fail
      refine (HP2 _ _ w1b (HRN.out.gr hV.G)).mono ?_
      rintro e w2a ⟨va2, rfl, ho, hg⟩
      have hva2 := ho.rb.any
      obtain ⟨aa2, ca2, rfl, -, -⟩ := ho.rb.form
      generalize hna2 : L2.length = NA2 at hva2 ⊢
      have HNA2 := Lib.hid hna2
      clear hna2
      replace hV := hV.gr hg
      replace hva1 := hva1.gr hg
      replace hvb1 := hvb1.gr hg
      clear ho hg x0 x1 x2
      obtain ⟨⟨x0, x1, x2⟩, -⟩ := hV.c6.three
      go_wp2_with fail
      refine (HQ2 _ _ w2a (HRN.out.gr hV.G)).mono ?_
      rintro e w2b ⟨vb2, rfl, ho, hg⟩
      have hvb2 := ho.rb.any
      obtain ⟨ab2, cb2, rfl, -, -⟩ := ho.rb.form
      rw [HNA2.out] at hvb2 ⊢
      replace hV := hV.gr hg
      replace hva2 := hva2.gr hg
      replace hva1 := hva1.gr hg
      replace hvb1 := hvb1.gr hg
      clear ho hg HP2 HQ2 x0 x1 x2
      obtain ⟨E3, L3, hll3, hE3, HP3, HQ3⟩ := udp_pair src dst p q lu HLU.out hsrc hdst
      obtain ⟨⟨x0, x1, x2⟩, -⟩ := hV.c7.three
      go_wp2_with fail
      refine (HP3 _ _ w2b (HRU.out.gr hV.G)).mono ?_
      rintro e w3a ⟨va3, rfl, ho, hg⟩
      have hva3 := ho.rb.any
      obtain ⟨aa3, ca3, rfl, -, -⟩ := ho.rb.form
      generalize hna3 : L3.length = NA3 at hva3 ⊢
      have HNA3 := Lib.hid hna3
      clear hna3
      replace hV := hV.gr hg
      replace hva1 := hva1.gr hg
      replace hvb1 := hvb1.gr hg
      replace hva2 := hva2.gr hg
      replace hvb2 := hvb2.gr hg
      clear ho hg x0 x1 x2
      obtain ⟨⟨x0, x1, x2⟩, -⟩ := hV.c7.three
      go_wp2_with fail
      refine (HQ3 _ _ w3a (HRU.out.gr hV.G)).mono ?_
      rintro e w3b ⟨vb3, rfl, ho, hg⟩
      have hvb3 := ho.rb.any
      obtain ⟨ab3, cb3, rfl, -, -⟩ := ho.rb.form
      rw [HNA3.out] at hvb3 ⊢
      replace hV := hV.gr hg
      replace hva3 := hva3.gr hg
      replace hva1 := hva1.gr hg
      replace hvb1 := hvb1.gr hg
      replace hva2 := hva2.gr hg
      replace hvb2 := hvb2.gr hg
      clear ho hg HP3 HQ3 x0 x1 x2
      obtain ⟨E4, L4, hll4, hE4, HP4, HQ4⟩ := tcp_pair src dst a a2 sq ak fl wi lt HLT.out hsrc hdst
      obtain ⟨⟨x0, x1, x2, x3, x4, x5, x6⟩, -⟩ := hV.c8.seven
      go_wp2_with fail
      refine (HP4 _ _ w3b (HRT.out.gr hV.G)).mono ?_
      rintro e w4a ⟨va4, rfl, ho, hg⟩
      have hva4 := ho.rb.any
      obtain ⟨aa4, ca4, rfl, -, -⟩ := ho.rb.form
      generalize hna4 : L4.length = NA4 at hva4 ⊢
      have HNA4 := Lib.hid hna4
      clear hna4
      replace hV := hV.gr hg
      replace hva1 := hva1.gr hg
      replace hvb1 := hvb1.gr hg
      replace hva2 := hva2.gr hg
      replace hvb2 := hvb2.gr hg
      replace hva3 := hva3.gr hg
      replace hvb3 := hvb3.gr hg
      clear ho hg x0 x1 x2 x3 x4 x5 x6
      obtain ⟨⟨x0, x1, x2, x3, x4, x5, x6⟩, -⟩ := hV.c8.seven
      go_wp2_with fail
      refine (HQ4 _ _ w4a (HRT.out.gr hV.G)).mono ?_
      rintro e w4b ⟨vb4, rfl, ho, hg⟩
      have hvb4 := ho.rb.any
      obtain ⟨ab4, cb4, rfl, -, -⟩ := ho.rb.form
      rw [HNA4.out] at hvb4 ⊢
      replace hV := hV.gr hg
      replace hva4 := hva4.gr hg
      replace hva1 := hva1.gr hg
      replace hvb1 := hvb1.gr hg
      replace hva2 := hva2.gr hg
      replace hvb2 := hvb2.gr hg
      replace hva3 := hva3.gr hg
      replace hvb3 := hvb3.gr hg
      clear ho hg HP4 HQ4 x0 x1 x2 x3 x4 x5 x6
      go_wp2_with fail
      refine (rweq_c w4b hva1 hvb1 hll1 hll1 true (by simp)).mono ?_
      rintro e wq1 ⟨rfl, hg⟩
      replace hV := hV.gr hg
      replace hva2 := hva2.gr hg
      replace hvb2 := hvb2.gr hg
      replace hva3 := hva3.gr hg
      replace hvb3 := hvb3.gr hg
      replace hva4 := hva4.gr hg
      replace hvb4 := hvb4.gr hg
      clear hg hva1 hvb1
      go_wp2_with fail
      refine (rweq_c wq1 hva2 hvb2 hll2 hll2 true (by simp)).mono ?_
      rintro e wq2 ⟨rfl, hg⟩
      replace hV := hV.gr hg
      replace hva3 := hva3.gr hg
      replace hvb3 := hvb3.gr hg
      replace hva4 := hva4.gr hg
      replace hvb4 := hvb4.gr hg
      clear hg hva2 hvb2
      go_wp2_with fail
      refine (rweq_c wq2 hva3 hvb3 hll3 hll3 true (by simp)).mono ?_
      rintro e wq3 ⟨rfl, hg⟩
      replace hV := hV.gr hg
      replace hva4 := hva4.gr hg
      replace hvb4 := hvb4.gr hg
      clear hg hva3 hvb3
      go_wp2_with fail
      refine (rweq_c wq3 hva4 hvb4 hll4 hll4 true (by simp)).mono ?_
      rintro e wq4 ⟨rfl, hg⟩
      replace hV := hV.gr hg
      clear hg hva4 hvb4
      go_wp2_with fail
      have hc := hV.C
      have hG := hV.G
      refine (next_nat b 65536 wq4 (by omega) (by omega) hc).mono ?_
      rintro e wn1 ⟨i1, rfl, hi1, hc', hx⟩
      replace hV := hV.ex hx hc' hg5 hg6 hg7 hg8 hbw
      clear hc' hx
      go_wp2_with fail
      refine (next_nat b 65536 wn1 (by omega) (by omega) hV.C).mono ?_
      rintro e wn2 ⟨i2, rfl, hi2, hc', hx⟩
      replace hV := hV.ex hx hc' hg5 hg6 hg7 hg8 hbw
      clear hc' hx
      obtain ⟨-, f0, f1, f2, f3⟩ := hV.c5.four
      obtain ⟨⟨x0, x1, x2, x3⟩, -⟩ := hV.c5.four
      go_upto_region 19 with fail
      have hb8 : g8 < b := hgb8
      replace hV := hV.s5 ⟨hle5, hle6, hle7, hle8⟩ (Nat.le_refl _) hgb8 i1 i2
      clear f0 f1 f2 f3 x0 x1 x2 x3 hb8
      generalize (wn2.setCell ⟨g5, 1, none⟩ (.int .i64 (i1 : Int))).setCell ⟨g5, 2, none⟩ (.int .i64 (i2 : Int)) = wm at hV ⊢
      refine region_cut4 ?aF (fun _ _ t c W => VSt w W w.heap.size b g5 g6 g7 g8 r i1 i2 t c p q a a2 sq ak fl wi (.slice ae N1 ce) (.slice an N2 cn) (.slice au N3 cu) (.slice at1 N4 ct)) ?h ?k
      case h =>
        replace hV := hV.gr (Gr.drew (Gr.refl wm))
        refine region_plain (fun _ => True) (by kernel_rfl) ?_
        generalize wm.drew = w7 at hV ⊢
        refine take_at 1 (some 186) (v := ?vek1) rfl rfl (by kernel_rfl) (by kernel_rfl) (by kernel_rfl) (by rfl) ?yek1 trivial ?tek1
        case yek1 =>
          intro w' hSw
          go_simp
          (try with_reducible rfl)
        simp only [Act.put, List.setIfInBounds_toArray, List.set_cons_zero, List.set_cons_succ]
        refine take_at 5 (some 190) (v := ?vek5) rfl rfl (by kernel_rfl) (by kernel_rfl) (by kernel_rfl) (by rfl) ?yek5 trivial ?tek5
        case yek5 =>
          intro w' hSw
          go_simp
          (try with_reducible rfl)
        simp only [Act.put, List.setIfInBounds_toArray, List.set_cons_zero, List.set_cons_succ]
        refine next_two 0 2 rfl rfl (by kernel_rfl) (by rfl) (by rfl) (fun K hK => ?_) (fun K hK => ?_)
        · skip
          go_simp
          have hcl := CL.new w7 [.int .i64 3, .int .i64 11, .int .i64 0] 3 _ rfl
          have hg := Gr.alloc (Gr.refl w7) (.cells #[.int .i64 3, .int .i64 11, .int .i64 0] 3)
          have hgb : w7.heap.size ≠ b := by have := hV.C.lt; omega
          replace hV := hV.gr hg
          refine hK _ _ trivial ?_
          clear hK K hg
          generalize w7.alloc (.cells #[.int .i64 3, .int .i64 11, .int .i64 0] 3) = w8 at hV hcl ⊢
          generalize w7.heap.size = g at hcl hgb ⊢
          refine next_at 2 rfl (by kernel_rfl) (by rfl) (fun K hK => ?_)
          go_simp
          refine (next_nat b 3 w8 (by omega) (by omega) hV.C).mono ?_
          rintro e w9 ⟨z3, rfl, hz3, hc', hx⟩
          replace hcl := hcl.ex hx hgb
          replace hV := hV.ex hx hc' hg5 hg6 hg7 hg8 hbw
          clear hc' hx
          have hz33 : (z3 : Int) < 3 := by omega
          refine hK _ _ trivial ?_
          clear hK K
          refine take_at 3 (some 188) (v := ?vea3) rfl rfl (by kernel_rfl) (by kernel_rfl) (by kernel_rfl) (by rfl) ?yea3 trivial ?tea3
          case yea3 =>
            intro w' hSw
            go_simp
            (try with_reducible rfl)
          simp only [Act.put, List.setIfInBounds_toArray, List.set_cons_zero, List.set_cons_succ]
          refine next_two 4 6 rfl rfl (by kernel_rfl) (by rfl) (by rfl) (fun K hK => ?_) (fun K hK => ?_)
          · skip
            obtain ⟨t3, hcell⟩ : ∃ t3 : Nat, w9.cell? ⟨g, z3, none⟩ = some (.int .i64 t3) := by
              rcases (show z3 = 0 ∨ z3 = 1 ∨ z3 = 2 by omega) with rfl | rfl | rfl
              · exact ⟨3, (hcl.at' 0 _ rfl).1⟩
              · exact ⟨11, (hcl.at' 1 _ rfl).1⟩
              · exact ⟨0, (hcl.at' 2 _ rfl).1⟩
            go_simp
            refine hK _ _ trivial ?_
            clear hK K hcell
            refine take_at 7 (some 192) (v := ?vea7) rfl rfl (by kernel_rfl) (by kernel_rfl) (by kernel_rfl) (by rfl) ?yea7 trivial ?tea7
            case yea7 =>
              intro w' hSw
              go_simp
              (try with_reducible rfl)
            simp only [Act.put, List.setIfInBounds_toArray, List.set_cons_zero, List.set_cons_succ]
            refine next_at 6 rfl (by kernel_rfl) (by rfl) (fun K hK => ?_)
            go_simp
            refine (next_nat b 257 w9 (by omega) (by omega) hV.C).mono ?_
            rintro e wx ⟨c3, rfl, hc3, hc', hx⟩
            skip
            replace hV := hV.ex hx hc' hg5 hg6 hg7 hg8 hbw
            clear hc' hx
            refine hK _ _ trivial ?_
            clear hK K
            have hV2 := hV.s6 ⟨hle5, hle6, hle7, hle8⟩ (Nat.le_refl _) hgb8 t3 c3
            have hc61 := hV.c6.set 0 (.int .i64 (t3 : Int)) (by simp)
            simp only [List.set_cons_zero] at hc61
            obtain ⟨⟨x0, x1, x2⟩, f0, f1, f2⟩ := hV.c6.three
            refine next_at 8 rfl (by kernel_rfl) (by rfl) (fun K hK => ?_)
            go_simp
            refine hK _ _ trivial ?_
            clear hK K x0 x1 x2 f0 f1 f2
            refine take_at 9 (some 193) (v := ?vea9) rfl rfl (by kernel_rfl) (by kernel_rfl) (by kernel_rfl) (by rfl) ?yea9 trivial ?tea9
            case yea9 =>
              intro w' hSw
              go_simp
              (try with_reducible rfl)
            simp only [Act.put, List.setIfInBounds_toArray, List.set_cons_zero, List.set_cons_succ]
            obtain ⟨⟨x0, x1, x2⟩, f0, f1, f2⟩ := hc61.three
            refine next_at 10 rfl (by kernel_rfl) (by rfl) (fun K hK => ?_)
            go_simp
            refine hK _ _ trivial ?_
            clear hK K x0 x1 x2 f0 f1 f2
            refine wpAnyH_done (by kernel_rfl) ?_ _
            refine qz_normal ⟨rfl, g, z3, t3, c3, ?_, hV2⟩
            first | with_reducible rfl | exact rfl
          · skip
            go_simp
            refine (next_nat b 257 w9 (by omega) (by omega) hV.C).mono ?_
            rintro e wx ⟨c3, rfl, hc3, hc', hx⟩
            replace hcl := hcl.ex hx hgb
            replace hV := hV.ex hx hc' hg5 hg6 hg7 hg8 hbw
            clear hc' hx
            refine hK _ _ trivial ?_
            clear hK K
            refine next_at 4 rfl (by kernel_rfl) (by rfl) (fun K hK => ?_)
            obtain ⟨t3, hcell⟩ : ∃ t3 : Nat, wx.cell? ⟨g, z3, none⟩ = some (.int .i64 t3) := by
              rcases (show z3 = 0 ∨ z3 = 1 ∨ z3 = 2 by omega) with rfl | rfl | rfl
              · exact ⟨3, (hcl.at' 0 _ rfl).1⟩
              · exact ⟨11, (hcl.at' 1 _ rfl).1⟩
              · exact ⟨0, (hcl.at' 2 _ rfl).1⟩
            go_simp
            refine hK _ _ trivial ?_
            clear hK K hcell
            refine take_at 7 (some 192) (v := ?veb7) rfl rfl (by kernel_rfl) (by kernel_rfl) (by kernel_rfl) (by rfl) ?yeb7 trivial ?teb7
            case yeb7 =>
              intro w' hSw
              go_simp
              (try with_reducible rfl)
            simp only [Act.put, List.setIfInBounds_toArray, List.set_cons_zero, List.set_cons_succ]
            have hV2 := hV.s6 ⟨hle5, hle6, hle7, hle8⟩ (Nat.le_refl _) hgb8 t3 c3
            have hc61 := hV.c6.set 0 (.int .i64 (t3 : Int)) (by simp)
            simp only [List.set_cons_zero] at hc61
            obtain ⟨⟨x0, x1, x2⟩, f0, f1, f2⟩ := hV.c6.three
            refine next_at 8 rfl (by kernel_rfl) (by rfl) (fun K hK => ?_)
            go_simp
            refine hK _ _ trivial ?_
            clear hK K x0 x1 x2 f0 f1 f2
            refine take_at 9 (some 193) (v := ?veb9) rfl rfl (by kernel_rfl) (by kernel_rfl) (by kernel_rfl) (by rfl) ?yeb9 trivial ?teb9
            case yeb9 =>
              intro w' hSw
              go_simp
              (try with_reducible rfl)
            simp only [Act.put, List.setIfInBounds_toArray, List.set_cons_zero, List.set_cons_succ]
            obtain ⟨⟨x0, x1, x2⟩, f0, f1, f2⟩ := hc61.three
            refine next_at 10 rfl (by kernel_rfl) (by rfl) (fun K hK => ?_)
            go_simp
            refine hK _ _ trivial ?_
            clear hK K x0 x1 x2 f0 f1 f2
            refine wpAnyH_done (by kernel_rfl) ?_ _
            refine qz_normal ⟨rfl, g, z3, t3, c3, ?_, hV2⟩
            first | with_reducible rfl | exact rfl
        · skip
          go_simp
          refine (next_nat b 3 w7 (by omega) (by omega) hV.C).mono ?_
          rintro e w8 ⟨z3, rfl, hz3, hc', hx⟩
          skip
          replace hV := hV.ex hx hc' hg5 hg6 hg7 hg8 hbw
          clear hc' hx
          have hz33 : (z3 : Int) < 3 := by omega
          refine hK _ _ trivial ?_
          clear hK K
          refine next_two 0 6 rfl rfl (by kernel_rfl) (by rfl) (by rfl) (fun K hK => ?_) (fun K hK => ?_)
          · skip
            go_simp
            have hcl := CL.new w8 [.int .i64 3, .int .i64 11, .int .i64 0] 3 _ rfl
            have hg := Gr.alloc (Gr.refl w8) (.cells #[.int .i64 3, .int .i64 11, .int .i64 0] 3)
            have hgb : w8.heap.size ≠ b := by have := hV.C.lt; omega
            replace hV := hV.gr hg
            refine hK _ _ trivial ?_
            clear hK K hg
            generalize w8.alloc (.cells #[.int .i64 3, .int .i64 11, .int .i64 0] 3) = w9 at hV hcl ⊢
            generalize w8.heap.size = g at hcl hgb ⊢
            refine take_at 3 (some 188) (v := ?veb3) rfl rfl (by kernel_rfl) (by kernel_rfl) (by kernel_rfl) (by rfl) ?yeb3 trivial ?teb3
            case yeb3 =>
              intro w' hSw
              go_simp
              (try with_reducible rfl)
            simp only [Act.put, List.setIfInBounds_toArray, List.set_cons_zero, List.set_cons_succ]
            refine next_two 4 6 rfl rfl (by kernel_rfl) (by rfl) (by rfl) (fun K hK => ?_) (fun K hK => ?_)
            · skip
              obtain ⟨t3, hcell⟩ : ∃ t3 : Nat, w9.cell? ⟨g, z3, none⟩ = some (.int .i64 t3) := by
                rcases (show z3 = 0 ∨ z3 = 1 ∨ z3 = 2 by omega) with rfl | rfl | rfl
                · exact ⟨3, (hcl.at' 0 _ rfl).1⟩
                · exact ⟨11, (hcl.at' 1 _ rfl).1⟩
                · exact ⟨0, (hcl.at' 2 _ rfl).1⟩
              go_simp
              refine hK _ _ trivial ?_
              clear hK K hcell
              refine take_at 7 (some 192) (v := ?vec7) rfl rfl (by kernel_rfl) (by kernel_rfl) (by kernel_rfl) (by rfl) ?yec7 trivial ?tec7
              case yec7 =>
                intro w' hSw
                go_simp
                (try with_reducible rfl)
              simp only [Act.put, List.setIfInBounds_toArray, List.set_cons_zero, List.set_cons_succ]
              refine next_at 6 rfl (by kernel_rfl) (by rfl) (fun K hK => ?_)
              go_simp
              refine (next_nat b 257 w9 (by omega) (by omega) hV.C).mono ?_
              rintro e wx ⟨c3, rfl, hc3, hc', hx⟩
              skip
              replace hV := hV.ex hx hc' hg5 hg6 hg7 hg8 hbw
              clear hc' hx
              refine hK _ _ trivial ?_
              clear hK K
              have hV2 := hV.s6 ⟨hle5, hle6, hle7, hle8⟩ (Nat.le_refl _) hgb8 t3 c3
              have hc61 := hV.c6.set 0 (.int .i64 (t3 : Int)) (by simp)
              simp only [List.set_cons_zero] at hc61
              obtain ⟨⟨x0, x1, x2⟩, f0, f1, f2⟩ := hV.c6.three
              refine next_at 8 rfl (by kernel_rfl) (by rfl) (fun K hK => ?_)
              go_simp
              refine hK _ _ trivial ?_
              clear hK K x0 x1 x2 f0 f1 f2
              refine take_at 9 (some 193) (v := ?vec9) rfl rfl (by kernel_rfl) (by kernel_rfl) (by kernel_rfl) (by rfl) ?yec9 trivial ?tec9
              case yec9 =>
                intro w' hSw
                go_simp
                (try with_reducible rfl)
              simp only [Act.put, List.setIfInBounds_toArray, List.set_cons_zero, List.set_cons_succ]
              obtain ⟨⟨x0, x1, x2⟩, f0, f1, f2⟩ := hc61.three
              refine next_at 10 rfl (by kernel_rfl) (by rfl) (fun K hK => ?_)
              go_simp
              refine hK _ _ trivial ?_
              clear hK K x0 x1 x2 f0 f1 f2
              refine wpAnyH_done (by kernel_rfl) ?_ _
              refine qz_normal ⟨rfl, g, z3, t3, c3, ?_, hV2⟩
              first | with_reducible rfl | exact rfl
            · skip
              go_simp
              refine (next_nat b 257 w9 (by omega) (by omega) hV.C).mono ?_
              rintro e wx ⟨c3, rfl, hc3, hc', hx⟩
              replace hcl := hcl.ex hx hgb
              replace hV := hV.ex hx hc' hg5 hg6 hg7 hg8 hbw
              clear hc' hx
              refine hK _ _ trivial ?_
              clear hK K
              refine next_at 4 rfl (by kernel_rfl) (by rfl) (fun K hK => ?_)
              obtain ⟨t3, hcell⟩ : ∃ t3 : Nat, wx.cell? ⟨g, z3, none⟩ = some (.int .i64 t3) := by
                rcases (show z3 = 0 ∨ z3 = 1 ∨ z3 = 2 by omega) with rfl | rfl | rfl
                · exact ⟨3, (hcl.at' 0 _ rfl).1⟩
                · exact ⟨11, (hcl.at' 1 _ rfl).1⟩
                · exact ⟨0, (hcl.at' 2 _ rfl).1⟩
              go_simp
              refine hK _ _ trivial ?_
              clear hK K hcell
              refine take_at 7 (some 192) (v := ?ved7) rfl rfl (by kernel_rfl) (by kernel_rfl) (by kernel_rfl) (by rfl) ?yed7 trivial ?ted7
              case yed7 =>
                intro w' hSw
                go_simp
                (try with_reducible rfl)
              simp only [Act.put, List.setIfInBounds_toArray, List.set_cons_zero, List.set_cons_succ]
              have hV2 := hV.s6 ⟨hle5, hle6, hle7, hle8⟩ (Nat.le_refl _) hgb8 t3 c3
              have hc61 := hV.c6.set 0 (.int .i64 (t3 : Int)) (by simp)
              simp only [List.set_cons_zero] at hc61
              obtain ⟨⟨x0, x1, x2⟩, f0, f1, f2⟩ := hV.c6.three
              refine next_at 8 rfl (by kernel_rfl) (by rfl) (fun K hK => ?_)
              go_simp
              refine hK _ _ trivial ?_
              clear hK K x0 x1 x2 f0 f1 f2
              refine take_at 9 (some 193) (v := ?ved9) rfl rfl (by kernel_rfl) (by kernel_rfl) (by kernel_rfl) (by rfl) ?yed9 trivial ?ted9
              case yed9 =>
                intro w' hSw
                go_simp
                (try with_reducible rfl)
              simp only [Act.put, List.setIfInBounds_toArray, List.set_cons_zero, List.set_cons_succ]
              obtain ⟨⟨x0, x1, x2⟩, f0, f1, f2⟩ := hc61.three
              refine next_at 10 rfl (by kernel_rfl) (by rfl) (fun K hK => ?_)
              go_simp
              refine hK _ _ trivial ?_
              clear hK K x0 x1 x2 f0 f1 f2
              refine wpAnyH_done (by kernel_rfl) ?_ _
              refine qz_normal ⟨rfl, g, z3, t3, c3, ?_, hV2⟩
              first | with_reducible rfl | exact rfl
          · skip
            go_simp
            refine (next_nat b 257 w8 (by omega) (by omega) hV.C).mono ?_
            rintro e w9 ⟨c3, rfl, hc3, hc', hx⟩
            skip
            replace hV := hV.ex hx hc' hg5 hg6 hg7 hg8 hbw
            clear hc' hx
            refine hK _ _ trivial ?_
            clear hK K
            refine next_at 0 rfl (by kernel_rfl) (by rfl) (fun K hK => ?_)
            go_simp
            have hcl := CL.new w9 [.int .i64 3, .int .i64 11, .int .i64 0] 3 _ rfl
            have hg := Gr.alloc (Gr.refl w9) (.cells #[.int .i64 3, .int .i64 11, .int .i64 0] 3)
            have hgb : w9.heap.size ≠ b := by have := hV.C.lt; omega
            replace hV := hV.gr hg
            refine hK _ _ trivial ?_
            clear hK K hg
            generalize w9.alloc (.cells #[.int .i64 3, .int .i64 11, .int .i64 0] 3) = wx at hV hcl ⊢
            generalize w9.heap.size = g at hcl hgb ⊢
            refine take_at 3 (some 188) (v := ?vee3) rfl rfl (by kernel_rfl) (by kernel_rfl) (by kernel_rfl) (by rfl) ?yee3 trivial ?tee3
            case yee3 =>
              intro w' hSw
              go_simp
              (try with_reducible rfl)
            simp only [Act.put, List.setIfInBounds_toArray, List.set_cons_zero, List.set_cons_succ]
            refine next_at 4 rfl (by kernel_rfl) (by rfl) (fun K hK => ?_)
            obtain ⟨t3, hcell⟩ : ∃ t3 : Nat, wx.cell? ⟨g, z3, none⟩ = some (.int .i64 t3) := by
              rcases (show z3 = 0 ∨ z3 = 1 ∨ z3 = 2 by omega) with rfl | rfl | rfl
              · exact ⟨3, (hcl.at' 0 _ rfl).1⟩
              · exact ⟨11, (hcl.at' 1 _ rfl).1⟩
              · exact ⟨0, (hcl.at' 2 _ rfl).1⟩
            go_simp
            refine hK _ _ trivial ?_
            clear hK K hcell
            refine take_at 7 (some 192) (v := ?vee7) rfl rfl (by kernel_rfl) (by kernel_rfl) (by kernel_rfl) (by rfl) ?yee7 trivial ?tee7
            case yee7 =>
              intro w' hSw
              go_simp
              (try with_reducible rfl)
            simp only [Act.put, List.setIfInBounds_toArray, List.set_cons_zero, List.set_cons_succ]
            have hV2 := hV.s6 ⟨hle5, hle6, hle7, hle8⟩ (Nat.le_refl _) hgb8 t3 c3
            have hc61 := hV.c6.set 0 (.int .i64 (t3 : Int)) (by simp)
            simp only [List.set_cons_zero] at hc61
            obtain ⟨⟨x0, x1, x2⟩, f0, f1, f2⟩ := hV.c6.three
            refine next_at 8 rfl (by kernel_rfl) (by rfl) (fun K hK => ?_)
            go_simp
            refine hK _ _ trivial ?_
            clear hK K x0 x1 x2 f0 f1 f2
            refine take_at 9 (some 193) (v := ?vee9) rfl rfl (by kernel_rfl) (by kernel_rfl) (by kernel_rfl) (by rfl) ?yee9 trivial ?tee9
            case yee9 =>
              intro w' hSw
              go_simp
              (try with_reducible rfl)
            simp only [Act.put, List.setIfInBounds_toArray, List.set_cons_zero, List.set_cons_succ]
            obtain ⟨⟨x0, x1, x2⟩, f0, f1, f2⟩ := hc61.three
            refine next_at 10 rfl (by kernel_rfl) (by rfl) (fun K hK => ?_)
            go_simp
            refine hK _ _ trivial ?_
            clear hK K x0 x1 x2 f0 f1 f2
            refine wpAnyH_done (by kernel_rfl) ?_ _
            refine qz_normal ⟨rfl, g, z3, t3, c3, ?_, hV2⟩
            first | with_reducible rfl | exact rfl
      case k =>
        clear hV
        intro g z3 t3 c3 w8 hV
        go_wp2_with fail
        refine (next_nat b 65536 w8 (by omega) (by omega) hV.C).mono ?_
        rintro e w9 ⟨p1, rfl, hltp1, hc', hx⟩
        replace hV := hV.ex hx hc' hg5 hg6 hg7 hg8 hbw
        clear hc' hx
        go_wp2_with fail
        refine (next_nat b 65537 w9 (by omega) (by omega) hV.C).mono ?_
        rintro e w10 ⟨p2, rfl, hltp2, hc', hx⟩
        replace hV := hV.ex hx hc' hg5 hg6 hg7 hg8 hbw
        clear hc' hx
        obtain ⟨⟨x0, x1, x2⟩, f0, f1, f2⟩ := hV.c7.three
        go_upto_region 21 with fail
        replace hV := hV.s7 ⟨hle5, hle6, hle7, hle8⟩ (Nat.le_refl _) hgb8 p1 p2
        clear f0 f1 f2 x0 x1 x2
        generalize (w10.setCell ⟨g7, 0, none⟩ (.int .i64 (p1 : Int))).setCell ⟨g7, 1, none⟩ (.int .i64 (p2 : Int)) = w11 at hV ⊢
        go_wp2_with fail
        refine (next_nat b 65536 w11 (by omega) (by omega) hV.C).mono ?_
        rintro e w12 ⟨q1, rfl, hltq1, hc', hx⟩
        replace hV := hV.ex hx hc' hg5 hg6 hg7 hg8 hbw
        clear hc' hx
        go_wp2_with fail
        refine (next_nat b 65536 w12 (by omega) (by omega) hV.C).mono ?_
        rintro e w13 ⟨q2, rfl, hltq2, hc', hx⟩
        replace hV := hV.ex hx hc' hg5 hg6 hg7 hg8 hbw
        clear hc' hx
        go_wp2_with fail
        refine (next_nat b 65536 w13 (by omega) (by omega) hV.C).mono ?_
        rintro e w14 ⟨q3, rfl, hltq3, hc', hx⟩
        replace hV := hV.ex hx hc' hg5 hg6 hg7 hg8 hbw
        clear hc' hx
        go_wp2_with fail
        refine (next_nat b 2 w14 (by omega) (by omega) hV.C).mono ?_
        rintro e w15 ⟨q4, rfl, hltq4, hc', hx⟩
        replace hV := hV.ex hx hc' hg5 hg6 hg7 hg8 hbw
        clear hc' hx
        go_wp2_with fail
        refine (next_nat b 256 w15 (by omega) (by omega) hV.C).mono ?_
        rintro e w16 ⟨q5, rfl, hltq5, hc', hx⟩
        replace hV := hV.ex hx hc' hg5 hg6 hg7 hg8 hbw
        clear hc' hx
        go_wp2_with fail
        refine (next_nat b 65536 w16 (by omega) (by omega) hV.C).mono ?_
        rintro e w17 ⟨q6, rfl, hltq6, hc', hx⟩
        replace hV := hV.ex hx hc' hg5 hg6 hg7 hg8 hbw
        clear hc' hx
        obtain ⟨⟨x0, x1, x2, x3, x4, x5, x6⟩, f0, f1, f2, f3, f4, f5, f6⟩ := hV.c8.seven
        have hV2 := hV.s8 ⟨hle5, hle6, hle7, hle8⟩ (Nat.le_refl _) hgb8 q1 q2 q3 (4294967295 - q4) q5 q6
        go_wp2_with fail
        case roundEnd =>
          exact ⟨⟨k + 1, i1, i2, t3, c3, p1, p2, q1, q2, q3, 4294967295 - q4, q5, q6, by omega, by simp, hV2⟩, by simp [intOf]; omega⟩
    · obtain rfl : k = 2 := by omega
      have HC := Lib.hid hV.c5
      have hG := hV.G
      have HP1 := Lib.hid (fun wj (g : Gr w wj) => pseudo_any src dst x wj (HRE.out.gr g) HLE.out hsrc hdst)
      have HP2 := Lib.hid (fun wj (g : Gr w wj) => r6pseudo_any src dst x wj (HRE.out.gr g) HLE.out hsrc hdst)
      have HP3 := Lib.hid (fun wj (g : Gr w wj) => pseudo_any src dst 17 wj (HRE.out.gr g) HLE.out hsrc hdst)
      have HP4 := Lib.hid (fun wj (g : Gr w wj) => r6pseudo_any src dst 17 wj (HRE.out.gr g) HLE.out hsrc hdst)
      generalize pcE src dst x le = P at *
      generalize pcE src dst 17 le = P17 at *
      clear hV
      go_wp2_with fail
      have hS : Gr wr wr.drew := Gr.drew (Gr.refl _)
      refine region_plain (Gr wr) (by kernel_rfl) ?_
      generalize wr.drew = ws at hS ⊢
      refine take_at 0 (some 219) (v := ?vq0) rfl rfl (by kernel_rfl) (by kernel_rfl) (by kernel_rfl) (by rfl) ?yq0 hS ?tq0
      case yq0 =>
        intro w' hSw
        obtain ⟨⟨q0, q1, q2, q3⟩, -⟩ := (HC.out.gr hSw).four
        go_simp
        (try with_reducible rfl)
      simp only [Act.put, List.setIfInBounds_toArray, List.set_cons_zero, List.set_cons_succ]
      refine take_at 1 (some 220) (v := ?vq1) rfl rfl (by kernel_rfl) (by kernel_rfl) (by kernel_rfl) (by rfl) ?yq1 hS ?tq1
      case yq1 =>
        intro w' hSw
        obtain ⟨⟨q0, q1, q2, q3⟩, -⟩ := (HC.out.gr hSw).four
        go_simp
        (try with_reducible rfl)
      simp only [Act.put, List.setIfInBounds_toArray, List.set_cons_zero, List.set_cons_succ]
      refine take_at 2 (some 221) (v := ?vq2) rfl rfl (by kernel_rfl) (by kernel_rfl) (by kernel_rfl) (by rfl) ?yq2 hS ?tq2
      case yq2 =>
        intro w' hSw
        obtain ⟨⟨q0, q1, q2, q3⟩, -⟩ := (HC.out.gr hSw).four
        go_simp
        (try with_reducible rfl)
      simp only [Act.put, List.setIfInBounds_toArray, List.set_cons_zero, List.set_cons_succ]
      refine take_at 3 (some 222) (v := ?vq3) rfl rfl (by kernel_rfl) (by kernel_rfl) (by kernel_rfl) (by rfl) ?yq3 hS ?tq3
      case yq3 =>
        intro w' hSw
        obtain ⟨⟨q0, q1, q2, q3⟩, -⟩ := (HC.out.gr hSw).four
        go_simp
        (try with_reducible rfl)
      simp only [Act.put, List.setIfInBounds_toArray, List.set_cons_zero, List.set_cons_succ]
      refine take_at 4 (some 223) (v := ?vq4) rfl rfl (by kernel_rfl) (by kernel_rfl) (by kernel_rfl) (by rfl) ?yq4 hS ?tq4
      case yq4 =>
        intro w' hSw
        obtain ⟨⟨q0, q1, q2, q3⟩, -⟩ := (HC.out.gr hSw).four
        go_simp
        (try with_reducible rfl)
      simp only [Act.put, List.setIfInBounds_toArray, List.set_cons_zero, List.set_cons_succ]
      refine take_at 5 (some 224) (v := ?vq5) rfl rfl (by kernel_rfl) (by kernel_rfl) (by kernel_rfl) (by rfl) ?yq5 hS ?tq5
      case yq5 =>
        intro w' hSw
        obtain ⟨⟨q0, q1, q2, q3⟩, -⟩ := (HC.out.gr hSw).four
        go_simp
        (try with_reducible rfl)
      simp only [Act.put, List.setIfInBounds_toArray, List.set_cons_zero, List.set_cons_succ]
      refine take_at 7 (some 226) (v := ?vq7) rfl rfl (by kernel_rfl) (by kernel_rfl) (by kernel_rfl) (by rfl) ?yq7 hS ?tq7
      case yq7 =>
        intro w' hSw
        obtain ⟨⟨q0, q1, q2, q3⟩, -⟩ := (HC.out.gr hSw).four
        go_simp
        (try with_reducible rfl)
      simp only [Act.put, List.setIfInBounds_toArray, List.set_cons_zero, List.set_cons_succ]
      refine take_at 8 (some 227) (v := ?vq8) rfl rfl (by kernel_rfl) (by kernel_rfl) (by kernel_rfl) (by rfl) ?yq8 hS ?tq8
      case yq8 =>
        intro w' hSw
        obtain ⟨⟨q0, q1, q2, q3⟩, -⟩ := (HC.out.gr hSw).four
        go_simp
        (try with_reducible rfl)
      simp only [Act.put, List.setIfInBounds_toArray, List.set_cons_zero, List.set_cons_succ]
      refine take_at 9 (some 228) (v := ?vq9) rfl rfl (by kernel_rfl) (by kernel_rfl) (by kernel_rfl) (by rfl) ?yq9 hS ?tq9
      case yq9 =>
        intro w' hSw
        obtain ⟨⟨q0, q1, q2, q3⟩, -⟩ := (HC.out.gr hSw).four
        go_simp
        (try with_reducible rfl)
      simp only [Act.put, List.setIfInBounds_toArray, List.set_cons_zero, List.set_cons_succ]
      refine take_at 10 (some 229) (v := ?vq10) rfl rfl (by kernel_rfl) (by kernel_rfl) (by kernel_rfl) (by rfl) ?yq10 hS ?tq10
      case yq10 =>
        intro w' hSw
        obtain ⟨⟨q0, q1, q2, q3⟩, -⟩ := (HC.out.gr hSw).four
        go_simp
        (try with_reducible rfl)
      simp only [Act.put, List.setIfInBounds_toArray, List.set_cons_zero, List.set_cons_succ]
      refine take_at 11 (some 230) (v := ?vq11) rfl rfl (by kernel_rfl) (by kernel_rfl) (by kernel_rfl) (by rfl) ?yq11 hS ?tq11
      case yq11 =>
        intro w' hSw
        obtain ⟨⟨q0, q1, q2, q3⟩, -⟩ := (HC.out.gr hSw).four
        go_simp
        (try with_reducible rfl)
      simp only [Act.put, List.setIfInBounds_toArray, List.set_cons_zero, List.set_cons_succ]
      refine take_at 12 (some 231) (v := ?vq12) rfl rfl (by kernel_rfl) (by kernel_rfl) (by kernel_rfl) (by rfl) ?yq12 hS ?tq12
      case yq12 =>
        intro w' hSw
        obtain ⟨⟨q0, q1, q2, q3⟩, -⟩ := (HC.out.gr hSw).four
        go_simp
        (try with_reducible rfl)
      simp only [Act.put, List.setIfInBounds_toArray, List.set_cons_zero, List.set_cons_succ]
      refine next_at 6 rfl (by kernel_rfl) (by rfl) (fun K hK => ?_)
      go_simp
      refine (HP1.out _ (hG.step hS)).mono ?_
      rintro e wj ⟨rfl, hg⟩
      replace hS := Gr.step hS hg
      refine hK _ _ hS ?_
      clear hK K hg
      refine next_at 13 rfl (by kernel_rfl) (by rfl) (fun K hK => ?_)
      go_simp
      refine (HP2.out _ (hG.step hS)).mono ?_
      rintro e wj ⟨rfl, hg⟩
      replace hS := Gr.step hS hg
      refine hK _ _ hS ?_
      clear hK K hg
      refine next_at 14 rfl (by kernel_rfl) (by rfl) (fun K hK => ?_)
      go_simp
      refine hK _ _ hS ?_
      clear hK K
      refine next_at 15 rfl (by kernel_rfl) (by rfl) (fun K hK => ?_)
      go_simp
      refine hK _ _ hS ?_
      clear hK K
      refine take_at 16 (some 235) (v := ?vq16) rfl rfl (by kernel_rfl) (by kernel_rfl) (by kernel_rfl) (by rfl) ?yq16 hS ?tq16
      case yq16 =>
        intro w' hSw
        obtain ⟨⟨q0, q1, q2, q3⟩, -⟩ := (HC.out.gr hSw).four
        go_simp
        (try with_reducible rfl)
      simp only [Act.put, List.setIfInBounds_toArray, List.set_cons_zero, List.set_cons_succ]
      refine take_at 17 (some 236) (v := ?vq17) rfl rfl (by kernel_rfl) (by kernel_rfl) (by kernel_rfl) (by rfl) ?yq17 hS ?tq17
      case yq17 =>
        intro w' hSw
        obtain ⟨⟨q0, q1, q2, q3⟩, -⟩ := (HC.out.gr hSw).four
        go_simp
        (try with_reducible rfl)
      simp only [Act.put, List.setIfInBounds_toArray, List.set_cons_zero, List.set_cons_succ]
      refine take_at 18 (some 237) (v := ?vq18) rfl rfl (by kernel_rfl) (by kernel_rfl) (by kernel_rfl) (by rfl) ?yq18 hS ?tq18
      case yq18 =>
        intro w' hSw
        obtain ⟨⟨q0, q1, q2, q3⟩, -⟩ := (HC.out.gr hSw).four
        go_simp
        (try with_reducible rfl)
      simp only [Act.put, List.setIfInBounds_toArray, List.set_cons_zero, List.set_cons_succ]
      refine take_at 19 (some 238) (v := ?vq19) rfl rfl (by kernel_rfl) (by kernel_rfl) (by kernel_rfl) (by rfl) ?yq19 hS ?tq19
      case yq19 =>
        intro w' hSw
        obtain ⟨⟨q0, q1, q2, q3⟩, -⟩ := (HC.out.gr hSw).four
        go_simp
        (try with_reducible rfl)
      simp only [Act.put, List.setIfInBounds_toArray, List.set_cons_zero, List.set_cons_succ]
      refine take_at 21 (some 240) (v := ?vq21) rfl rfl (by kernel_rfl) (by kernel_rfl) (by kernel_rfl) (by rfl) ?yq21 hS ?tq21
      case yq21 =>
        intro w' hSw
        obtain ⟨⟨q0, q1, q2, q3⟩, -⟩ := (HC.out.gr hSw).four
        go_simp
        (try with_reducible rfl)
      simp only [Act.put, List.setIfInBounds_toArray, List.set_cons_zero, List.set_cons_succ]
      refine take_at 22 (some 241) (v := ?vq22) rfl rfl (by kernel_rfl) (by kernel_rfl) (by kernel_rfl) (by rfl) ?yq22 hS ?tq22
      case yq22 =>
        intro w' hSw
        obtain ⟨⟨q0, q1, q2, q3⟩, -⟩ := (HC.out.gr hSw).four
        go_simp
        (try with_reducible rfl)
      simp only [Act.put, List.setIfInBounds_toArray, List.set_cons_zero, List.set_cons_succ]
      refine take_at 23 (some 242) (v := ?vq23) rfl rfl (by kernel_rfl) (by kernel_rfl) (by kernel_rfl) (by rfl) ?yq23 hS ?tq23
      case yq23 =>
        intro w' hSw
        obtain ⟨⟨q0, q1, q2, q3⟩, -⟩ := (HC.out.gr hSw).four
        go_simp
        (try with_reducible rfl)
      simp only [Act.put, List.setIfInBounds_toArray, List.set_cons_zero, List.set_cons_succ]
      refine take_at 24 (some 243) (v := ?vq24) rfl rfl (by kernel_rfl) (by kernel_rfl) (by kernel_rfl) (by rfl) ?yq24 hS ?tq24
      case yq24 =>
        intro w' hSw
        obtain ⟨⟨q0, q1, q2, q3⟩, -⟩ := (HC.out.gr hSw).four
        go_simp
        (try with_reducible rfl)
      simp only [Act.put, List.setIfInBounds_toArray, List.set_cons_zero, List.set_cons_succ]
      refine next_at 20 rfl (by kernel_rfl) (by rfl) (fun K hK => ?_)
      go_simp
      refine (HP3.out _ (hG.step hS)).mono ?_
      rintro e wj ⟨rfl, hg⟩
      replace hS := Gr.step hS hg
      refine hK _ _ hS ?_
      clear hK K hg
      refine next_at 25 rfl (by kernel_rfl) (by rfl) (fun K hK => ?_)
      go_simp
      refine (HP4.out _ (hG.step hS)).mono ?_
      rintro e wj ⟨rfl, hg⟩
      replace hS := Gr.step hS hg
      refine hK _ _ hS ?_
      clear hK K hg
      refine next_at 26 rfl (by kernel_rfl) (by rfl) (fun K hK => ?_)
      go_simp
      refine hK _ _ hS ?_
      clear hK K
      refine next_at 27 rfl (by kernel_rfl) (by rfl) (fun K hK => ?_)
      go_simp
      refine hK _ _ hS ?_
      clear hK K
      refine next_at 28 rfl (by kernel_rfl) (by rfl) (fun K hK => ?_)
      go_simp
      refine hK _ _ hS ?_
      clear hK K
      refine wpAnyH_done (by kernel_rfl) ?_ _
      refine qz_normal ?_
      have hz := hG.step hS
      go_wp2_with fail
      go_ret
      exact ⟨rfl, hz⟩
end Go.Proofs.Ytjpjnbgfodlkcaa
