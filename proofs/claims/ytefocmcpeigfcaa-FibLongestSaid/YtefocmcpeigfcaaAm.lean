/- The program's Lookup. -/
import Derived.Test.YtefocmcpeigfcaaAh
import Derived.Test.YtefocmcpeigfcaaAk
import Derived.Test.YtefocmcpeigfcaaAl
import Derived.Lib.Hide
namespace Go.Proofs.Ytefocmcpeigfcaa
open Go Go.RowKit Go.Sort
set_option maxRecDepth 100000
set_option linter.unusedVariables false
attribute [local go_sem] Oper.semAt_some
/-- the last route that contains an address -/
def lastC : List Rt → Int → Option Rt
  | [], _ => none
  | r :: t, x => match lastC t x with
    | some y => some y
    | none => if ctn r.a r.n x = true then some r else none
theorem lastC_none : ∀ {l : List Rt} {x : Int}, (∀ (j : Nat) (r : Rt), l[j]? = some r → ctn r.a r.n x = false) → lastC l x = none
  | [], _, _ => rfl
  | r :: t, x, h => by
    rw [lastC, lastC_none fun j r hj => h (j + 1) r (by simpa using hj)]
    simp [h 0 r rfl]
theorem lastC_some : ∀ {l : List Rt} {x : Int} (m : Nat) (r : Rt), l[m]? = some r → ctn r.a r.n x = true → (∀ (j : Nat) (y : Rt), m < j → l[j]? = some y → ctn y.a y.n x = false) → lastC l x = some r
  | [], _, m, r, h, _, _ => by simp at h
  | a :: t, x, 0, r, h1, h2, h3 => by
    simp at h1; subst h1
    rw [lastC, lastC_none fun j r hj => h3 (j + 1) r (by omega) (by simpa using hj)]
    simp [h2]
  | a :: t, x, m + 1, r, h1, h2, h3 => by
    rw [lastC, lastC_some m r (by simpa using h1) h2 fun j y hj hy => h3 (j + 1) y (by omega) (by simpa using hy)]
def okR (l : List Rt) (p : Nat → Prop) (w : World) (i : Nat) (y : Rt × Value) : Prop := l[i]? = some y.1 ∧ y.1.ok ∧ Ri p w y.2 y.1.nx
theorem KeepsFrom.ofGr {B : Nat} {W W' : World} (g : Gr W W') : KeepsFrom B W W' :=
  ⟨Gr.size g, fun k o _ hk _ => (Below.block g k (Array.getElem?_eq_some_iff.1 hk).1).trans hk⟩
theorem CL.kept {W W' : World} {row : Option Nat} {g : Nat} {vs : List Value} (h : CL W g vs) (hg : W.grownBy W' row) (hr : ∀ r, row = some r → ∃ o : Obj, W.heap[r]? = some o ∧ o.isCells = false) : CL W' g vs :=
  ⟨Nat.lt_of_lt_of_le h.lt hg.size, fun i v hi => ⟨cell_kept (h.at' i v hi).1 hg hr, (frozen_kept (h.at' i v hi).1 hg hr).trans (h.at' i v hi).2⟩⟩
theorem Ri.kept {p : Nat → Prop} {W W' : World} {row : Option Nat} {v : Value} {l : List Int} (h : Ri p W v l) (hg : W.grownBy W' row) (hr : ∀ r, row = some r → ∃ o : Obj, W.heap[r]? = some o ∧ o.isCells = false) : Ri p W' v l := by
  obtain ⟨a, cap, e, hl, hc, hn, H⟩ := h
  refine ⟨a, cap, e, hl, hc, hn, fun i hi => ?_⟩
  obtain ⟨b, off, ea, hp, hcell⟩ := H i hi
  exact ⟨b, off, ea, hp, cell_kept hcell hg hr⟩
/-- none of them contains the address -/
def NoC {n : Nat} {ok : Nat → Rt × Value → Prop} (x : Int) (pre : List (Ix n ok)) : Prop := ∀ y ∈ pre, ctn y.1.2.1.a y.1.2.1.n x = false
/-- what a round of Lookup keeps -/
def LkI (m n : Nat) (ok : Nat → Rt × Value → Prop) (x : Int) (w : World) (pre : List (Ix n ok)) (W : World) : Prop :=
  (NoC x pre ∧ CL W w.heap.size [.int .u32 x] ∧ CL W (w.heap.size + 1) [.int .u32 0, .int .i64 0, .slice none 0 0, .int .i64 0] ∧ CL W (w.heap.size + 1 + 1) [.bool false] ∧ m ≤ W.heap.size) ∧ Below w.heap.size w W
/-- how it leaves -/
def LkX (n : Nat) (ok : Nat → Rt × Value → Prop) (x : Int) (w : World) (c : Code) (pre : List (Ix n ok)) (W : World) : Prop :=
  (c = .ret ∧ ∃ (ini : List (Ix n ok)) (y : Ix n ok) (nv : Value), pre = ini ++ [y] ∧ NoC x ini ∧ ctn y.1.2.1.a y.1.2.1.n x = true ∧ CL W (w.heap.size + 1) (rcl (y.1.2.1, nv)) ∧ Ri (fun b => w.heap.size ≤ b) W nv y.1.2.1.nx ∧ CL W (w.heap.size + 1 + 1) [.bool true]) ∧ Below w.heap.size w W
theorem lkI_own (k n : Nat) (ok : Nat → Rt × Value → Prop) (x : Int) (w : World) {m : Nat} (hm : w.heap.size ≤ m) : OwnFrom m (LkI k n ok x w) :=
  OwnFrom.and (Go.Own.from (fun _ _ _ _ hs hg hr => ⟨hs.1, hs.2.1.kept hg hr, hs.2.2.1.kept hg hr, hs.2.2.2.1.kept hg hr, Nat.le_trans hs.2.2.2.2 hg.size⟩) _) (ownFrom_below (Nat.le_refl _) hm)
theorem lkX_own (n : Nat) (ok : Nat → Rt × Value → Prop) (x : Int) (w : World) {m : Nat} (hm : w.heap.size ≤ m) (c : Code) : OwnFrom m (LkX n ok x w c) :=
  OwnFrom.and (Go.Own.from (fun _ _ _ _ hs hg hr => by obtain ⟨hc, ini, y, nv, e1, e2, e3, e4, e5, e6⟩ := hs; exact ⟨hc, ini, y, nv, e1, e2, e3, e4.kept hg hr, e5.kept hg hr, e6.kept hg hr⟩) _) (ownFrom_below (Nat.le_refl _) hm)
theorem gw_below {w W : World} (h : Below w.heap.size w W) (a b c d e : Value) : Below w.heap.size w (((((W.setCell ⟨w.heap.size + 1, 0, none⟩ a).setCell ⟨w.heap.size + 1, 1, none⟩ b).setCell ⟨w.heap.size + 1, 2, none⟩ c).setCell ⟨w.heap.size + 1, 3, none⟩ d).setCell ⟨w.heap.size + 1 + 1, 0, none⟩ e) :=
  ((((Gr.setCell (a := w) h (p := ⟨w.heap.size + 1, 0, none⟩) (by simp) a).setCell (p := ⟨w.heap.size + 1, 1, none⟩) (by simp) b).setCell (p := ⟨w.heap.size + 1, 2, none⟩) (by simp) c).setCell (p := ⟨w.heap.size + 1, 3, none⟩) (by simp) d).setCell (p := ⟨w.heap.size + 1 + 1, 0, none⟩) (by simp; omega) e
theorem gw_keeps (B : Nat) {w W W' : World} (h : KeepsFrom B W W') (a b c d e : Value) : KeepsFrom B W (((((W'.setCell ⟨w.heap.size + 1, 0, none⟩ a).setCell ⟨w.heap.size + 1, 1, none⟩ b).setCell ⟨w.heap.size + 1, 2, none⟩ c).setCell ⟨w.heap.size + 1, 3, none⟩ d).setCell ⟨w.heap.size + 1 + 1, 0, none⟩ e) :=
  ((((h.trans ((KeepsOthers.setCell _ _ _).from _)).trans ((KeepsOthers.setCell _ _ _).from _)).trans ((KeepsOthers.setCell _ _ _).from _)).trans ((KeepsOthers.setCell _ _ _).from _)).trans ((KeepsOthers.setCell _ _ _).from _)
theorem gw_cells {w W : World} {a' b' c' d' e' : Value} (h : CL W (w.heap.size + 1) [a', b', c', d']) (k : CL W (w.heap.size + 1 + 1) [e']) (a b c d e : Value) :
    CL (((((W.setCell ⟨w.heap.size + 1, 0, none⟩ a).setCell ⟨w.heap.size + 1, 1, none⟩ b).setCell ⟨w.heap.size + 1, 2, none⟩ c).setCell ⟨w.heap.size + 1, 3, none⟩ d).setCell ⟨w.heap.size + 1 + 1, 0, none⟩ e) (w.heap.size + 1) [a, b, c, d] ∧
    CL (((((W.setCell ⟨w.heap.size + 1, 0, none⟩ a).setCell ⟨w.heap.size + 1, 1, none⟩ b).setCell ⟨w.heap.size + 1, 2, none⟩ c).setCell ⟨w.heap.size + 1, 3, none⟩ d).setCell ⟨w.heap.size + 1 + 1, 0, none⟩ e) (w.heap.size + 1 + 1) [e] :=
  ⟨((((h.set 0 a (by simp)).set 1 b (by simp)).set 2 c (by simp)).set 3 d (by simp)).other e (by omega), ((((k.other a (by omega)).other b (by omega)).other c (by omega)).other d (by omega)).set 0 e (by simp)⟩
set_option maxHeartbeats 2000000 in
theorem look_core {p : Nat → Prop} (a : Option Addr) (n cap : Nat) (l : List Rt) (x : Int) (s e : Nat) (w : World) (h : Tb p w (.slice a n cap) l) (hf : Few l) (hx0 : 0 ≤ x) (hx1 : x < 4294967296) (hs : Cut l x 32 s) (he : e = endOf l x 32 s) :
    Calls Try.prog 15 #[.slice a n cap, .int .u32 x] w (LkPost (lastC (l.take e) x) w) := by
  have hn : n = l.length := by obtain ⟨_, _, e, _⟩ := h.form; cases e; rfl
  have hcap : n ≤ cap ∧ cap ≤ 9223372036854775807 := by obtain ⟨_, _, e, h1, h2⟩ := h.form; cases e; rw [hn]; exact ⟨h1, h2⟩
  have hse := endOf_le (a := x) (n := 32) hs.1
  rw [← he, ← hn] at hse
  have hl := hf.1
  rw [← hn] at hl
  have HT := Lib.hid h
  have HF := Lib.hid hf
  have HS := Lib.hid hs
  have HE := Lib.hid he
  have HN := Lib.hid hn
  have hecap : e ≤ cap := by omega
  have hd2 : decide (e ≤ cap) = true := decide_eq_true hecap
  clear h hf hs he hn
  refine (callsIn_wide (n := 4)).1 ?_
  refine callsIn_of_wp_marks Try.func15 rfl trivial ?_ rfl
  simp only [Try.ntmps15, List.size_toArray, List.length_cons, List.length_nil, Nat.reduceAdd, Nat.reduceSub, Array.replicate_succ, Array.replicate_zero, List.push_toArray, List.append_toArray, List.nil_append, List.cons_append]
  gi_wp2_with fail
  have g0 : Gr w (((w.alloc (.cells #[.int .u32 x] 26)).alloc (.cells #[.int .u32 0, .int .i64 0, .slice none 0 0, .int .i64 0] 34)).alloc (.cells #[.bool false] 4)) := (((Gr.refl _).alloc _).alloc _).alloc _
  have q1 : CL (((w.alloc (.cells #[.int .u32 x] 26)).alloc (.cells #[.int .u32 0, .int .i64 0, .slice none 0 0, .int .i64 0] 34)).alloc (.cells #[.bool false] 4)) w.heap.size [.int .u32 x] := ((CL.new _ _ _ _ rfl).gr ((Gr.refl _).alloc _)).gr ((Gr.refl _).alloc _)
  have q2 : CL (((w.alloc (.cells #[.int .u32 x] 26)).alloc (.cells #[.int .u32 0, .int .i64 0, .slice none 0 0, .int .i64 0] 34)).alloc (.cells #[.bool false] 4)) (w.heap.size + 1) [.int .u32 0, .int .i64 0, .slice none 0 0, .int .i64 0] := (CL.new _ _ _ _ (by simp)).gr ((Gr.refl _).alloc _)
  have q3 : CL (((w.alloc (.cells #[.int .u32 x] 26)).alloc (.cells #[.int .u32 0, .int .i64 0, .slice none 0 0, .int .i64 0] 34)).alloc (.cells #[.bool false] 4)) (w.heap.size + 1 + 1) [.bool false] := CL.new _ _ _ _ (by simp)
  generalize ((w.alloc (.cells #[.int .u32 x] 26)).alloc (.cells #[.int .u32 0, .int .i64 0, .slice none 0 0, .int .i64 0] 34)).alloc (.cells #[.bool false] 4) = wa at *
  refine ⟨trivial, ?_⟩
  refine (callsIn_wide.2 (place_any _ l x 32 s e wa (HT.out.gr g0) (by rw [← HN.out]; exact hl) HS.out HE.out)).mono ?_
  rintro q w1 ⟨rfl, hg1⟩
  have gw1 : Gr w w1 := g0.step hg1
  have Q1 := Lib.hid (q1.gr hg1)
  have Q2 := Lib.hid (q2.gr hg1)
  have Q3 := Lib.hid (q3.gr hg1)
  clear q1 q2 q3 g0 hg1
  gi_wp2_with (refine ⟨trivial, ?_⟩; gi_at_call 35; refine (back_in Fence.wide (4 - 1) trivial rfl _ _ _ _).mono ?_; rintro e w' ⟨rfl, rfl⟩)
  obtain ⟨ba, oa, hba, hbl⟩ : ∃ ba oa : Nat, BS w a e (okR (l.take e) p w) ba oa ∧ ba < w1.heap.size := by
    by_cases h0 : e = 0
    · exact ⟨0, 0, .inl h0, by have := Q3.out.lt; omega⟩
    · obtain ⟨r0, hr0⟩ : ∃ r, l[0]? = some r := ⟨_, List.getElem?_eq_getElem (by have := HN.out; omega)⟩
      obtain ⟨b, off, nv, ea, -, hc, -⟩ := HT.out.at' hr0
      refine ⟨b, off, .inr ⟨ea, hc.lt, fun j hj => ?_⟩, Nat.lt_of_lt_of_le hc.lt (Gr.size gw1)⟩
      obtain ⟨r, hr⟩ : ∃ r, l[j]? = some r := ⟨_, List.getElem?_eq_getElem (by have := HN.out; omega)⟩
      obtain ⟨b', off', nv', ea', -, hc', hok', hnx'⟩ := HT.out.at' hr
      rw [ea] at ea'; cases ea'
      exact ⟨(r, nv'), hc', by rw [List.getElem?_take, if_pos hj]; exact hr, hok', hnx'⟩
  obtain ⟨W0, hW0⟩ : ∃ W0, W0 = w1.alloc (.cells #[.slice a e cap] 23) := ⟨_, rfl⟩
  have gw0 : Gr w W0 := by rw [hW0]; exact gw1.alloc _
  have hs1 : w.heap.size + 1 + 1 < w1.heap.size := Q3.out.lt
  have hsz : W0.heap.size = w1.heap.size + 1 := by rw [hW0]; simp
  have hcB : W0.cell? ⟨w1.heap.size, 0, none⟩ = some (.slice a e cap) := by rw [hW0]; simp
  have hbs : BS W0 a e (okR (l.take e) p w) ba oa := by
    rcases hba with h | ⟨ea, hb, hw⟩
    · exact .inl h
    · refine .inr ⟨ea, by omega, fun j hj => ?_⟩
      obtain ⟨z, hz, hk⟩ := hw j hj
      exact ⟨z, hz.gr gw0, hk⟩
  have K1 := Q1.out.gr ((Gr.refl _).alloc (.cells #[.slice a e cap] 23))
  have K2 := Q2.out.gr ((Gr.refl _).alloc (.cells #[.slice a e cap] 23))
  have K3 := Q3.out.gr ((Gr.refl _).alloc (.cells #[.slice a e cap] 23))
  rw [← hW0] at K1 K2 K3 ⊢
  clear hW0 hba Q1 Q2 Q3
  have HB := Lib.hid hbs
  clear hbs
  have hle : e ≤ 1000000 := by omega
  refine wpIn_rangeFunc_ownH rfl (by decide) (gf := 48) (lb := #[.pointer (some ⟨w1.heap.size, 0, none⟩)]) rfl trivial (enters_of Try.func48 (by kernel_rfl) rfl)
    (back_stops Fence.wide (4 - 1) trivial rfl (by decide) w1.heap.size ba oa e cap a (okR (l.take e) p w) hle W0 (by omega) hcB HB.out) bkp_t (fun W l o o' _ h hc _ => bkp_b W l o o' h hc) (Below.refl _ _) (fun _ => rfl)
    (LkI W0.heap.size e (okR (l.take e) p w) x w) (LkX e (okR (l.take e) p w) x w) (lkI_own _ _ _ x w (Gr.size gw0)) (lkX_own _ _ x w (Gr.size gw0))
    ⟨⟨(fun y hy => by cases hy), K1, K2, K3, Nat.le_refl _⟩, gw0⟩
    (fun y a' W => ∃ g : Nat, W0.heap.size ≤ g ∧ g < W.heap.size ∧ RC W g 0 y.1.2 ∧ a' = { tmps := #[.slice a n cap, .int .u32 x, undef, .pointer (some ⟨w.heap.size, 0, none⟩), .pointer (some ⟨w.heap.size + 1, 0, none⟩), .pointer (some ⟨w.heap.size + 1 + 1, 0, none⟩), .int .i64 s, .int .i64 e, undef, .pointer (some ⟨g, 0, none⟩),
      .tuple #[.int .i64 s, .int .i64 e], .slice a n cap, .int .u32 x, .agg #[.int .u32 x, .int .i64 32], .tuple #[.int .i64 s, .int .i64 e], .int .i64 s, .int .i64 e, .slice a n cap, .int .i64 e, .slice a e cap,
      .func (.func 48) #[] #[.pointer (some ⟨w1.heap.size, 0, none⟩)], .int .i64 (y.1.1 : Nat), rtv y.1.2, undef, undef, undef, undef, undef, undef, undef], defers := [] })
    ?ax ?assign ?body ?done ?stop
  case ax =>
    rintro y a' u W W' row ⟨g, h1, h0, h2, h3⟩ hg hr
    exact ⟨g, h1, Nat.lt_of_lt_of_le h0 hg.size, ⟨cell_kept h2.1 hg (fun r e => (hr r e).2), cell_kept h2.2.1 hg (fun r e => (hr r e).2), cell_kept h2.2.2.1 hg (fun r e => (hr r e).2), cell_kept h2.2.2.2 hg (fun r e => (hr r e).2)⟩, h3⟩
  case assign =>
    rintro l' pre y W K hI hK
    obtain ⟨⟨i, r, nv⟩, hi, h1, h2, h3⟩ := y
    have HK := Lib.hid hK
    clear hK
    dsimp only at h1 h2 h3
    obtain ⟨ad2, cp2, rfl⟩ := h3.form
    have hm := hI.1.2.2.2.2
    dsimp only [rtv]
    gi_wp2
    exact HK.out _ _ (KeepsFrom.ofGr ((Gr.refl _).alloc _)) (bkp_below ((Gr.refl W).alloc _) (by omega) (by omega)) ((lkI_own _ _ _ x w (Nat.le_refl _)).alloc _ hI) ⟨W.heap.size, hm, by simp, rc_new _ _ _ _, rfl⟩
  case body =>
    rintro l' pre y a' W hl' hr' ⟨⟨hno, k1, k2, k3, hm⟩, hB⟩ ⟨g, hg0, hg1, hc, rfl⟩ -
    obtain ⟨⟨i, r, nv⟩, hi, h1, h2, h3⟩ := y
    dsimp only at h1 h2 h3 hc
    obtain ⟨ad2, cp2, rfl⟩ := h3.form
    dsimp only [rtv]
    have HCW := Lib.hid hc
    obtain ⟨c0, c1, c2, c3⟩ := hc
    have kx := k1.one.1
    have HNO := Lib.hid hno
    have H1 := Lib.hid h1
    have H2 := Lib.hid h2
    have H3 := Lib.hid h3
    have KK1 := Lib.hid k1
    have KK2 := Lib.hid k2
    have KK3 := Lib.hid k3
    have HRN := Lib.hid (HF.out.2 r (List.mem_of_mem_take (List.mem_of_getElem? h1)))
    clear hno k1 k2 k3
    have hcc := fun w' => ctn_any r.a r.n x w' H2.out.1 H2.out.2 hx0 hx1
    generalize hq : ctn r.a r.n x = q at hcc
    have HQ := Lib.hid hq
    clear hq
    cases q
    · gi_wp2_with (refine ⟨trivial, ?_⟩; gi_at_call 36; refine (CallsIn.inRound l' (callsIn_wide.2 (hcc _))).mono ?_; rintro e' w' ⟨rfl, hg⟩)
      refine ⟨KeepsFrom.ofGr hg, bkp_below hg (by omega) (by omega), ⟨fun z hz => ?_, KK1.out.gr hg, KK2.out.gr hg, KK3.out.gr hg, Nat.le_trans hm (Gr.size hg)⟩, Gr.step hB hg⟩
      rcases List.mem_append.1 hz with h | h
      · exact HNO.out z h
      · rw [List.mem_singleton] at h; subst h; exact HQ.out
    · gi_wp2_with (refine ⟨trivial, ?_⟩; gi_at_call 36; refine (CallsIn.inRound l' (callsIn_wide.2 (hcc _))).mono ?_; rintro e' w' ⟨rfl, hg⟩; have ⟨d0, d1, d2, d3⟩ := HCW.out.gr hg)
      refine ⟨trivial, ?_⟩
      refine (CallsIn.inRound l' (callsIn_wide.2 (own_any _ r w' ⟨_, rfl, H2.out, H3.out.gr (Gr.step hB hg)⟩ HRN.out))).mono ?_
      rintro e' w2 ⟨v', rfl, ⟨nv2, rfl, hok2, hnx2⟩, hg2⟩
      dsimp only [rtv]
      have HN2 := Lib.hid hnx2
      obtain ⟨ad3, cp3, rfl⟩ := hnx2.form
      have gW2 : Gr W w2 := hg.step hg2
      obtain ⟨⟨a0, a1, a2, a3⟩, f0, f1, f2, f3⟩ := (KK2.out.gr gW2).four
      obtain ⟨b0, fb⟩ := (KK3.out.gr gW2).one
      have hsW : w.heap.size + 1 + 1 < W.heap.size := KK3.out.lt
      have hsw' := Gr.size hg
      clear hok2 hnx2 d0 d1 d2 d3 c0 c1 c2 c3
      gi_wp2
      have hb := gw_below (Gr.step hB gW2) (.int .u32 r.a) (.int .i64 r.n) (.slice ad3 r.nx.length cp3) (.int .i64 r.bal) (.bool true)
      have hk := gw_keeps W0.heap.size (w := w) (KeepsFrom.ofGr gW2) (.int .u32 r.a) (.int .i64 r.n) (.slice ad3 r.nx.length cp3) (.int .i64 r.bal) (.bool true)
      have hcl := gw_cells (KK2.out.gr gW2) (KK3.out.gr gW2) (.int .u32 r.a) (.int .i64 r.n) (.slice ad3 r.nx.length cp3) (.int .i64 r.bal) (.bool true)
      refine ⟨hk, ⟨rfl, pre, _, .slice ad3 r.nx.length cp3, rfl, HNO.out, HQ.out, hcl.1, ?_, hcl.2⟩, hb⟩
      refine HN2.out.keep fun b hb2 _ => ⟨by have := Gr.size hB; omega, fun o => ?_⟩
      simp only [far_cell (show b ≠ w.heap.size + 1 by omega), far_cell (show b ≠ w.heap.size + 1 + 1 by omega)]
  case done =>
    rintro D ys W hD hys ⟨⟨hno, k1, k2, k3, hm⟩, hB⟩ hK
    obtain ⟨⟨a0, a1, a2, a3⟩, f0, f1, f2, f3⟩ := k2.four
    obtain ⟨b0, fb⟩ := k3.one
    have hcl := gw_cells k2 k3 (.int .u32 0) (.int .i64 0) (.slice none 0 0) (.int .i64 0) (.bool false)
    have hb := gw_below hB (.int .u32 0) (.int .i64 0) (.slice none 0 0) (.int .i64 0) (.bool false)
    have hk := gw_keeps W0.heap.size (w := w) (KeepsFrom.refl W0.heap.size W) (.int .u32 0) (.int .i64 0) (.slice none 0 0) (.int .i64 0) (.bool false)
    have HNO := Lib.hid hno
    have HYS := Lib.hid hys
    clear hno hys
    gi_wp2
    generalize ((((W.setCell ⟨w.heap.size + 1, 0, none⟩ (.int .u32 0)).setCell ⟨w.heap.size + 1, 1, none⟩ (.int .i64 0)).setCell ⟨w.heap.size + 1, 2, none⟩ (.slice none 0 0)).setCell ⟨w.heap.size + 1, 3, none⟩ (.int .i64 0)).setCell ⟨w.heap.size + 1 + 1, 0, none⟩ (.bool false) = F at *
    have hK' : F.heap[D]? = some (.deferred (some [])) := hk.same D _ hD hK rfl
    have hwD : w.heap.size ≤ D := Nat.le_trans (Gr.size gw0) hD
    refine ⟨by simp, .inl ⟨_, _, rfl, run_takeDeferred hK', ?_⟩⟩
    have hkc1 := hcl.1.kept (grownBy_putObj' _ D (.deferred none)) (fun r e => by cases e; exact ⟨_, hK', rfl⟩)
    have hkc2 := hcl.2.kept (grownBy_putObj' _ D (.deferred none)) (fun r e => by cases e; exact ⟨_, hK', rfl⟩)
    obtain ⟨⟨z0, z1, z2, z3⟩, -⟩ := hkc1.four
    obtain ⟨z4, -⟩ := hkc2.one
    have hnone : lastC (l.take e) x = none := lastC_none fun j r hj => by
      have hje : j < e := by have := (List.getElem?_eq_some_iff.1 hj).1; rw [List.length_take] at this; omega
      have hm : j ∈ ixs ys := by rw [HYS.out]; exact dn_mem (Nat.zero_le _) hje
      obtain ⟨y, hy1, hy2⟩ := List.mem_map.1 hm
      have h1 := y.2.2.1
      have h2 := HNO.out y hy1
      rw [hy2, hj] at h1
      have h3 := Option.some.inj h1
      rw [← h3] at h2
      exact h2
    refine ⟨.tuple #[.agg #[.int .u32 0, .int .i64 0, .slice none 0 0, .int .i64 0], .bool false], by simp [results, Try.f15, go_sem, z0, z1, z2, z3, z4], ?_⟩
    rw [hnone]
    exact ⟨_, rfl, ⟨.slice none 0 0, rfl, ⟨by decide, by decide⟩, Ri.nil _ _⟩, hb.trans (belowK_b (w := w) (Nat.le_refl _) F D _ _ hwD hK' rfl rfl)⟩
  case stop =>
    rintro D c pre W hD ⟨m, hm, hpre⟩ ⟨⟨rfl, ini, y, nv, e1, e2, e3, e4, e5, e6⟩, hB⟩ hK
    have HNO := Lib.hid e2
    have HQ := Lib.hid e3
    have HPR := Lib.hid hpre
    have HE1 := Lib.hid e1
    obtain ⟨ad3, cp3, rfl⟩ := e5.form
    have HRI := Lib.hid e5
    clear e2 e3 hpre e1 e5
    gi_wp2
    have hwD : w.heap.size ≤ D := Nat.le_trans (Gr.size gw0) hD
    refine ⟨by simp, .inl ⟨_, _, rfl, run_takeDeferred hK, ?_⟩⟩
    have hkc1 := e4.kept (grownBy_putObj' _ D (.deferred none)) (fun r e => by cases e; exact ⟨_, hK, rfl⟩)
    have hkc2 := e6.kept (grownBy_putObj' _ D (.deferred none)) (fun r e => by cases e; exact ⟨_, hK, rfl⟩)
    have hkr := HRI.out.kept (grownBy_putObj' _ D (.deferred none)) (fun r e => by cases e; exact ⟨_, hK, rfl⟩)
    obtain ⟨⟨z0, z1, z2, z3⟩, -⟩ := hkc1.four
    obtain ⟨z4, -⟩ := hkc2.one
    have hlast : lastC (l.take e) x = some y.1.2.1 := by
      have h1 := HPR.out
      rw [HE1.out, ixs_snoc] at h1
      obtain ⟨hme, hini, hym⟩ := dn_last hm h1
      refine lastC_some y.1.1 y.1.2.1 y.2.2.1 HQ.out fun j r hj hr => ?_
      have hje : j < e := by have := (List.getElem?_eq_some_iff.1 hr).1; rw [List.length_take] at this; omega
      have hmem : j ∈ ixs ini := by rw [hini]; exact dn_mem (by omega) hje
      obtain ⟨y2, hy1, hy2⟩ := List.mem_map.1 hmem
      have g1 := y2.2.2.1
      have g2 := HNO.out y2 hy1
      rw [hy2, hr] at g1
      have g3 := Option.some.inj g1
      rw [← g3] at g2
      exact g2
    refine ⟨.tuple #[.agg #[.int .u32 y.1.2.1.a, .int .i64 y.1.2.1.n, .slice ad3 y.1.2.1.nx.length cp3, .int .i64 y.1.2.1.bal], .bool true], by simp [results, Try.f15, go_sem, z0, z1, z2, z3, z4], ?_⟩
    rw [hlast]
    exact ⟨_, rfl, ⟨.slice ad3 y.1.2.1.nx.length cp3, rfl, y.2.2.2.1, hkr⟩, hB.trans (belowK_b (w := w) (Nat.le_refl _) W D _ _ hwD hK rfl rfl)⟩
end Go.Proofs.Ytefocmcpeigfcaa
