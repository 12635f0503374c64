/- The walk of the statement on prefixes: both sides answer the same. -/
import Derived.Test.YtamemancjodefaaDoorAwake
import Derived.Test.YtamemancjodefaaDoorCodesB
import Derived.Test.YtamemancjodefaaDoorCom
import Derived.WalkKit
import Derived.WalkSpells
import Derived.WalkLawsBesides
import Derived.WalkSmall
import Derived.Handy
import Derived.BigQuiet
import Derived.Deep.QuietTactic
import Derived.Deep.RegionHeld3
import Derived.Deep.DeepFit
import Derived.Below
import Derived.Lib.Hide
import Derived.Lib.QuietBelow
import Derived.Deep.DeepCutAuto
namespace Go.Proofs.YtamemancjodefaaDoor
open Go Go.RowKit Go.Sort
set_option maxRecDepth 100000

/-- the two parameters are as they came, and the source of draws is whole -/
abbrev PS (w : World) (b : Nat) (pa pn qa qn : Int) (W : World) : Prop :=
  W.cell? ⟨w.heap.size, 0, none⟩ = some (.int .u32 pa) ∧ W.cell? ⟨w.heap.size, 1, none⟩ = some (.int .i64 pn) ∧ W.cell? ⟨w.heap.size + 1, 0, none⟩ = some (.int .u32 qa) ∧ W.cell? ⟨w.heap.size + 1, 1, none⟩ = some (.int .i64 qn) ∧ Cod w.heap.size W b ∧ Gr w W ∧ w.heap.size + 1 < b
theorem PS.ex {w : World} {b : Nat} {pa pn qa qn : Int} {W W' : World} (h : PS w b pa pn qa qn W) (hc : Cod w.heap.size W' b) (he : Ex b W W') : PS w b pa pn qa qn W' := by
  obtain ⟨h0, h1, h2, h3, _, hg, hb⟩ := h
  have s0 : w.heap.size < W.heap.size := World.block_lt_of_cell? _ _ h0
  have s1 : w.heap.size + 1 < W.heap.size := World.block_lt_of_cell? _ _ h2
  refine ⟨?_, ?_, ?_, ?_, hc, Ex.gr hg (by omega) he, hb⟩
  · rw [he.cell w.heap.size 0 (by omega) s0]; exact h0
  · rw [he.cell w.heap.size 1 (by omega) s0]; exact h1
  · rw [he.cell (w.heap.size + 1) 0 (by omega) s1]; exact h2
  · rw [he.cell (w.heap.size + 1) 1 (by omega) s1]; exact h3
theorem PS.drew {w : World} {b : Nat} {pa pn qa qn : Int} {W : World} (h : PS w b pa pn qa qn W) : PS w b pa pn qa qn W.drew :=
  h.ex (h.2.2.2.2.1.gr (Gr.drew (Gr.refl _))) (Ex.ofGr (Gr.drew (Gr.refl _)))
theorem PS.alloc {w : World} {b : Nat} {pa pn qa qn : Int} {W : World} (h : PS w b pa pn qa qn W) (o : Obj) : PS w b pa pn qa qn (W.alloc o) :=
  h.ex (h.2.2.2.2.1.gr (Gr.alloc (Gr.refl _) _)) (Ex.ofGr (Gr.alloc (Gr.refl _) _))
theorem prefix_S {w : World} {b : Nat} {pa pn qa qn : Int} {W : World} (h : PS w b pa pn qa qn W) :
    Calls Tryd.prog 11 #[.pointer (some ⟨b, 0, none⟩)] W fun e w' => ∃ z n : Int, e = .returned (.agg #[.int .u32 z, .int .i64 n]) ∧ (0 ≤ z ∧ z < 4294967296) ∧ PS w b pa pn qa qn w' := by
  refine (prefix_any b W h.2.2.2.2.1 (Gr.size h.2.2.2.2.2.1)).mono ?_
  rintro e w' ⟨z, n, rfl, z0, z1, _, hc, he⟩
  exact ⟨z, n, rfl, ⟨z0, z1⟩, h.ex hc he⟩
theorem next_S {w : World} {b : Nat} {pa pn qa qn : Int} {W : World} (h : PS w b pa pn qa qn W) :
    Calls Tryd.prog 24 #[.pointer (some ⟨b, 0, none⟩), .int .i64 34] W fun e w' => ∃ n : Int, e = .returned (.int .i64 n) ∧ PS w b pa pn qa qn w' := by
  refine (next_any b 34 W (by omega) (by omega) h.2.2.2.2.1).mono ?_
  rintro e w' ⟨n, rfl, _, _, hc, he⟩
  exact ⟨n, rfl, h.ex hc he⟩
theorem bounds_same (c m : Int) (c0 : 0 ≤ c) (c1 : c < 4294967296) : ∃ bl bh be : Int,
    (∀ W, Calls Tryd.prog 25 #[.agg #[.int .u32 c, .int .i64 m]] W fun e w' => e = .returned (.tuple #[.agg #[.int .u32 bl, .int .u32 bh], .int .i64 be]) ∧ Gr W w') ∧
    (∀ W, Calls Tryd.prog 26 #[.agg #[.int .u32 c, .int .i64 m]] W fun e w' => e = .returned (.tuple #[.agg #[.int .u32 bl, .int .u32 bh], .int .i64 be]) ∧ Gr W w') := by
  by_cases hv : vld c m = true
  · exact ⟨_, _, _, fun W => bounds_yes c m W c0 c1 hv, fun W => rbounds_yes c m W c0 c1 hv⟩
  · have hv : vld c m = false := by simpa using hv
    exact ⟨_, _, _, fun W => bounds_no c m W c0 c1 hv, fun W => rbounds_no c m W c0 c1 hv⟩
theorem halves_same (c m : Int) (c0 : 0 ≤ c) (c1 : c < 4294967296) : ∃ (la ln ha hn : Int) (ok : Bool),
    (∀ W, Calls Tryd.prog 27 #[.agg #[.int .u32 c, .int .i64 m]] W fun e w' => e = .returned (.tuple #[.agg #[.int .u32 la, .int .i64 ln], .agg #[.int .u32 ha, .int .i64 hn], .bool ok]) ∧ Gr W w') ∧
    (∀ W, Calls Tryd.prog 28 #[.agg #[.int .u32 c, .int .i64 m]] W fun e w' => e = .returned (.tuple #[.agg #[.int .u32 la, .int .i64 ln], .agg #[.int .u32 ha, .int .i64 hn], .bool ok]) ∧ Gr W w') := by
  by_cases hv : vld c m = true
  · by_cases hn : m = 32
    · subst hn
      exact ⟨_, _, _, _, _, fun W => halves_32 c W c0 c1 hv, fun W => rhalves_32 c W c0 c1 hv⟩
    · exact ⟨_, _, _, _, _, fun W => halves_yes c m W c0 c1 hv hn, fun W => rhalves_yes c m W c0 c1 hv hn⟩
  · have hv : vld c m = false := by simpa using hv
    exact ⟨_, _, _, _, _, fun W => halves_no c m W c0 c1 hv, fun W => rhalves_no c m W c0 c1 hv⟩
set_option maxHeartbeats 1000000 in
theorem pref_walk (pa pn qa qn x : Int) (sv : Value) (len : Nat) (w : World) (ht : Tab w) (hl : len ≤ 9223372036854775807) (hb : BytesV w.heap.size w sv len) (pa0 : 0 ≤ pa) (pa1 : pa < 4294967296) (qa0 : 0 ≤ qa) (qa1 : qa < 4294967296) (x0 : 0 ≤ x) (x1 : x < 4294967296) :
    Calls Tryd.prog 5 #[.agg #[.int .u32 pa, .int .i64 pn], .agg #[.int .u32 qa, .int .i64 qn], .int .u32 x, sv] w fun e w' => e = .returned (.bool true) ∧ Gr w w' := by
  go_enter Tryd.func5, Tryd.ntmps5
  go_wp2_with (go_at_call 9; refine (awake_any _ (ht.gr (by repeat' (first | (with_reducible exact Gr.refl _) | (with_reducible assumption) | (with_reducible refine Gr.drewN ?_ _) | (with_reducible refine Gr.drew ?_) | (with_reducible refine Gr.alloc ?_ _) | (with_reducible refine Gr.setCell ?_ ?_ _) | (with_reducible refine Gr.grow ?_ _ _) | (refine Gr.step ?_ (by with_reducible assumption)) | go_size)))).mono ?_; rintro e w1 ⟨rfl, hg1⟩)
  obtain ⟨hc, hf⟩ := Gr.cells hg1
  have p0 : w1.cell? ⟨w.heap.size, 0, none⟩ = some (.int .u32 pa) := (by rw [hc _ _ (by go_size)]; first | (simp; done) | go_cell | (simp [go_sem]; done))
  have p1 : w1.cell? ⟨w.heap.size, 1, none⟩ = some (.int .i64 pn) := (by rw [hc _ _ (by go_size)]; first | (simp; done) | go_cell | (simp [go_sem]; done))
  have q0 : w1.cell? ⟨w.heap.size + 1, 0, none⟩ = some (.int .u32 qa) := (by rw [hc _ _ (by go_size)]; first | (simp; done) | go_cell | (simp [go_sem]; done))
  have q1 : w1.cell? ⟨w.heap.size + 1, 1, none⟩ = some (.int .i64 qn) := (by rw [hc _ _ (by go_size)]; first | (simp; done) | go_cell | (simp [go_sem]; done))
  have hG1 : Gr w w1 := (by repeat' (first | (with_reducible exact Gr.refl _) | (with_reducible assumption) | (with_reducible refine Gr.drewN ?_ _) | (with_reducible refine Gr.drew ?_) | (with_reducible refine Gr.alloc ?_ _) | (with_reducible refine Gr.setCell ?_ ?_ _) | (with_reducible refine Gr.grow ?_ _ _) | (refine Gr.step ?_ (by with_reducible assumption)) | go_size))
  have hs1 := Gr.size hg1
  simp only [World.size_alloc] at hs1
  clear hc hf hg1
  refine (new_any sv len _ hl (hb.gr hG1)).mono ?_
  rintro e w2 ⟨b, rfl, hbe, hc2, hg2⟩
  obtain ⟨hc, hf⟩ := Gr.cells hg2
  have kp0 : w2.cell? ⟨w.heap.size, 0, none⟩ = some (.int .u32 pa) := by rw [hc _ _ (World.block_lt_of_cell? _ _ p0)]; exact p0
  have kp1 : w2.cell? ⟨w.heap.size, 1, none⟩ = some (.int .i64 pn) := by rw [hc _ _ (World.block_lt_of_cell? _ _ p0)]; exact p1
  have kq0 : w2.cell? ⟨w.heap.size + 1, 0, none⟩ = some (.int .u32 qa) := by rw [hc _ _ (World.block_lt_of_cell? _ _ q0)]; exact q0
  have kq1 : w2.cell? ⟨w.heap.size + 1, 1, none⟩ = some (.int .i64 qn) := by rw [hc _ _ (World.block_lt_of_cell? _ _ q0)]; exact q1
  have hbw : w.heap.size + 1 < b := by have := World.block_lt_of_cell? _ _ q0; omega
  have hG2 : Gr w w2 := (by repeat' (first | (with_reducible exact Gr.refl _) | (with_reducible assumption) | (with_reducible refine Gr.drewN ?_ _) | (with_reducible refine Gr.drew ?_) | (with_reducible refine Gr.alloc ?_ _) | (with_reducible refine Gr.setCell ?_ ?_ _) | (with_reducible refine Gr.grow ?_ _ _) | (refine Gr.step ?_ (by with_reducible assumption)) | go_size))
  have hs2 := World.block_lt_of_cell? _ _ kq0
  clear hc hf hbe hG1 hg2 ht hb p0 p1 q0 q1
  have hS : PS w b pa pn qa qn w2 := ⟨kp0, kp1, kq0, kq1, hc2, hG2, hbw⟩
  clear kp0 kp1 kq0 kq1 hc2 hG2
  go_wp2_with fail
  go_region_held3 (fun w' => w'.cell? ⟨w.heap.size, 0, none⟩ = some (.int .u32 pa) ∧ w'.cell? ⟨w.heap.size, 1, none⟩ = some (.int .i64 pn) ∧ w'.cell? ⟨w.heap.size + 1, 0, none⟩ = some (.int .u32 qa) ∧ w'.cell? ⟨w.heap.size + 1, 1, none⟩ = some (.int .i64 qn) ∧ Cod w.heap.size w' b ∧ Gr w w' ∧ w.heap.size + 1 < b) (first | assumption | exact PS.drew (by assumption) | exact PS.alloc (by assumption) _)
    (first
      | (go_at_call 11; refine (prefix_S (by assumption)).mono ?_; rintro e w' ⟨z, n, rfl, hz, hS'⟩)
      | (go_at_call 24; refine (next_S (by assumption)).mono ?_; rintro e w' ⟨n, rfl, hS'⟩))
  rename_i wA zA nA hzA hSA wB nB hSB hHeld
  clear hHeld hSA hSB wA wB hS
  go_wp2_with fail
  have hS0 := PS.alloc hS' (.cells #[.int .u32 pa, .int .i64 pn, .int .u32 qa, .int .i64 qn, .int .u32 zA, .int .i64 nA, .int .u32 z, .int .i64 nB, .int .u32 x, .int .i64 32, .int .u32 pa, .int .i64 n] 25)
  obtain ⟨W0, hW0⟩ : ∃ W0, W0 = w'.alloc (.cells #[.int .u32 pa, .int .i64 pn, .int .u32 qa, .int .i64 qn, .int .u32 zA, .int .i64 nA, .int .u32 z, .int .i64 nB, .int .u32 x, .int .i64 32, .int .u32 pa, .int .i64 n] 25) := ⟨_, rfl⟩
  rw [← hW0] at hS0 ⊢
  have hX : ∀ i, i < 6 → ∃ c m : Int, W0.cell? ⟨w'.heap.size, i * 2, none⟩ = some (.int .u32 c) ∧ W0.cell? ⟨w'.heap.size, i * 2 + 1, none⟩ = some (.int .i64 m) ∧ 0 ≤ c ∧ c < 4294967296 := by
    intro i hi
    rw [hW0, World.cell?_alloc_new, World.cell?_alloc_new]
    have : i = 0 ∨ i = 1 ∨ i = 2 ∨ i = 3 ∨ i = 4 ∨ i = 5 := by omega
    rcases this with rfl | rfl | rfl | rfl | rfl | rfl <;> exact ⟨_, _, rfl, rfl, by omega, by omega⟩
  have hb0 : w.heap.size + 1 < w'.heap.size := World.block_lt_of_cell? _ _ hS'.2.2.1
  generalize w'.heap.size = L at *
  have HX := Lib.hid hX
  have ⟨kp0, kp1, kq0, kq1, _, hGW, _⟩ := hS0
  clear hX hW0 hS' hS0 hz hzA
  go_loopw [11] (fun v wr => ∃ i : Nat, i ≤ 6 ∧ v = .int .i64 i ∧ Gr W0 wr) (fun v _ => 6 - (intOf v).toNat)
  case atStart => exact ⟨0, by omega, rfl, Gr.refl _⟩
  case round =>
    obtain ⟨i, hi, rfl, hgr⟩ := hrel
    by_cases hi6 : i < 6
    · obtain ⟨c, m, hcv, hmv, c0, c1⟩ := HX.out i hi6
      have i0 : (i : Int) < 6 := by omega
      have i6 : ¬ (i = 6) := by omega
      have hL : L < W0.heap.size := World.block_lt_of_cell? _ _ hcv
      have hcr : wr.cell? ⟨L, i * 2, none⟩ = some (.int .u32 c) := by rw [(Gr.cells hgr).1 _ _ hL]; exact hcv
      have hmr : wr.cell? ⟨L, i * 2 + 1, none⟩ = some (.int .i64 m) := by rw [(Gr.cells hgr).1 _ _ hL]; exact hmv
      obtain ⟨bl, bh, be, cb1, cb2⟩ := bounds_same c m c0 c1
      obtain ⟨la, ln, ha, hn, ok, ch1, ch2⟩ := halves_same c m c0 c1
      have CB1 := Lib.hid cb1
      have CB2 := Lib.hid cb2
      have CH1 := Lib.hid ch1
      have CH2 := Lib.hid ch2
      clear cb1 cb2 ch1 ch2
      go_wp2_with fail
      refine (CB1.out _).mono ?_
      rintro e w3 ⟨rfl, hg3⟩
      have hG3 : Gr W0 w3 := (by repeat' (first | (with_reducible exact Gr.refl _) | (with_reducible assumption) | (with_reducible refine Gr.drewN ?_ _) | (with_reducible refine Gr.drew ?_) | (with_reducible refine Gr.alloc ?_ _) | (with_reducible refine Gr.setCell ?_ ?_ _) | (with_reducible refine Gr.grow ?_ _ _) | (refine Gr.step ?_ (by with_reducible assumption)) | go_size))
      have hcr : w3.cell? ⟨L, i * 2, none⟩ = some (.int .u32 c) := by rw [(Gr.cells hG3).1 _ _ hL]; exact hcv
      have hmr : w3.cell? ⟨L, i * 2 + 1, none⟩ = some (.int .i64 m) := by rw [(Gr.cells hG3).1 _ _ hL]; exact hmv
      have hL3 : L < w3.heap.size := World.block_lt_of_cell? _ _ hcr
      go_wp2_with fail
      obtain ⟨WX, hWX⟩ : ∃ WX, WX = w3.alloc (.cells #[.int .u32 bl, .int .u32 bh] 49) := ⟨_, rfl⟩
      rw [← hWX]
      have X0 : WX.cell? ⟨w3.heap.size, 0, none⟩ = some (.int .u32 bl) := by rw [hWX]; simp
      have X1 : WX.cell? ⟨w3.heap.size, 1, none⟩ = some (.int .u32 bh) := by rw [hWX]; simp
      have hGX : Gr w3 WX := by rw [hWX]; exact Gr.alloc (Gr.refl _) _
      clear hWX
      generalize w3.heap.size = BX at *
      refine (CB2.out _).mono ?_
      rintro e w4 ⟨rfl, hg4⟩
      have hG4 : Gr W0 w4 := (by repeat' (first | (with_reducible exact Gr.refl _) | (with_reducible assumption) | (with_reducible refine Gr.drewN ?_ _) | (with_reducible refine Gr.drew ?_) | (with_reducible refine Gr.alloc ?_ _) | (with_reducible refine Gr.setCell ?_ ?_ _) | (with_reducible refine Gr.grow ?_ _ _) | (refine Gr.step ?_ (by with_reducible assumption)) | go_size))
      have hcr : w4.cell? ⟨L, i * 2, none⟩ = some (.int .u32 c) := by rw [(Gr.cells hG4).1 _ _ hL]; exact hcv
      have hmr : w4.cell? ⟨L, i * 2 + 1, none⟩ = some (.int .i64 m) := by rw [(Gr.cells hG4).1 _ _ hL]; exact hmv
      have hL4 : L < w4.heap.size := World.block_lt_of_cell? _ _ hcr
      go_wp2_with fail
      obtain ⟨WY, hWY⟩ : ∃ WY, WY = w4.alloc (.cells #[.int .u32 bl, .int .u32 bh] 49) := ⟨_, rfl⟩
      rw [← hWY]
      have Y0 : WY.cell? ⟨w4.heap.size, 0, none⟩ = some (.int .u32 bl) := by rw [hWY]; simp
      have Y1 : WY.cell? ⟨w4.heap.size, 1, none⟩ = some (.int .u32 bh) := by rw [hWY]; simp
      have hGY : Gr w4 WY := by rw [hWY]; exact Gr.alloc (Gr.refl _) _
      clear hWY
      generalize w4.heap.size = BY at *
      refine (CH1.out _).mono ?_
      rintro e w5 ⟨rfl, hg5⟩
      have hG5 : Gr W0 w5 := (by repeat' (first | (with_reducible exact Gr.refl _) | (with_reducible assumption) | (with_reducible refine Gr.drewN ?_ _) | (with_reducible refine Gr.drew ?_) | (with_reducible refine Gr.alloc ?_ _) | (with_reducible refine Gr.setCell ?_ ?_ _) | (with_reducible refine Gr.grow ?_ _ _) | (refine Gr.step ?_ (by with_reducible assumption)) | go_size))
      have hcr : w5.cell? ⟨L, i * 2, none⟩ = some (.int .u32 c) := by rw [(Gr.cells hG5).1 _ _ hL]; exact hcv
      have hmr : w5.cell? ⟨L, i * 2 + 1, none⟩ = some (.int .i64 m) := by rw [(Gr.cells hG5).1 _ _ hL]; exact hmv
      have hL5 : L < w5.heap.size := World.block_lt_of_cell? _ _ hcr
      go_wp2_with fail
      obtain ⟨WS, hWS⟩ : ∃ WS, WS = (w5.alloc (.cells #[.int .u32 la, .int .i64 ln] 25)).alloc (.cells #[.int .u32 ha, .int .i64 hn] 25) := ⟨_, rfl⟩
      rw [← hWS]
      have S0 : WS.cell? ⟨w5.heap.size, 0, none⟩ = some (.int .u32 la) := by rw [hWS]; simp [World.cell?_alloc_past]
      have S1 : WS.cell? ⟨w5.heap.size, 1, none⟩ = some (.int .i64 ln) := by rw [hWS]; simp [World.cell?_alloc_past]
      have T0 : WS.cell? ⟨w5.heap.size + 1, 0, none⟩ = some (.int .u32 ha) := by rw [hWS]; simp
      have T1 : WS.cell? ⟨w5.heap.size + 1, 1, none⟩ = some (.int .i64 hn) := by rw [hWS]; simp
      have hGS : Gr w5 WS := by rw [hWS]; exact Gr.alloc (Gr.alloc (Gr.refl _) _) _
      clear hWS
      generalize w5.heap.size + 1 = BT at *
      generalize w5.heap.size = BS at *
      refine (CH2.out _).mono ?_
      rintro e w6 ⟨rfl, hg6⟩
      have hG6 : Gr W0 w6 := (by repeat' (first | (with_reducible exact Gr.refl _) | (with_reducible assumption) | (with_reducible refine Gr.drewN ?_ _) | (with_reducible refine Gr.drew ?_) | (with_reducible refine Gr.alloc ?_ _) | (with_reducible refine Gr.setCell ?_ ?_ _) | (with_reducible refine Gr.grow ?_ _ _) | (refine Gr.step ?_ (by with_reducible assumption)) | go_size))
      have hcr : w6.cell? ⟨L, i * 2, none⟩ = some (.int .u32 c) := by rw [(Gr.cells hG6).1 _ _ hL]; exact hcv
      have hmr : w6.cell? ⟨L, i * 2 + 1, none⟩ = some (.int .i64 m) := by rw [(Gr.cells hG6).1 _ _ hL]; exact hmv
      have hL6 : L < w6.heap.size := World.block_lt_of_cell? _ _ hcr
      go_wp2_with fail
      obtain ⟨WU, hWU⟩ : ∃ WU, WU = (w6.alloc (.cells #[.int .u32 la, .int .i64 ln] 25)).alloc (.cells #[.int .u32 ha, .int .i64 hn] 25) := ⟨_, rfl⟩
      rw [← hWU]
      have U0 : WU.cell? ⟨w6.heap.size, 0, none⟩ = some (.int .u32 la) := by rw [hWU]; simp [World.cell?_alloc_past]
      have U1 : WU.cell? ⟨w6.heap.size, 1, none⟩ = some (.int .i64 ln) := by rw [hWU]; simp [World.cell?_alloc_past]
      have V0 : WU.cell? ⟨w6.heap.size + 1, 0, none⟩ = some (.int .u32 ha) := by rw [hWU]; simp
      have V1 : WU.cell? ⟨w6.heap.size + 1, 1, none⟩ = some (.int .i64 hn) := by rw [hWU]; simp
      have hGU : Gr w6 WU := by rw [hWU]; exact Gr.alloc (Gr.alloc (Gr.refl _) _) _
      clear hWU
      generalize w6.heap.size + 1 = BV at *
      generalize w6.heap.size = BU at *
      have gU : Gr WU WU := Gr.refl _
      have gV : Gr WU WU := Gr.refl _
      have gS : Gr WS WU := hg6.step hGU
      have gT : Gr WS WU := gS
      have gY : Gr WY WU := (hg5.step hGS).step gS
      have gX : Gr WX WU := (hg4.step hGY).step gY
      have hGe : Gr W0 WU := (by repeat' (first | (with_reducible exact Gr.refl _) | (with_reducible assumption) | (with_reducible refine Gr.drewN ?_ _) | (with_reducible refine Gr.drew ?_) | (with_reducible refine Gr.alloc ?_ _) | (with_reducible refine Gr.setCell ?_ ?_ _) | (with_reducible refine Gr.grow ?_ _ _) | (refine Gr.step ?_ (by with_reducible assumption)) | go_size))
      have hcq : ∀ d os, (grow (redrawn WU d) os).cell? ⟨L, i * 2, none⟩ = some (.int .u32 c) := fun d os => cell_regrown (by rw [(Gr.cells hGe).1 _ _ hL]; exact hcv) d os
      have hmq : ∀ d os, (grow (redrawn WU d) os).cell? ⟨L, i * 2 + 1, none⟩ = some (.int .i64 m) := fun d os => cell_regrown (by rw [(Gr.cells hGe).1 _ _ hL]; exact hmv) d os
      have Xq0 : ∀ d os, (grow (redrawn WU d) os).cell? ⟨BX, 0, none⟩ = some (.int .u32 bl) := fun d os => cell_regrown (by rw [(Gr.cells gX).1 _ _ (World.block_lt_of_cell? _ _ X0)]; exact X0) d os
      have Xq1 : ∀ d os, (grow (redrawn WU d) os).cell? ⟨BX, 1, none⟩ = some (.int .u32 bh) := fun d os => cell_regrown (by rw [(Gr.cells gX).1 _ _ (World.block_lt_of_cell? _ _ X1)]; exact X1) d os
      have Yq0 : ∀ d os, (grow (redrawn WU d) os).cell? ⟨BY, 0, none⟩ = some (.int .u32 bl) := fun d os => cell_regrown (by rw [(Gr.cells gY).1 _ _ (World.block_lt_of_cell? _ _ Y0)]; exact Y0) d os
      have Yq1 : ∀ d os, (grow (redrawn WU d) os).cell? ⟨BY, 1, none⟩ = some (.int .u32 bh) := fun d os => cell_regrown (by rw [(Gr.cells gY).1 _ _ (World.block_lt_of_cell? _ _ Y1)]; exact Y1) d os
      have Sq0 : ∀ d os, (grow (redrawn WU d) os).cell? ⟨BS, 0, none⟩ = some (.int .u32 la) := fun d os => cell_regrown (by rw [(Gr.cells gS).1 _ _ (World.block_lt_of_cell? _ _ S0)]; exact S0) d os
      have Sq1 : ∀ d os, (grow (redrawn WU d) os).cell? ⟨BS, 1, none⟩ = some (.int .i64 ln) := fun d os => cell_regrown (by rw [(Gr.cells gS).1 _ _ (World.block_lt_of_cell? _ _ S1)]; exact S1) d os
      have Tq0 : ∀ d os, (grow (redrawn WU d) os).cell? ⟨BT, 0, none⟩ = some (.int .u32 ha) := fun d os => cell_regrown (by rw [(Gr.cells gT).1 _ _ (World.block_lt_of_cell? _ _ T0)]; exact T0) d os
      have Tq1 : ∀ d os, (grow (redrawn WU d) os).cell? ⟨BT, 1, none⟩ = some (.int .i64 hn) := fun d os => cell_regrown (by rw [(Gr.cells gT).1 _ _ (World.block_lt_of_cell? _ _ T1)]; exact T1) d os
      have Uq0 : ∀ d os, (grow (redrawn WU d) os).cell? ⟨BU, 0, none⟩ = some (.int .u32 la) := fun d os => cell_regrown (by rw [(Gr.cells gU).1 _ _ (World.block_lt_of_cell? _ _ U0)]; exact U0) d os
      have Uq1 : ∀ d os, (grow (redrawn WU d) os).cell? ⟨BU, 1, none⟩ = some (.int .i64 ln) := fun d os => cell_regrown (by rw [(Gr.cells gU).1 _ _ (World.block_lt_of_cell? _ _ U1)]; exact U1) d os
      have Vq0 : ∀ d os, (grow (redrawn WU d) os).cell? ⟨BV, 0, none⟩ = some (.int .u32 ha) := fun d os => cell_regrown (by rw [(Gr.cells gV).1 _ _ (World.block_lt_of_cell? _ _ V0)]; exact V0) d os
      have Vq1 : ∀ d os, (grow (redrawn WU d) os).cell? ⟨BV, 1, none⟩ = some (.int .i64 hn) := fun d os => cell_regrown (by rw [(Gr.cells gV).1 _ _ (World.block_lt_of_cell? _ _ V1)]; exact V1) d os
      have kx0 := x0
      clear hcr hmr hL3 hL4 hL5 hL6 hG3 hG4 hG5 hG6 hg3 hg4 hg5 hg6 hGX hGY hGS hGU gX gY gS gT gU gV X0 X1 Y0 Y1 S0 S1 T0 T1 U0 U1 V0 V1
      refine wp_region_quiet_below (by kernel_rfl) (by kernel_rfl) ?_
      repeat (any_goals (first | go_big_quiet_step (first | (go_at_call 22; exact Calls.gr_of (valid_any c m _ c0 c1)) | (go_at_call 29; exact Calls.gr_of (rvalid_any c m _ c0 c1)) | (go_at_call 23; exact Calls.gr_of (ctn_any c m x _ c0 c1 x0 x1)) | (go_at_call 30; exact Calls.gr_of (rctn_any c m x _ c0 c1))) | quiet_step (first | (go_at_call 22; exact Calls.gr_of (valid_any c m _ c0 c1)) | (go_at_call 29; exact Calls.gr_of (rvalid_any c m _ c0 c1)) | (go_at_call 23; exact Calls.gr_of (ctn_any c m x _ c0 c1 x0 x1)) | (go_at_call 30; exact Calls.gr_of (rctn_any c m x _ c0 c1)))))
      refine wpQuiet_nil ?_
      intro _ hw'
      obtain ⟨⟨dq, osq⟩, hw''⟩ := hw'
      subst hw''
      have hGz : Gr W0 (grow (redrawn WU dq) osq) := (by repeat' (first | (with_reducible exact Gr.refl _) | (with_reducible assumption) | (with_reducible refine Gr.drewN ?_ _) | (with_reducible refine Gr.drew ?_) | (with_reducible refine Gr.alloc ?_ _) | (with_reducible refine Gr.setCell ?_ ?_ _) | (with_reducible refine Gr.grow ?_ _ _) | (refine Gr.step ?_ (by with_reducible assumption)) | go_size))
      clear hcq hmq Xq0 Xq1 Yq0 Yq1 Sq0 Sq1 Tq0 Tq1 Uq0 Uq1 Vq0 Vq1 hGe
      go_wp2_with fail
      generalize grow (redrawn WU dq) osq = Wv at *
      go_loopw [22] (fun v wr => ∃ k : Nat, k ≤ 6 ∧ v = .int .i64 k ∧ Gr W0 wr) (fun v _ => 6 - (intOf v).toNat)
      case atStart => exact ⟨0, by omega, rfl, hGz⟩
      case round =>
        obtain ⟨k, hk, rfl, hgk⟩ := hrel
        by_cases hk6 : k < 6
        · obtain ⟨d, e, hdv, hev, d0, d1⟩ := HX.out k hk6
          have k0 : (k : Int) < 6 := by omega
          have hcq : ∀ d os, (grow (redrawn wr d) os).cell? ⟨L, i * 2, none⟩ = some (.int .u32 c) := fun d os => cell_regrown (by rw [(Gr.cells hgk).1 _ _ hL]; exact hcv) d os
          have hmq : ∀ d os, (grow (redrawn wr d) os).cell? ⟨L, i * 2 + 1, none⟩ = some (.int .i64 m) := fun d os => cell_regrown (by rw [(Gr.cells hgk).1 _ _ hL]; exact hmv) d os
          have hdq : ∀ d' os, (grow (redrawn wr d') os).cell? ⟨L, k * 2, none⟩ = some (.int .u32 d) := fun d' os => cell_regrown (by rw [(Gr.cells hgk).1 _ _ hL]; exact hdv) d' os
          have heq : ∀ d' os, (grow (redrawn wr d') os).cell? ⟨L, k * 2 + 1, none⟩ = some (.int .i64 e) := fun d' os => cell_regrown (by rw [(Gr.cells hgk).1 _ _ hL]; exact hev) d' os
          go_wp2_with fail
          refine wp_region_quiet_below (by kernel_rfl) (by kernel_rfl) ?_
          repeat (any_goals (first | go_big_quiet_step (first | (go_at_call 31; exact Calls.gr_of (covers_any c m d e _ c0 c1 d0 d1)) | (go_at_call 32; exact Calls.gr_of (rcovers_any c m d e _ c0 c1 d0 d1)) | (go_at_call 33; exact Calls.gr_of (compare_any c m d e _)) | (go_at_call 34; exact Calls.gr_of (rcompare_any c m d e _ c0 c1 d0 d1))) | quiet_step (first | (go_at_call 31; exact Calls.gr_of (covers_any c m d e _ c0 c1 d0 d1)) | (go_at_call 32; exact Calls.gr_of (rcovers_any c m d e _ c0 c1 d0 d1)) | (go_at_call 33; exact Calls.gr_of (compare_any c m d e _)) | (go_at_call 34; exact Calls.gr_of (rcompare_any c m d e _ c0 c1 d0 d1)))))
          refine wpQuiet_nil ?_
          intro _ hw'
          obtain ⟨⟨dq, osq⟩, hw''⟩ := hw'
          subst hw''
          go_wp2_with fail
          case roundEnd =>
            refine ⟨⟨k + 1, by omega, by simp, ?_⟩, by simp [intOf]; omega⟩
            exact (by repeat' (first | (with_reducible exact Gr.refl _) | (with_reducible assumption) | (with_reducible refine Gr.drewN ?_ _) | (with_reducible refine Gr.drew ?_) | (with_reducible refine Gr.alloc ?_ _) | (with_reducible refine Gr.setCell ?_ ?_ _) | (with_reducible refine Gr.grow ?_ _ _) | (refine Gr.step ?_ (by with_reducible assumption)) | go_size))
        · obtain rfl : k = 6 := by omega
          clear hk hk6
          go_wp2_with fail
          case roundEnd =>
            refine ⟨⟨i + 1, by omega, by simp, ?_⟩, by simp [intOf]; omega⟩
            exact (by repeat' (first | (with_reducible exact Gr.refl _) | (with_reducible assumption) | (with_reducible refine Gr.drewN ?_ _) | (with_reducible refine Gr.drew ?_) | (with_reducible refine Gr.alloc ?_ _) | (with_reducible refine Gr.setCell ?_ ?_ _) | (with_reducible refine Gr.grow ?_ _ _) | (refine Gr.step ?_ (by with_reducible assumption)) | go_size))
    · obtain rfl : i = 6 := by omega
      clear hi hi6
      have hGr : Gr w wr := (by repeat' (first | (with_reducible exact Gr.refl _) | (with_reducible assumption) | (with_reducible refine Gr.drewN ?_ _) | (with_reducible refine Gr.drew ?_) | (with_reducible refine Gr.alloc ?_ _) | (with_reducible refine Gr.setCell ?_ ?_ _) | (with_reducible refine Gr.grow ?_ _ _) | (refine Gr.step ?_ (by with_reducible assumption)) | go_size))
      have rq : ∀ d os, (grow (redrawn wr d) os).cell? ⟨w.heap.size, 0, none⟩ = some (.int .u32 pa) := fun d os => cell_regrown (by rw [(Gr.cells hgr).1 _ _ (World.block_lt_of_cell? _ _ kp0)]; exact kp0) d os
      have C1 := Lib.hid (fun W => common_any x pa W x0 x1 pa0 pa1)
      have C2 := Lib.hid (fun W => rcommon_any x pa W x0 x1 pa0 pa1)
      generalize x - x % sz (cmn x pa) = cx at *
      generalize cmn x pa = cn at *
      go_wp2_with fail
      refine wp_region_quiet_below (by kernel_rfl) (by kernel_rfl) ?_
      repeat (any_goals (first | go_big_quiet_step (first | (go_at_call 35; exact Calls.gr_of (C1.out _)) | (go_at_call 36; exact Calls.gr_of (C2.out _))) | quiet_step (first | (go_at_call 35; exact Calls.gr_of (C1.out _)) | (go_at_call 36; exact Calls.gr_of (C2.out _)))))
      refine wpQuiet_nil ?_
      intro _ hw'
      obtain ⟨⟨dq, osq⟩, hw''⟩ := hw'
      subst hw''
      go_wp2_with fail
      go_ret
      exact ⟨rfl, (by repeat' (first | (with_reducible exact Gr.refl _) | (with_reducible assumption) | (with_reducible refine Gr.drewN ?_ _) | (with_reducible refine Gr.drew ?_) | (with_reducible refine Gr.alloc ?_ _) | (with_reducible refine Gr.setCell ?_ ?_ _) | (with_reducible refine Gr.grow ?_ _ _) | (refine Gr.step ?_ (by with_reducible assumption)) | go_size))⟩
end Go.Proofs.YtamemancjodefaaDoor
