/- The walk of the statement on prefixes as a tree. -/
import Derived.Test.YtamemancjodefaaDoorAwake
import Derived.Test.YtamemancjodefaaDoorCodesB
import Derived.Test.YtamemancjodefaaDoorCom
import Derived.WalkKit
import Derived.WalkSpells
import Derived.WalkLawsBesides
import Derived.WalkSmall
import Derived.Handy
import Derived.BigQuiet
import Derived.Deep.QuietTactic
import Derived.Deep.RegionHeld3
import Derived.Deep.DeepFit
import Derived.Below
import Derived.Lib.Hide
import Derived.Lib.QuietBelow
import Derived.Deep.DeepCutAuto
namespace Go.Proofs.YtamemancjodefaaDoor
open Go Go.RowKit Go.Sort
set_option maxRecDepth 100000

theorem vld_cut' (x n : Int) (h0 : 0 ≤ n) (h1 : n ≤ 32) : vld (x - x % sz n) n = true := vld_cut x n h0 h1
theorem World.frozen?_alloc_lt (w : World) (o : Obj) (a : Addr) (h : a.block < w.heap.size) : (w.alloc o).frozen? a = w.frozen? a :=
  World.frozen?_of_block (w := w) (Below.heap_alloc w o a.block h)
def HalP (a n la ln ha hn : Int) (ok : Bool) : Prop := (ok = false ∧ n = 32) ∨ (ok = true ∧ n ≠ 32 ∧ a = la ∧ n + 1 = ln ∧ a + sz (n + 1) = ha ∧ n + 1 = hn)
def HalPost (a n : Int) (w : World) (e : Ending) (w' : World) : Prop := ∃ (la ln ha hn : Int) (ok : Bool), e = .returned (.tuple #[.agg #[.int .u32 la, .int .i64 ln], .agg #[.int .u32 ha, .int .i64 hn], .bool ok]) ∧ HalP a n la ln ha hn ok ∧ Gr w w'
theorem halves_any (a n : Int) (w : World) (h0 : 0 ≤ a) (h1 : a < 4294967296) (hv : vld a n = true) :
    Calls Tryd.prog 27 #[.agg #[.int .u32 a, .int .i64 n]] w (HalPost a n w) := by
  by_cases hn : n = 32
  · subst hn
    exact (halves_32 a w h0 h1 hv).mono fun e w' ⟨he, hg⟩ => ⟨_, _, _, _, _, he, Or.inl ⟨rfl, rfl⟩, hg⟩
  · exact (halves_yes a n w h0 h1 hv hn).mono fun e w' ⟨he, hg⟩ => ⟨_, _, _, _, _, he, Or.inr ⟨rfl, hn, rfl, rfl, rfl, rfl⟩, hg⟩
set_option maxHeartbeats 1000000 in
theorem tree_walk (sv : Value) (len : Nat) (x y : Int) (w : World) (ht : Tab w) (hl : len ≤ 9223372036854775807) (hb : BytesV w.heap.size w sv len) (x0 : 0 ≤ x) (x1 : x < 4294967296) (y0 : 0 ≤ y) (y1 : y < 4294967296) :
    Calls Tryd.prog 6 #[sv, .int .u32 x, .int .u32 y] w fun e w' => e = .returned (.bool true) ∧ Gr w w' := by
  go_enter Tryd.func6, Tryd.ntmps6
  go_wp2_with (go_at_call 9; refine (awake_any _ ht).mono ?_; rintro e w1 ⟨rfl, hg1⟩)
  refine (new_any sv len _ hl (hb.gr hg1)).mono ?_
  rintro e w2 ⟨b, rfl, hbe, hc2, hg2⟩
  have hbw : w.heap.size ≤ b := by have := Gr.size hg1; omega
  have hG2 : Gr w w2 := (by repeat' (first | (with_reducible exact Gr.refl _) | (with_reducible assumption) | (with_reducible refine Gr.drewN ?_ _) | (with_reducible refine Gr.drew ?_) | (with_reducible refine Gr.alloc ?_ _) | (with_reducible refine Gr.setCell ?_ ?_ _) | (with_reducible refine Gr.grow ?_ _ _) | (refine Gr.step ?_ (by with_reducible assumption)) | go_size))
  clear hbe hg1 hg2 ht hb
  go_wp2_with fail
  refine (prefix_any b _ hc2 (Gr.size hG2)).mono ?_
  rintro e w3 ⟨pa, pn, rfl, pa0, pa1, pv, hc3, he3⟩
  have hG3 : Gr w w3 := Ex.gr hG2 hbw he3
  clear he3 hc2 hG2
  go_wp2_with fail
  refine (prefix_any b _ hc3 (Gr.size hG3)).mono ?_
  rintro e w4 ⟨qa, qn, rfl, qa0, qa1, qv, hc4, he4⟩
  have hG4 : Gr w w4 := Ex.gr hG3 hbw he4
  clear he4 hc3 hG3 hc4
  go_wp2_with fail
  have Pv := Lib.hid pv
  have Qv := Lib.hid qv
  clear pv qv
  refine (bounds_yes pa pn _ pa0 pa1 Pv.out).mono ?_
  rintro e w5 ⟨rfl, hg5⟩
  obtain ⟨hc, hf⟩ := Gr.cells hg5
  have p0 : w5.cell? ⟨w4.heap.size, 0, none⟩ = some (.int .u32 pa) := (by rw [hc _ _ (by go_size)]; first | (simp; done) | go_cell | (simp [go_sem]; done))
  have p1 : w5.cell? ⟨w4.heap.size, 1, none⟩ = some (.int .i64 pn) := (by rw [hc _ _ (by go_size)]; first | (simp; done) | go_cell | (simp [go_sem]; done))
  have q0 : w5.cell? ⟨w4.heap.size + 1, 0, none⟩ = some (.int .u32 qa) := (by rw [hc _ _ (by go_size)]; first | (simp; done) | go_cell | (simp [go_sem]; done))
  have q1 : w5.cell? ⟨w4.heap.size + 1, 1, none⟩ = some (.int .i64 qn) := (by rw [hc _ _ (by go_size)]; first | (simp; done) | go_cell | (simp [go_sem]; done))
  have hs5 := Gr.size hg5
  simp only [World.size_alloc] at hs5
  have s50 : w4.heap.size < w5.heap.size := by omega
  have s51 : w4.heap.size + 1 < w5.heap.size := by omega
  have hG5 : Gr w w5 := (by repeat' (first | (with_reducible exact Gr.refl _) | (with_reducible assumption) | (with_reducible refine Gr.drewN ?_ _) | (with_reducible refine Gr.drew ?_) | (with_reducible refine Gr.alloc ?_ _) | (with_reducible refine Gr.setCell ?_ ?_ _) | (with_reducible refine Gr.grow ?_ _ _) | (refine Gr.step ?_ (by with_reducible assumption)) | go_size))
  clear hc hf hg5 hs5
  go_wp2_with fail
  refine (bounds_yes qa qn _ qa0 qa1 Qv.out).mono ?_
  rintro e w6 ⟨rfl, hg6⟩
  obtain ⟨hc, hf⟩ := Gr.cells hg6
  have kp0 : w6.cell? ⟨w4.heap.size, 0, none⟩ = some (.int .u32 pa) := (by rw [hc _ _ (by go_size)]; first | (simp; done) | go_cell | (simp [go_sem, *]; done))
  have kp1 : w6.cell? ⟨w4.heap.size, 1, none⟩ = some (.int .i64 pn) := (by rw [hc _ _ (by go_size)]; first | (simp; done) | go_cell | (simp [go_sem, *]; done))
  have kq0 : w6.cell? ⟨w4.heap.size + 1, 0, none⟩ = some (.int .u32 qa) := (by rw [hc _ _ (by go_size)]; first | (simp; done) | go_cell | (simp [go_sem, *]; done))
  have kq1 : w6.cell? ⟨w4.heap.size + 1, 1, none⟩ = some (.int .i64 qn) := (by rw [hc _ _ (by go_size)]; first | (simp; done) | go_cell | (simp [go_sem, *]; done))
  have kx0 : w6.cell? ⟨w5.heap.size, 0, none⟩ = some (.int .u32 pa) := (by rw [hc _ _ (by go_size)]; first | (simp; done) | go_cell | (simp [go_sem, *]; done))
  have kx1 : w6.cell? ⟨w5.heap.size, 1, none⟩ = some (.int .u32 (pa + (sz pn - 1))) := (by rw [hc _ _ (by go_size)]; first | (simp; done) | go_cell | (simp [go_sem, *]; done))
  have hs6 := Gr.size hg6
  simp only [World.size_alloc] at hs6
  have s60 : w4.heap.size < w6.heap.size := by omega
  have s61 : w4.heap.size + 1 < w6.heap.size := by omega
  have s62 : w5.heap.size < w6.heap.size := by omega
  have hG6 : Gr w w6 := (by repeat' (first | (with_reducible exact Gr.refl _) | (with_reducible assumption) | (with_reducible refine Gr.drewN ?_ _) | (with_reducible refine Gr.drew ?_) | (with_reducible refine Gr.alloc ?_ _) | (with_reducible refine Gr.setCell ?_ ?_ _) | (with_reducible refine Gr.grow ?_ _ _) | (refine Gr.step ?_ (by with_reducible assumption)) | go_size))
  clear hc hf hg6 hs6 p0 p1 q0 q1 s50 s51
  generalize hb8 : w4.heap.size = B8 at *
  generalize hb10 : w5.heap.size = B10 at *
  clear hb8 hb10 hG4 hG5
  go_upto_region 7 with fail
  obtain ⟨wz, hz⟩ : ∃ wz, wz = w6.alloc (.cells #[.int .u32 qa, .int .u32 (qa + (sz qn - 1))] 49) := ⟨_, rfl⟩
  rw [← hz]
  have zp0 : wz.cell? ⟨B8, 0, none⟩ = some (.int .u32 pa) := by rw [hz, World.cell?_alloc_lt _ _ _ s60]; exact kp0
  have zp1 : wz.cell? ⟨B8, 1, none⟩ = some (.int .i64 pn) := by rw [hz, World.cell?_alloc_lt _ _ _ s60]; exact kp1
  have zq0 : wz.cell? ⟨B8 + 1, 0, none⟩ = some (.int .u32 qa) := by rw [hz, World.cell?_alloc_lt _ _ _ s61]; exact kq0
  have zq1 : wz.cell? ⟨B8 + 1, 1, none⟩ = some (.int .i64 qn) := by rw [hz, World.cell?_alloc_lt _ _ _ s61]; exact kq1
  have zx0 : wz.cell? ⟨B10, 0, none⟩ = some (.int .u32 pa) := by rw [hz, World.cell?_alloc_lt _ _ _ s62]; exact kx0
  have zx1 : wz.cell? ⟨B10, 1, none⟩ = some (.int .u32 (pa + (sz pn - 1))) := by rw [hz, World.cell?_alloc_lt _ _ _ s62]; exact kx1
  have zy0 : wz.cell? ⟨w6.heap.size, 0, none⟩ = some (.int .u32 qa) := by rw [hz]; simp
  have zy1 : wz.cell? ⟨w6.heap.size, 1, none⟩ = some (.int .u32 (qa + (sz qn - 1))) := by rw [hz]; simp
  have hGz : Gr w wz := by rw [hz]; exact Gr.alloc hG6 _
  generalize hb12 : w6.heap.size = B12 at *
  clear hz hG6 kp0 kp1 kq0 kq1 kx0 kx1 s60 s61 s62 hb12
  go_cut [56] (fun v wx => v = .bool false ∧ Gr wz wx)
  case first =>
    have F0 := fun d os => cell_regrown zp0 d os
    have F1 := fun d os => cell_regrown zp1 d os
    have F2 := fun d os => cell_regrown zq0 d os
    have F3 := fun d os => cell_regrown zq1 d os
    have F4 := fun d os => cell_regrown zx0 d os
    have F5 := fun d os => cell_regrown zx1 d os
    have F6 := fun d os => cell_regrown zy0 d os
    have F7 := fun d os => cell_regrown zy1 d os
    clear zp0 zp1 zq0 zq1 zx0 zx1 zy0 zy1
    have O := overlap_iff pa pn qa qn Pv.out Qv.out
    by_cases c1 : pa ≤ qa + (sz qn - 1)
    · have d1 : decide (pa ≤ qa + (sz qn - 1)) = true := by simpa using c1
      by_cases c2 : qa ≤ pa + (sz pn - 1)
      · have d2 : decide (qa ≤ pa + (sz pn - 1)) = true := by simpa using c2
        cases h1 : cvs pa pn qa qn
        · have H1 := Lib.hid h1
          have H2 := Lib.hid (show cvs qa qn pa pn = true by rw [d1, d2, h1] at O; simpa using O.symm)
          clear O h1
          refine wp_region_quiet_below (by kernel_rfl) (by kernel_rfl) ?_
          repeat (any_goals (first | go_big_quiet_step (first | (go_at_call 31; with_reducible exact Calls.gr_of (covers_is pa pn qa qn _ _ pa0 pa1 qa0 qa1 H1.out)) | (go_at_call 31; with_reducible exact Calls.gr_of (covers_is qa qn pa pn _ _ qa0 qa1 pa0 pa1 H2.out))) | quiet_step (first | (go_at_call 31; with_reducible exact Calls.gr_of (covers_is pa pn qa qn _ _ pa0 pa1 qa0 qa1 H1.out)) | (go_at_call 31; with_reducible exact Calls.gr_of (covers_is qa qn pa pn _ _ qa0 qa1 pa0 pa1 H2.out)))))
          refine wpQuiet_nil ?_
          intro _ hw'
          obtain ⟨⟨dq, osq⟩, hw''⟩ := hw'
          subst hw''
          go_wp2
          go_meet
          exact ⟨rfl, (by repeat' (first | (with_reducible exact Gr.refl _) | (with_reducible assumption) | (with_reducible refine Gr.drewN ?_ _) | (with_reducible refine Gr.drew ?_) | (with_reducible refine Gr.alloc ?_ _) | (with_reducible refine Gr.setCell ?_ ?_ _) | (with_reducible refine Gr.grow ?_ _ _) | (refine Gr.step ?_ (by with_reducible assumption)) | go_size))⟩
        · have H1 := Lib.hid h1
          clear O h1
          refine wp_region_quiet_below (by kernel_rfl) (by kernel_rfl) ?_
          repeat (any_goals (first | go_big_quiet_step (first | (go_at_call 31; with_reducible exact Calls.gr_of (covers_is pa pn qa qn _ _ pa0 pa1 qa0 qa1 H1.out))) | quiet_step (first | (go_at_call 31; with_reducible exact Calls.gr_of (covers_is pa pn qa qn _ _ pa0 pa1 qa0 qa1 H1.out)))))
          refine wpQuiet_nil ?_
          intro _ hw'
          obtain ⟨⟨dq, osq⟩, hw''⟩ := hw'
          subst hw''
          go_wp2
          go_meet
          exact ⟨rfl, (by repeat' (first | (with_reducible exact Gr.refl _) | (with_reducible assumption) | (with_reducible refine Gr.drewN ?_ _) | (with_reducible refine Gr.drew ?_) | (with_reducible refine Gr.alloc ?_ _) | (with_reducible refine Gr.setCell ?_ ?_ _) | (with_reducible refine Gr.grow ?_ _ _) | (refine Gr.step ?_ (by with_reducible assumption)) | go_size))⟩
      · have d2 : decide (qa ≤ pa + (sz pn - 1)) = false := by simpa using c2
        rw [d1, d2] at O
        have H1 := Lib.hid (show cvs pa pn qa qn = false by cases h : cvs pa pn qa qn; rfl; rw [h] at O; simp at O)
        have H2 := Lib.hid (show cvs qa qn pa pn = false by cases h : cvs qa qn pa pn; rfl; rw [h] at O; simp at O)
        clear O
        refine wp_region_quiet_below (by kernel_rfl) (by kernel_rfl) ?_
        repeat (any_goals (first | go_big_quiet_step (first | (go_at_call 31; with_reducible exact Calls.gr_of (covers_is pa pn qa qn _ _ pa0 pa1 qa0 qa1 H1.out)) | (go_at_call 31; with_reducible exact Calls.gr_of (covers_is qa qn pa pn _ _ qa0 qa1 pa0 pa1 H2.out))) | quiet_step (first | (go_at_call 31; with_reducible exact Calls.gr_of (covers_is pa pn qa qn _ _ pa0 pa1 qa0 qa1 H1.out)) | (go_at_call 31; with_reducible exact Calls.gr_of (covers_is qa qn pa pn _ _ qa0 qa1 pa0 pa1 H2.out)))))
        refine wpQuiet_nil ?_
        intro _ hw'
        obtain ⟨⟨dq, osq⟩, hw''⟩ := hw'
        subst hw''
        go_wp2
        go_meet
        exact ⟨rfl, (by repeat' (first | (with_reducible exact Gr.refl _) | (with_reducible assumption) | (with_reducible refine Gr.drewN ?_ _) | (with_reducible refine Gr.drew ?_) | (with_reducible refine Gr.alloc ?_ _) | (with_reducible refine Gr.setCell ?_ ?_ _) | (with_reducible refine Gr.grow ?_ _ _) | (refine Gr.step ?_ (by with_reducible assumption)) | go_size))⟩
    · have d1 : decide (pa ≤ qa + (sz qn - 1)) = false := by simpa using c1
      rw [d1] at O
      have H1 := Lib.hid (show cvs pa pn qa qn = false by cases h : cvs pa pn qa qn; rfl; rw [h] at O; simp at O)
      have H2 := Lib.hid (show cvs qa qn pa pn = false by cases h : cvs qa qn pa pn; rfl; rw [h] at O; simp at O)
      clear O
      refine wp_region_quiet_below (by kernel_rfl) (by kernel_rfl) ?_
      repeat (any_goals (first | go_big_quiet_step (first | (go_at_call 31; with_reducible exact Calls.gr_of (covers_is pa pn qa qn _ _ pa0 pa1 qa0 qa1 H1.out)) | (go_at_call 31; with_reducible exact Calls.gr_of (covers_is qa qn pa pn _ _ qa0 qa1 pa0 pa1 H2.out))) | quiet_step (first | (go_at_call 31; with_reducible exact Calls.gr_of (covers_is pa pn qa qn _ _ pa0 pa1 qa0 qa1 H1.out)) | (go_at_call 31; with_reducible exact Calls.gr_of (covers_is qa qn pa pn _ _ qa0 qa1 pa0 pa1 H2.out)))))
      refine wpQuiet_nil ?_
      intro _ hw'
      obtain ⟨⟨dq, osq⟩, hw''⟩ := hw'
      subst hw''
      go_wp2
      go_meet
      exact ⟨rfl, (by repeat' (first | (with_reducible exact Gr.refl _) | (with_reducible assumption) | (with_reducible refine Gr.drewN ?_ _) | (with_reducible refine Gr.drew ?_) | (with_reducible refine Gr.alloc ?_ _) | (with_reducible refine Gr.setCell ?_ ?_ _) | (with_reducible refine Gr.grow ?_ _ _) | (refine Gr.step ?_ (by with_reducible assumption)) | go_size))⟩
  case rest =>
    obtain ⟨rfl, hgc⟩ := hcut
    obtain ⟨hc, -⟩ := Gr.cells hgc
    have yp0 : wc.cell? ⟨B8, 0, none⟩ = some (.int .u32 pa) := by rw [hc _ _ (World.block_lt_of_cell? _ _ zp0)]; exact zp0
    have yp1 : wc.cell? ⟨B8, 1, none⟩ = some (.int .i64 pn) := by rw [hc _ _ (World.block_lt_of_cell? _ _ zp0)]; exact zp1
    have hGc : Gr w wc := (by repeat' (first | (with_reducible exact Gr.refl _) | (with_reducible assumption) | (with_reducible refine Gr.drewN ?_ _) | (with_reducible refine Gr.drew ?_) | (with_reducible refine Gr.alloc ?_ _) | (with_reducible refine Gr.setCell ?_ ?_ _) | (with_reducible refine Gr.grow ?_ _ _) | (refine Gr.step ?_ (by with_reducible assumption)) | go_size))
    clear hc hgc hGz zp0 zp1 zq0 zq1 zx0 zx1 zy0 zy1 Qv qa0 qa1
    go_wp2_with fail
    refine (halves_any pa pn _ pa0 pa1 Pv.out).mono ?_
    rintro e w7 ⟨la, ln, ha, hn, ok, rfl, HP, hg7⟩
    obtain ⟨hc, -⟩ := Gr.cells hg7
    have xp0 : w7.cell? ⟨B8, 0, none⟩ = some (.int .u32 pa) := by rw [hc _ _ (World.block_lt_of_cell? _ _ yp0)]; exact yp0
    have xp1 : w7.cell? ⟨B8, 1, none⟩ = some (.int .i64 pn) := by rw [hc _ _ (World.block_lt_of_cell? _ _ yp0)]; exact yp1
    have s7 : B8 < w7.heap.size := World.block_lt_of_cell? _ _ xp0
    have hG7 : Gr w w7 := (by repeat' (first | (with_reducible exact Gr.refl _) | (with_reducible assumption) | (with_reducible refine Gr.drewN ?_ _) | (with_reducible refine Gr.drew ?_) | (with_reducible refine Gr.alloc ?_ _) | (with_reducible refine Gr.setCell ?_ ?_ _) | (with_reducible refine Gr.grow ?_ _ _) | (refine Gr.step ?_ (by with_reducible assumption)) | go_size))
    clear hc hg7 hGc yp0 yp1
    go_upto_region 10 with fail
    generalize hb14 : w7.heap.size = B14 at *
    obtain ⟨wz, hz⟩ : ∃ wz, wz = (w7.alloc (.cells #[.int .u32 la, .int .i64 ln] 25)).alloc (.cells #[.int .u32 ha, .int .i64 hn] 25) := ⟨_, rfl⟩
    rw [← hz]
    subst hb14
    have zp0 : wz.cell? ⟨B8, 0, none⟩ = some (.int .u32 pa) := by rw [hz, World.cell?_alloc_lt _ _ _ (by simp; omega), World.cell?_alloc_lt _ _ _ s7]; exact xp0
    have zp1 : wz.cell? ⟨B8, 1, none⟩ = some (.int .i64 pn) := by rw [hz, World.cell?_alloc_lt _ _ _ (by simp; omega), World.cell?_alloc_lt _ _ _ s7]; exact xp1
    have zl0 : wz.cell? ⟨w7.heap.size, 0, none⟩ = some (.int .u32 la) := by rw [hz]; simp
    have zl1 : wz.cell? ⟨w7.heap.size, 1, none⟩ = some (.int .i64 ln) := by rw [hz]; simp
    have zh0 : wz.cell? ⟨w7.heap.size + 1, 0, none⟩ = some (.int .u32 ha) := by rw [hz]; first | (simp; done) | go_cell | (simp [go_sem]; done)
    have zh1 : wz.cell? ⟨w7.heap.size + 1, 1, none⟩ = some (.int .i64 hn) := by rw [hz]; first | (simp; done) | go_cell | (simp [go_sem]; done)
    have fl0 : wz.frozen? ⟨w7.heap.size, 0, none⟩ = false := by rw [hz]; first | (simp; done) | (simp [go_sem]; done)
    have fl1 : wz.frozen? ⟨w7.heap.size, 1, none⟩ = false := by rw [hz]; first | (simp; done) | (simp [go_sem]; done)
    have fh0 : wz.frozen? ⟨w7.heap.size + 1, 0, none⟩ = false := by rw [hz]; first | (simp; done) | (simp [go_sem]; done)
    have fh1 : wz.frozen? ⟨w7.heap.size + 1, 1, none⟩ = false := by rw [hz]; first | (simp; done) | (simp [go_sem]; done)
    have hGz : Gr w wz := by rw [hz]; exact Gr.alloc (Gr.alloc hG7 _) _
    have hgl : w.heap.size ≤ w7.heap.size := Gr.size hG7
    generalize hb14 : w7.heap.size = B14 at *
    clear hz hG7 s7 xp0 xp1 hb14
    go_cut [87] (fun v wx => v = .bool false ∧ Gr wz wx)
    case first =>
      have F0 := fun d os => cell_regrown zp0 d os
      have F1 := fun d os => cell_regrown zp1 d os
      have F2 := fun d os => cell_regrown zl0 d os
      have F3 := fun d os => cell_regrown zl1 d os
      have F4 := fun d os => cell_regrown zh0 d os
      have F5 := fun d os => cell_regrown zh1 d os
      clear zp0 zp1 zl0 zl1 zh0 zh1 fl0 fl1 fh0 fh1
      rcases HP with ⟨rfl, rfl⟩ | ⟨rfl, hn32, rfl, rfl, rfl, rfl⟩
      · skip
        refine wp_region_quiet_below (by kernel_rfl) (by kernel_rfl) ?_
        repeat (any_goals (first | go_big_quiet_step (fail) | quiet_step (fail)))
        refine wpQuiet_nil ?_
        intro _ hw'
        obtain ⟨⟨dq, osq⟩, hw''⟩ := hw'
        subst hw''
        go_wp2
        go_meet
        exact ⟨rfl, (by repeat' (first | (with_reducible exact Gr.refl _) | (with_reducible assumption) | (with_reducible refine Gr.drewN ?_ _) | (with_reducible refine Gr.drew ?_) | (with_reducible refine Gr.alloc ?_ _) | (with_reducible refine Gr.setCell ?_ ?_ _) | (with_reducible refine Gr.grow ?_ _ _) | (refine Gr.step ?_ (by with_reducible assumption)) | go_size))⟩
      · have ⟨v1, v2, e1, e2⟩ := halves_ctn pa pn x Pv.out hn32
        have hsp := sz_pos (pn + 1)
        have ⟨n0, n1, nm⟩ := vld_iff.1 Pv.out
        have hrm := valid_room pa pn pa1 nm
        have hhf := sz_half pn n0 (by omega)
        have ha0 : 0 ≤ pa + sz (pn + 1) := by omega
        have ha1 : pa + sz (pn + 1) < 4294967296 := by omega
        clear n0 n1 nm hrm hhf hsp hn32
        cases cl : ctn pa (pn + 1) x
        · cases ch : ctn (pa + sz (pn + 1)) (pn + 1) x
          · have C0 := Lib.hid (show ctn pa pn x = false by rw [e1, cl, ch]; rfl)
            have C1 := Lib.hid cl
            have C2 := Lib.hid ch
            clear e1 e2 cl ch v1 v2
            refine wp_region_quiet_below (by kernel_rfl) (by kernel_rfl) ?_
            repeat (any_goals (first | go_big_quiet_step (first | (go_at_call 23; with_reducible exact Calls.gr_of (ctn_is pa pn x _ _ pa0 pa1 x0 x1 C0.out)) | (go_at_call 23; with_reducible exact Calls.gr_of (ctn_is pa (pn + 1) x _ _ pa0 pa1 x0 x1 C1.out)) | (go_at_call 23; with_reducible exact Calls.gr_of (ctn_is (pa + sz (pn + 1)) (pn + 1) x _ _ ha0 ha1 x0 x1 C2.out))) | quiet_step (first | (go_at_call 23; with_reducible exact Calls.gr_of (ctn_is pa pn x _ _ pa0 pa1 x0 x1 C0.out)) | (go_at_call 23; with_reducible exact Calls.gr_of (ctn_is pa (pn + 1) x _ _ pa0 pa1 x0 x1 C1.out)) | (go_at_call 23; with_reducible exact Calls.gr_of (ctn_is (pa + sz (pn + 1)) (pn + 1) x _ _ ha0 ha1 x0 x1 C2.out)))))
            refine wpQuiet_nil ?_
            intro _ hw'
            obtain ⟨⟨dq, osq⟩, hw''⟩ := hw'
            subst hw''
            go_wp2
            go_meet
            exact ⟨rfl, (by repeat' (first | (with_reducible exact Gr.refl _) | (with_reducible assumption) | (with_reducible refine Gr.drewN ?_ _) | (with_reducible refine Gr.drew ?_) | (with_reducible refine Gr.alloc ?_ _) | (with_reducible refine Gr.setCell ?_ ?_ _) | (with_reducible refine Gr.grow ?_ _ _) | (refine Gr.step ?_ (by with_reducible assumption)) | go_size))⟩
          · have C0 := Lib.hid (show ctn pa pn x = true by rw [e1, cl, ch]; rfl)
            have C1 := Lib.hid cl
            have C2 := Lib.hid ch
            clear e1 e2 cl ch v1 v2
            refine wp_region_quiet_below (by kernel_rfl) (by kernel_rfl) ?_
            repeat (any_goals (first | go_big_quiet_step (first | (go_at_call 23; with_reducible exact Calls.gr_of (ctn_is pa pn x _ _ pa0 pa1 x0 x1 C0.out)) | (go_at_call 23; with_reducible exact Calls.gr_of (ctn_is pa (pn + 1) x _ _ pa0 pa1 x0 x1 C1.out)) | (go_at_call 23; with_reducible exact Calls.gr_of (ctn_is (pa + sz (pn + 1)) (pn + 1) x _ _ ha0 ha1 x0 x1 C2.out))) | quiet_step (first | (go_at_call 23; with_reducible exact Calls.gr_of (ctn_is pa pn x _ _ pa0 pa1 x0 x1 C0.out)) | (go_at_call 23; with_reducible exact Calls.gr_of (ctn_is pa (pn + 1) x _ _ pa0 pa1 x0 x1 C1.out)) | (go_at_call 23; with_reducible exact Calls.gr_of (ctn_is (pa + sz (pn + 1)) (pn + 1) x _ _ ha0 ha1 x0 x1 C2.out)))))
            refine wpQuiet_nil ?_
            intro _ hw'
            obtain ⟨⟨dq, osq⟩, hw''⟩ := hw'
            subst hw''
            go_wp2
            go_meet
            exact ⟨rfl, (by repeat' (first | (with_reducible exact Gr.refl _) | (with_reducible assumption) | (with_reducible refine Gr.drewN ?_ _) | (with_reducible refine Gr.drew ?_) | (with_reducible refine Gr.alloc ?_ _) | (with_reducible refine Gr.setCell ?_ ?_ _) | (with_reducible refine Gr.grow ?_ _ _) | (refine Gr.step ?_ (by with_reducible assumption)) | go_size))⟩
        · have ch : ctn (pa + sz (pn + 1)) (pn + 1) x = false := by rw [cl] at e2; simpa using e2
          have C0 := Lib.hid (show ctn pa pn x = true by rw [e1, cl, ch]; rfl)
          have C1 := Lib.hid cl
          have C2 := Lib.hid ch
          clear e1 e2 cl ch v1 v2
          refine wp_region_quiet_below (by kernel_rfl) (by kernel_rfl) ?_
          repeat (any_goals (first | go_big_quiet_step (first | (go_at_call 23; with_reducible exact Calls.gr_of (ctn_is pa pn x _ _ pa0 pa1 x0 x1 C0.out)) | (go_at_call 23; with_reducible exact Calls.gr_of (ctn_is pa (pn + 1) x _ _ pa0 pa1 x0 x1 C1.out)) | (go_at_call 23; with_reducible exact Calls.gr_of (ctn_is (pa + sz (pn + 1)) (pn + 1) x _ _ ha0 ha1 x0 x1 C2.out))) | quiet_step (first | (go_at_call 23; with_reducible exact Calls.gr_of (ctn_is pa pn x _ _ pa0 pa1 x0 x1 C0.out)) | (go_at_call 23; with_reducible exact Calls.gr_of (ctn_is pa (pn + 1) x _ _ pa0 pa1 x0 x1 C1.out)) | (go_at_call 23; with_reducible exact Calls.gr_of (ctn_is (pa + sz (pn + 1)) (pn + 1) x _ _ ha0 ha1 x0 x1 C2.out)))))
          refine wpQuiet_nil ?_
          intro _ hw'
          obtain ⟨⟨dq, osq⟩, hw''⟩ := hw'
          subst hw''
          go_wp2
          go_meet
          exact ⟨rfl, (by repeat' (first | (with_reducible exact Gr.refl _) | (with_reducible assumption) | (with_reducible refine Gr.drewN ?_ _) | (with_reducible refine Gr.drew ?_) | (with_reducible refine Gr.alloc ?_ _) | (with_reducible refine Gr.setCell ?_ ?_ _) | (with_reducible refine Gr.grow ?_ _ _) | (refine Gr.step ?_ (by with_reducible assumption)) | go_size))⟩
    case rest =>
      obtain ⟨rfl, hgc⟩ := hcut
      obtain ⟨hc, hf⟩ := Gr.cells hgc
      have l0 : B14 < wz.heap.size := World.block_lt_of_cell? _ _ zl0
      have l1 : B14 + 1 < wz.heap.size := World.block_lt_of_cell? _ _ zh0
      have yl0 : wc.cell? ⟨B14, 0, none⟩ = some (.int .u32 la) := by rw [hc _ _ l0]; exact zl0
      have yl1 : wc.cell? ⟨B14, 1, none⟩ = some (.int .i64 ln) := by rw [hc _ _ l0]; exact zl1
      have yh0 : wc.cell? ⟨B14 + 1, 0, none⟩ = some (.int .u32 ha) := by rw [hc _ _ l1]; exact zh0
      have yh1 : wc.cell? ⟨B14 + 1, 1, none⟩ = some (.int .i64 hn) := by rw [hc _ _ l1]; exact zh1
      have gl0 : wc.frozen? ⟨B14, 0, none⟩ = false := by rw [hf _ _ l0]; exact fl0
      have gl1 : wc.frozen? ⟨B14, 1, none⟩ = false := by rw [hf _ _ l0]; exact fl1
      have gh0 : wc.frozen? ⟨B14 + 1, 0, none⟩ = false := by rw [hf _ _ l1]; exact fh0
      have gh1 : wc.frozen? ⟨B14 + 1, 1, none⟩ = false := by rw [hf _ _ l1]; exact fh1
      have hGc : Gr w wc := (by repeat' (first | (with_reducible exact Gr.refl _) | (with_reducible assumption) | (with_reducible refine Gr.drewN ?_ _) | (with_reducible refine Gr.drew ?_) | (with_reducible refine Gr.alloc ?_ _) | (with_reducible refine Gr.setCell ?_ ?_ _) | (with_reducible refine Gr.grow ?_ _ _) | (refine Gr.step ?_ (by with_reducible assumption)) | go_size))
      clear hc hf hgc hGz zp0 zp1 zl0 zl1 zh0 zh1 fl0 fl1 fh0 fh1 HP Pv pa0 pa1 l0 l1
      have ⟨r0, r1⟩ := cmn_range x y x1 y1
      have ⟨m0, m1⟩ := mod_sz x (cmn x y) x0
      have Mv := Lib.hid (vld_cut' x (cmn x y) r0 r1)
      have a0 : 0 ≤ x - x % sz (cmn x y) := by omega
      have a1 : x - x % sz (cmn x y) < 4294967296 := by omega
      have K1 := Lib.hid (show ctn (x - x % sz (cmn x y)) (cmn x y) x = true by rw [ctn_cmn x x _ x0 x1 x0 x1 r0 r1, decide_eq_true_eq, cmn_le x x _ x0 x1 x0 x1 r0 r1])
      have K2 := Lib.hid (show ctn (x - x % sz (cmn x y)) (cmn x y) y = true by rw [ctn_cmn x y _ x0 x1 y0 y1 r0 r1]; simp)
      have K3 := Lib.hid (cmn_eq x y x0 x1 y0 y1)
      have K4 : Hid (cmn x y ≠ 32 → ctn (x - x % sz (cmn x y)) (cmn x y + 1) x = !ctn (x - x % sz (cmn x y)) (cmn x y + 1) y) := Lib.hid (fun h => cmn_halves x y x0 x1 y0 y1 h)
      go_wp2_with fail
      refine (common_any x y _ x0 x1 y0 y1).mono ?_
      generalize x - x % sz (cmn x y) = ma at *
      generalize cmn x y = mn at *
      rintro e w8 ⟨rfl, hg8⟩
      obtain ⟨hc, hf⟩ := Gr.cells hg8
      have l0 : B14 < wc.heap.size := World.block_lt_of_cell? _ _ yl0
      have l1 : B14 + 1 < wc.heap.size := World.block_lt_of_cell? _ _ yh0
      have xl0 : w8.cell? ⟨B14, 0, none⟩ = some (.int .u32 la) := by rw [hc _ _ l0]; exact yl0
      have xl1 : w8.cell? ⟨B14, 1, none⟩ = some (.int .i64 ln) := by rw [hc _ _ l0]; exact yl1
      have xh0 : w8.cell? ⟨B14 + 1, 0, none⟩ = some (.int .u32 ha) := by rw [hc _ _ l1]; exact yh0
      have xh1 : w8.cell? ⟨B14 + 1, 1, none⟩ = some (.int .i64 hn) := by rw [hc _ _ l1]; exact yh1
      have fl0 : w8.frozen? ⟨B14, 0, none⟩ = false := by rw [hf _ _ l0]; exact gl0
      have fl1 : w8.frozen? ⟨B14, 1, none⟩ = false := by rw [hf _ _ l0]; exact gl1
      have fh0 : w8.frozen? ⟨B14 + 1, 0, none⟩ = false := by rw [hf _ _ l1]; exact gh0
      have fh1 : w8.frozen? ⟨B14 + 1, 1, none⟩ = false := by rw [hf _ _ l1]; exact gh1
      have s8 : B14 < w8.heap.size := World.block_lt_of_cell? _ _ xl0
      have s9 : B14 + 1 < w8.heap.size := World.block_lt_of_cell? _ _ xh0
      have hG8 : Gr w w8 := (by repeat' (first | (with_reducible exact Gr.refl _) | (with_reducible assumption) | (with_reducible refine Gr.drewN ?_ _) | (with_reducible refine Gr.drew ?_) | (with_reducible refine Gr.alloc ?_ _) | (with_reducible refine Gr.setCell ?_ ?_ _) | (with_reducible refine Gr.grow ?_ _ _) | (refine Gr.step ?_ (by with_reducible assumption)) | go_size))
      clear hc hf hg8 hGc yl0 yl1 yh0 yh1 gl0 gl1 gh0 gh1 l0 l1
      go_wp2_with fail
      refine (halves_any ma mn _ a0 a1 Mv.out).mono ?_
      rintro e w9 ⟨ka, kn, ia, ih2, ok2, rfl, HQ, hg9⟩
      obtain ⟨hc, hf⟩ := Gr.cells hg9
      have tm0 : w9.cell? ⟨w8.heap.size, 0, none⟩ = some (.int .u32 ma) := (by rw [hc _ _ (by go_size)]; first | (simp; done) | go_cell | (simp [go_sem, *]; done))
      have tm1 : w9.cell? ⟨w8.heap.size, 1, none⟩ = some (.int .i64 mn) := (by rw [hc _ _ (by go_size)]; first | (simp; done) | go_cell | (simp [go_sem, *]; done))
      have tl0 : w9.cell? ⟨B14, 0, none⟩ = some (.int .u32 la) := (by rw [hc _ _ (by go_size)]; first | (simp; done) | go_cell | (simp [go_sem, *]; done))
      have tl1 : w9.cell? ⟨B14, 1, none⟩ = some (.int .i64 ln) := (by rw [hc _ _ (by go_size)]; first | (simp; done) | go_cell | (simp [go_sem, *]; done))
      have th0 : w9.cell? ⟨B14 + 1, 0, none⟩ = some (.int .u32 ha) := (by rw [hc _ _ (by go_size)]; first | (simp; done) | go_cell | (simp [go_sem, *]; done))
      have th1 : w9.cell? ⟨B14 + 1, 1, none⟩ = some (.int .i64 hn) := (by rw [hc _ _ (by go_size)]; first | (simp; done) | go_cell | (simp [go_sem, *]; done))
      have kl0 : w9.frozen? ⟨B14, 0, none⟩ = false := by rw [hf _ _ (by go_size), World.frozen?_alloc_lt _ _ _ s8]; exact fl0
      have kl1 : w9.frozen? ⟨B14, 1, none⟩ = false := by rw [hf _ _ (by go_size), World.frozen?_alloc_lt _ _ _ s8]; exact fl1
      have kh0 : w9.frozen? ⟨B14 + 1, 0, none⟩ = false := by rw [hf _ _ (by go_size), World.frozen?_alloc_lt _ _ _ s9]; exact fh0
      have kh1 : w9.frozen? ⟨B14 + 1, 1, none⟩ = false := by rw [hf _ _ (by go_size), World.frozen?_alloc_lt _ _ _ s9]; exact fh1
      have hG9 : Gr w w9 := (by repeat' (first | (with_reducible exact Gr.refl _) | (with_reducible assumption) | (with_reducible refine Gr.drewN ?_ _) | (with_reducible refine Gr.drew ?_) | (with_reducible refine Gr.alloc ?_ _) | (with_reducible refine Gr.setCell ?_ ?_ _) | (with_reducible refine Gr.grow ?_ _ _) | (refine Gr.step ?_ (by with_reducible assumption)) | go_size))
      clear hc hf hg9 hG8 xl0 xl1 xh0 xh1 fl0 fl1 fh0 fh1
      go_upto_region 14 with fail
      obtain ⟨wz, hz⟩ : ∃ wz, wz = (((w9.setCell ⟨B14, 0, none⟩ (.int .u32 ka)).setCell ⟨B14, 1, none⟩ (.int .i64 kn)).setCell ⟨B14 + 1, 0, none⟩ (.int .u32 ia)).setCell ⟨B14 + 1, 1, none⟩ (.int .i64 ih2) := ⟨_, rfl⟩
      rw [← hz]
      have n1 : B14 ≠ w8.heap.size := by omega
      have n2 : B14 + 1 ≠ w8.heap.size := by omega
      have n3 : B14 + 1 ≠ B14 := by omega
      have zm0 : wz.cell? ⟨w8.heap.size, 0, none⟩ = some (.int .u32 ma) := by rw [hz]; exact cell_far n2 (cell_far n2 (cell_far n1 (cell_far n1 tm0)))
      have zm1 : wz.cell? ⟨w8.heap.size, 1, none⟩ = some (.int .i64 mn) := by rw [hz]; exact cell_far n2 (cell_far n2 (cell_far n1 (cell_far n1 tm1)))
      have zl0 : wz.cell? ⟨B14, 0, none⟩ = some (.int .u32 ka) := by
        rw [hz]; refine cell_far n3 (cell_far n3 ?_)
        simp [go_sem, tl0]
      have zl1 : wz.cell? ⟨B14, 1, none⟩ = some (.int .i64 kn) := by
        rw [hz]; refine cell_far n3 (cell_far n3 ?_)
        simp [go_sem, tl1]
      have hGz : Gr w wz := by rw [hz]; exact (((hG9.setCell (by simp; omega) _).setCell (by simp; omega) _).setCell (by simp; omega) _).setCell (by simp; omega) _
      clear hz hG9 n1 n2 n3 kl0 kl1 kh0 kh1 tm0 tm1 tl0 tl1 th0 th1
      have F0 := fun d os => cell_regrown zm0 d os
      have F1 := fun d os => cell_regrown zm1 d os
      have F2 := fun d os => cell_regrown zl0 d os
      have F3 := fun d os => cell_regrown zl1 d os
      clear zm0 zm1 zl0 zl1
      rcases HQ with ⟨rfl, rfl⟩ | ⟨rfl, hm32, rfl, rfl, rfl, rfl⟩
      · have E : (x == y) = true := K3.out
        refine wp_region_quiet_below (by kernel_rfl) (by kernel_rfl) ?_
        repeat (any_goals (first | go_big_quiet_step (first | (go_at_call 23; with_reducible exact Calls.gr_of (ctn_is _ _ x _ _ a0 a1 x0 x1 K1.out)) | (go_at_call 23; with_reducible exact Calls.gr_of (ctn_is _ _ y _ _ a0 a1 y0 y1 K2.out))) | quiet_step (first | (go_at_call 23; with_reducible exact Calls.gr_of (ctn_is _ _ x _ _ a0 a1 x0 x1 K1.out)) | (go_at_call 23; with_reducible exact Calls.gr_of (ctn_is _ _ y _ _ a0 a1 y0 y1 K2.out)))))
        refine wpQuiet_nil ?_
        intro _ hw'
        obtain ⟨⟨dq, osq⟩, hw''⟩ := hw'
        subst hw''
        go_wp2
        go_ret
        exact ⟨rfl, (by repeat' (first | (with_reducible exact Gr.refl _) | (with_reducible assumption) | (with_reducible refine Gr.drewN ?_ _) | (with_reducible refine Gr.drew ?_) | (with_reducible refine Gr.alloc ?_ _) | (with_reducible refine Gr.setCell ?_ ?_ _) | (with_reducible refine Gr.grow ?_ _ _) | (refine Gr.step ?_ (by with_reducible assumption)) | go_size))⟩
      · have E2 : (mn == 32) = false := by simpa using hm32
        have E : (x == y) = false := K3.out.trans E2
        have hK4 := K4.out hm32
        clear hm32
        cases cl : ctn ma (mn + 1) x
        · have C1 := Lib.hid cl
          have C2 := Lib.hid (show ctn ma (mn + 1) y = true by rw [cl] at hK4; simpa using hK4.symm)
          clear hK4 cl
          refine wp_region_quiet_below (by kernel_rfl) (by kernel_rfl) ?_
          repeat (any_goals (first | go_big_quiet_step (first | (go_at_call 23; with_reducible exact Calls.gr_of (ctn_is _ _ x _ _ a0 a1 x0 x1 K1.out)) | (go_at_call 23; with_reducible exact Calls.gr_of (ctn_is _ _ y _ _ a0 a1 y0 y1 K2.out)) | (go_at_call 23; with_reducible exact Calls.gr_of (ctn_is _ _ x _ _ a0 a1 x0 x1 C1.out)) | (go_at_call 23; with_reducible exact Calls.gr_of (ctn_is _ _ y _ _ a0 a1 y0 y1 C2.out))) | quiet_step (first | (go_at_call 23; with_reducible exact Calls.gr_of (ctn_is _ _ x _ _ a0 a1 x0 x1 K1.out)) | (go_at_call 23; with_reducible exact Calls.gr_of (ctn_is _ _ y _ _ a0 a1 y0 y1 K2.out)) | (go_at_call 23; with_reducible exact Calls.gr_of (ctn_is _ _ x _ _ a0 a1 x0 x1 C1.out)) | (go_at_call 23; with_reducible exact Calls.gr_of (ctn_is _ _ y _ _ a0 a1 y0 y1 C2.out)))))
          refine wpQuiet_nil ?_
          intro _ hw'
          obtain ⟨⟨dq, osq⟩, hw''⟩ := hw'
          subst hw''
          go_wp2
          go_ret
          exact ⟨rfl, (by repeat' (first | (with_reducible exact Gr.refl _) | (with_reducible assumption) | (with_reducible refine Gr.drewN ?_ _) | (with_reducible refine Gr.drew ?_) | (with_reducible refine Gr.alloc ?_ _) | (with_reducible refine Gr.setCell ?_ ?_ _) | (with_reducible refine Gr.grow ?_ _ _) | (refine Gr.step ?_ (by with_reducible assumption)) | go_size))⟩
        · have C1 := Lib.hid cl
          have C2 := Lib.hid (show ctn ma (mn + 1) y = false by rw [cl] at hK4; simpa using hK4.symm)
          clear hK4 cl
          refine wp_region_quiet_below (by kernel_rfl) (by kernel_rfl) ?_
          repeat (any_goals (first | go_big_quiet_step (first | (go_at_call 23; with_reducible exact Calls.gr_of (ctn_is _ _ x _ _ a0 a1 x0 x1 K1.out)) | (go_at_call 23; with_reducible exact Calls.gr_of (ctn_is _ _ y _ _ a0 a1 y0 y1 K2.out)) | (go_at_call 23; with_reducible exact Calls.gr_of (ctn_is _ _ x _ _ a0 a1 x0 x1 C1.out)) | (go_at_call 23; with_reducible exact Calls.gr_of (ctn_is _ _ y _ _ a0 a1 y0 y1 C2.out))) | quiet_step (first | (go_at_call 23; with_reducible exact Calls.gr_of (ctn_is _ _ x _ _ a0 a1 x0 x1 K1.out)) | (go_at_call 23; with_reducible exact Calls.gr_of (ctn_is _ _ y _ _ a0 a1 y0 y1 K2.out)) | (go_at_call 23; with_reducible exact Calls.gr_of (ctn_is _ _ x _ _ a0 a1 x0 x1 C1.out)) | (go_at_call 23; with_reducible exact Calls.gr_of (ctn_is _ _ y _ _ a0 a1 y0 y1 C2.out)))))
          refine wpQuiet_nil ?_
          intro _ hw'
          obtain ⟨⟨dq, osq⟩, hw''⟩ := hw'
          subst hw''
          go_wp2
          go_ret
          exact ⟨rfl, (by repeat' (first | (with_reducible exact Gr.refl _) | (with_reducible assumption) | (with_reducible refine Gr.drewN ?_ _) | (with_reducible refine Gr.drew ?_) | (with_reducible refine Gr.alloc ?_ _) | (with_reducible refine Gr.setCell ?_ ?_ _) | (with_reducible refine Gr.grow ?_ _ _) | (refine Gr.step ?_ (by with_reducible assumption)) | go_size))⟩
end Go.Proofs.YtamemancjodefaaDoor
