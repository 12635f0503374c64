/- Chapter 1's numbers, fourth part. -/
import Derived.Test.YtamemancjodefaaDoorNumsB
import Derived.WalkKit
import Derived.WalkSpells
import Derived.WalkLawsBesides
import Derived.WalkSmall
import Derived.Handy
import Derived.BigQuiet
import Derived.Deep.QuietTactic
import Derived.Deep.RegionHeld3
import Derived.Deep.DeepFit
import Derived.Below
import Derived.Lib.Hide
import Derived.Lib.QuietBelow
namespace Go.Proofs.YtamemancjodefaaDoor
open Go Go.RowKit Go.Sort
set_option maxRecDepth 100000

theorem covers_any (a n b m : Int) (w : World) (h0 : 0 ≤ a) (h1 : a < 4294967296) (b0 : 0 ≤ b) (b1 : b < 4294967296) :
    Calls Tryd.prog 31 #[.agg #[.int .u32 a, .int .i64 n], .agg #[.int .u32 b, .int .i64 m]] w fun e w' => e = .returned (.bool (cvs a n b m)) ∧ Gr w w' := by
  by_cases hv : vld b m = true
  · by_cases hnm : n ≤ m
    · have E := Lib.hid (cvs_le (a := a) hv hnm)
      have d1 : decide (n ≤ m) = true := by simpa using hnm
      have Hv := Lib.hid hv; clear hv
      go_enter Tryd.func31, Tryd.ntmps31
      go_wp2_with (first
        | (go_at_call 22; refine (valid_yes b m _ b0 b1 Hv.out).mono ?_; rintro e w1 ⟨rfl, hg1⟩; have hz := Gr.size hg1; simp at hz; obtain ⟨hc, hf⟩ := Gr.cells hg1; have hp0 : w1.cell? ⟨w.heap.size, 0, none⟩ = some (.int .u32 a) := (by rw [hc _ _ (by go_size)]; first | (simp; done) | go_cell | (simp [go_sem]; done)); have hp1 : w1.cell? ⟨w.heap.size, 1, none⟩ = some (.int .i64 n) := (by rw [hc _ _ (by go_size)]; first | (simp; done) | go_cell | (simp [go_sem]; done)); have hq0 : w1.cell? ⟨w.heap.size + 1, 0, none⟩ = some (.int .u32 b) := (by rw [hc _ _ (by go_size)]; first | (simp; done) | go_cell | (simp [go_sem]; done)); have hq1 : w1.cell? ⟨w.heap.size + 1, 1, none⟩ = some (.int .i64 m) := (by rw [hc _ _ (by go_size)]; first | (simp; done) | go_cell | (simp [go_sem]; done)); clear hc)
        | (go_at_call 23; refine (ctn_any a n b _ h0 h1 b0 b1).mono ?_; rintro e w2 ⟨rfl, hg2⟩))
      go_ret
      exact ⟨ret_bool E.out.symm, (by repeat' (first | (with_reducible exact Gr.refl _) | (with_reducible assumption) | (with_reducible refine Gr.drewN ?_ _) | (with_reducible refine Gr.drew ?_) | (with_reducible refine Gr.alloc ?_ _) | (with_reducible refine Gr.setCell ?_ ?_ _) | (with_reducible refine Gr.grow ?_ _ _) | (refine Gr.step ?_ (by with_reducible assumption)) | go_size))⟩
    · have E := Lib.hid (cvs_gt (a := a) (b := b) hnm)
      have d1 : decide (n ≤ m) = false := by simpa using hnm
      have Hv := Lib.hid hv; clear hv
      go_enter Tryd.func31, Tryd.ntmps31
      go_wp2_with (first
        | (go_at_call 22; refine (valid_yes b m _ b0 b1 Hv.out).mono ?_; rintro e w1 ⟨rfl, hg1⟩; have hz := Gr.size hg1; simp at hz; obtain ⟨hc, hf⟩ := Gr.cells hg1; have hp0 : w1.cell? ⟨w.heap.size, 0, none⟩ = some (.int .u32 a) := (by rw [hc _ _ (by go_size)]; first | (simp; done) | go_cell | (simp [go_sem]; done)); have hp1 : w1.cell? ⟨w.heap.size, 1, none⟩ = some (.int .i64 n) := (by rw [hc _ _ (by go_size)]; first | (simp; done) | go_cell | (simp [go_sem]; done)); have hq0 : w1.cell? ⟨w.heap.size + 1, 0, none⟩ = some (.int .u32 b) := (by rw [hc _ _ (by go_size)]; first | (simp; done) | go_cell | (simp [go_sem]; done)); have hq1 : w1.cell? ⟨w.heap.size + 1, 1, none⟩ = some (.int .i64 m) := (by rw [hc _ _ (by go_size)]; first | (simp; done) | go_cell | (simp [go_sem]; done)); clear hc))
      go_ret
      exact ⟨ret_bool E.out.symm, (by repeat' (first | (with_reducible exact Gr.refl _) | (with_reducible assumption) | (with_reducible refine Gr.drewN ?_ _) | (with_reducible refine Gr.drew ?_) | (with_reducible refine Gr.alloc ?_ _) | (with_reducible refine Gr.setCell ?_ ?_ _) | (with_reducible refine Gr.grow ?_ _ _) | (refine Gr.step ?_ (by with_reducible assumption)) | go_size))⟩
  · have Hv := Lib.hid (show vld b m = false by simpa using hv)
    have E := Lib.hid (cvs_no (a := a) (n := n) Hv.out)
    clear hv
    go_enter Tryd.func31, Tryd.ntmps31
    go_wp2_with (first
        | (go_at_call 22; refine (valid_no b m _ b0 b1 Hv.out).mono ?_; rintro e w1 ⟨rfl, hg1⟩))
    go_ret
    exact ⟨ret_bool E.out.symm, (by repeat' (first | (with_reducible exact Gr.refl _) | (with_reducible assumption) | (with_reducible refine Gr.drewN ?_ _) | (with_reducible refine Gr.drew ?_) | (with_reducible refine Gr.alloc ?_ _) | (with_reducible refine Gr.setCell ?_ ?_ _) | (with_reducible refine Gr.grow ?_ _ _) | (refine Gr.step ?_ (by with_reducible assumption)) | go_size))⟩

theorem rctn_is (a n x : Int) (v : Bool) (w : World) (h0 : 0 ≤ a) (h1 : a < 4294967296) (h : ctn a n x = v) :
    Calls Tryd.prog 30 #[.agg #[.int .u32 a, .int .i64 n], .int .u32 x] w fun e w' => e = .returned (.bool v) ∧ Gr w w' := by
  rw [← h]; exact rctn_any a n x w h0 h1
theorem rcovers_any (a n b m : Int) (w : World) (h0 : 0 ≤ a) (h1 : a < 4294967296) (b0 : 0 ≤ b) (b1 : b < 4294967296) :
    Calls Tryd.prog 32 #[.agg #[.int .u32 a, .int .i64 n], .agg #[.int .u32 b, .int .i64 m]] w fun e w' => e = .returned (.bool (cvs a n b m)) ∧ Gr w w' := by
  by_cases hv : vld b m = true
  · have E := Lib.hid (cvs_high a n b m hv)
    have ⟨_, _, hm⟩ := vld_iff.1 hv
    have hrm := valid_room b m b1 hm
    have hsp := sz_pos m
    have Hv := Lib.hid hv; clear hv hm
    cases hb : ctn a n b
    · have Hb := Lib.hid hb; clear hb
      have E2 := Lib.hid (show cvs a n b m = false by rw [← E.out, Hb.out]; rfl)
      clear E
      go_enter Tryd.func32, Tryd.ntmps32
      go_wp2_with (first
        | (go_at_call 26; refine (rbounds_yes b m _ b0 b1 Hv.out).mono ?_; rintro e w1 ⟨rfl, hg1⟩; have hz := Gr.size hg1; simp at hz; have hl0 : w.heap.size < w1.heap.size := (by omega); have hl1 : w.heap.size + 1 < w1.heap.size := (by omega); obtain ⟨hc, hf⟩ := Gr.cells hg1; have hp0 : w1.cell? ⟨w.heap.size, 0, none⟩ = some (.int .u32 a) := (by rw [hc _ _ (by go_size)]; first | (simp; done) | go_cell | (simp [go_sem]; done)); have hp1 : w1.cell? ⟨w.heap.size, 1, none⟩ = some (.int .i64 n) := (by rw [hc _ _ (by go_size)]; first | (simp; done) | go_cell | (simp [go_sem]; done)); clear hc)
        | (go_at_call 30; refine (rctn_is a n b _ _ h0 h1 Hb.out).mono ?_; rintro e w2 ⟨rfl, hg2⟩))
      go_ret
      exact ⟨ret_bool E2.out.symm, (by repeat' (first | (with_reducible exact Gr.refl _) | (with_reducible assumption) | (with_reducible refine Gr.drewN ?_ _) | (with_reducible refine Gr.drew ?_) | (with_reducible refine Gr.alloc ?_ _) | (with_reducible refine Gr.setCell ?_ ?_ _) | (with_reducible refine Gr.grow ?_ _ _) | (refine Gr.step ?_ (by with_reducible assumption)) | go_size))⟩
    · have Hb := Lib.hid hb; clear hb
      have E2 := Lib.hid (show ctn a n (b + (sz m - 1)) = cvs a n b m by rw [← E.out, Hb.out]; rfl)
      clear E
      go_enter Tryd.func32, Tryd.ntmps32
      go_wp2_with (first
        | (go_at_call 26; refine (rbounds_yes b m _ b0 b1 Hv.out).mono ?_; rintro e w1 ⟨rfl, hg1⟩; have hz := Gr.size hg1; simp at hz; have hl0 : w.heap.size < w1.heap.size := (by omega); have hl1 : w.heap.size + 1 < w1.heap.size := (by omega); obtain ⟨hc, hf⟩ := Gr.cells hg1; have hp0 : w1.cell? ⟨w.heap.size, 0, none⟩ = some (.int .u32 a) := (by rw [hc _ _ (by go_size)]; first | (simp; done) | go_cell | (simp [go_sem]; done)); have hp1 : w1.cell? ⟨w.heap.size, 1, none⟩ = some (.int .i64 n) := (by rw [hc _ _ (by go_size)]; first | (simp; done) | go_cell | (simp [go_sem]; done)); clear hc)
        | (go_at_call_of 30 (Value.int .u32 b); refine (rctn_is a n b _ _ h0 h1 Hb.out).mono ?_; rintro e w2 ⟨rfl, hg2⟩; have hz2 := Gr.size hg2; simp at hz2; obtain ⟨hc, hf⟩ := Gr.cells hg2; have hp20 : w2.cell? ⟨w.heap.size, 0, none⟩ = some (.int .u32 a) := (by rw [hc _ _ (by go_size)]; first | (simp; done) | go_cell | (simp [go_sem, *]; done)); have hp21 : w2.cell? ⟨w.heap.size, 1, none⟩ = some (.int .i64 n) := (by rw [hc _ _ (by go_size)]; first | (simp; done) | go_cell | (simp [go_sem, *]; done)); have hr20 : w2.cell? ⟨w1.heap.size, 0, none⟩ = some (.int .u32 b) := (by rw [hc _ _ (by go_size)]; first | (simp; done) | go_cell | (simp [go_sem, *]; done)); have hr21 : w2.cell? ⟨w1.heap.size, 1, none⟩ = some (.int .u32 (b + (sz m - 1))) := (by rw [hc _ _ (by go_size)]; first | (simp; done) | go_cell | (simp [go_sem, *]; done)); clear hc)
        | (go_at_call 30; refine (rctn_is a n _ _ _ h0 h1 E2.out).mono ?_; rintro e w3 ⟨rfl, hg3⟩))
      go_ret
      exact ⟨rfl, (by repeat' (first | (with_reducible exact Gr.refl _) | (with_reducible assumption) | (with_reducible refine Gr.drewN ?_ _) | (with_reducible refine Gr.drew ?_) | (with_reducible refine Gr.alloc ?_ _) | (with_reducible refine Gr.setCell ?_ ?_ _) | (with_reducible refine Gr.grow ?_ _ _) | (refine Gr.step ?_ (by with_reducible assumption)) | go_size))⟩
  · have Hv := Lib.hid (show vld b m = false by simpa using hv)
    have E := Lib.hid (cvs_no (a := a) (n := n) Hv.out)
    clear hv
    go_enter Tryd.func32, Tryd.ntmps32
    go_wp2_with (first
        | (go_at_call 26; refine (rbounds_no b m _ b0 b1 Hv.out).mono ?_; rintro e w1 ⟨rfl, hg1⟩))
    go_ret
    exact ⟨ret_bool E.out.symm, (by repeat' (first | (with_reducible exact Gr.refl _) | (with_reducible assumption) | (with_reducible refine Gr.drewN ?_ _) | (with_reducible refine Gr.drew ?_) | (with_reducible refine Gr.alloc ?_ _) | (with_reducible refine Gr.setCell ?_ ?_ _) | (with_reducible refine Gr.grow ?_ _ _) | (refine Gr.step ?_ (by with_reducible assumption)) | go_size))⟩

theorem compare_any (a n b m : Int) (w : World) :
    Calls Tryd.prog 33 #[.agg #[.int .u32 a, .int .i64 n], .agg #[.int .u32 b, .int .i64 m]] w fun e w' => e = .returned (.int .i64 (cmpp a n b m)) ∧ Gr w w' := by
  by_cases hab : a = b
  · subst hab
    have E := Lib.hid (show cmpp a n a m = ord n m by simp [cmpp])
    have E1 := Lib.hid (ord_eq (rfl : a = a))
    go_enter Tryd.func33, Tryd.ntmps33
    go_wp2_with (first
      | (go_at_call 52; refine (cmpA_any _ _ _).mono ?_; rw [E1.out]; rintro e w' ⟨rfl, rfl⟩)
      | (go_at_call 53; refine (cmpI_any _ _ _).mono ?_; rintro e w' ⟨rfl, rfl⟩))
    go_ret
    exact ⟨ret_int E.out.symm, (by repeat' (first | (with_reducible exact Gr.refl _) | (with_reducible assumption) | (with_reducible refine Gr.drewN ?_ _) | (with_reducible refine Gr.drew ?_) | (with_reducible refine Gr.alloc ?_ _) | (with_reducible refine Gr.setCell ?_ ?_ _) | (with_reducible refine Gr.grow ?_ _ _) | (refine Gr.step ?_ (by with_reducible assumption)) | go_size))⟩
  · have E := Lib.hid (show cmpp a n b m = ord a b by simp [cmpp, hab])
    have t1 : (ord a b != 0) = true := by
      rcases Int.lt_or_gt_of_ne hab with h | h
      · rw [ord_lt h]; rfl
      · rw [ord_gt h]; rfl
    clear hab
    go_enter Tryd.func33, Tryd.ntmps33
    go_wp2_with (first
      | (go_at_call 52; refine (cmpA_any _ _ _).mono ?_; rintro e w' ⟨rfl, rfl⟩)
      | (go_at_call 53; refine (cmpI_any _ _ _).mono ?_; rintro e w' ⟨rfl, rfl⟩))
    go_ret
    exact ⟨ret_int E.out.symm, (by repeat' (first | (with_reducible exact Gr.refl _) | (with_reducible assumption) | (with_reducible refine Gr.drewN ?_ _) | (with_reducible refine Gr.drew ?_) | (with_reducible refine Gr.alloc ?_ _) | (with_reducible refine Gr.setCell ?_ ?_ _) | (with_reducible refine Gr.grow ?_ _ _) | (refine Gr.step ?_ (by with_reducible assumption)) | go_size))⟩
theorem rcompare_any (a n b m : Int) (w : World) (h0 : 0 ≤ a) (h1 : a < 4294967296) (b0 : 0 ≤ b) (b1 : b < 4294967296) :
    Calls Tryd.prog 34 #[.agg #[.int .u32 a, .int .i64 n], .agg #[.int .u32 b, .int .i64 m]] w fun e w' => e = .returned (.int .i64 (cmpp a n b m)) ∧ Gr w w' := by
  by_cases hab : a = b
  · subst hab
    have E := Lib.hid (show cmpp a n a m = ord n m by simp [cmpp])
    go_enter Tryd.func34, Tryd.ntmps34
    go_wp2_with (first
      | (go_at_call 54; refine (order_any _ _ _).mono ?_; rintro e w' ⟨rfl, rfl⟩))
    go_ret
    exact ⟨ret_int E.out.symm, (by repeat' (first | (with_reducible exact Gr.refl _) | (with_reducible assumption) | (with_reducible refine Gr.drewN ?_ _) | (with_reducible refine Gr.drew ?_) | (with_reducible refine Gr.alloc ?_ _) | (with_reducible refine Gr.setCell ?_ ?_ _) | (with_reducible refine Gr.grow ?_ _ _) | (refine Gr.step ?_ (by with_reducible assumption)) | go_size))⟩
  · have E := Lib.hid (show cmpp a n b m = ord a b by simp [cmpp, hab])
    have t1 : (a != b) = true := by simpa using hab
    clear hab
    go_enter Tryd.func34, Tryd.ntmps34
    go_wp2_with (first
      | (go_at_call 54; refine (order_any _ _ _).mono ?_; rintro e w' ⟨rfl, rfl⟩))
    go_ret
    exact ⟨ret_int E.out.symm, (by repeat' (first | (with_reducible exact Gr.refl _) | (with_reducible assumption) | (with_reducible refine Gr.drewN ?_ _) | (with_reducible refine Gr.drew ?_) | (with_reducible refine Gr.alloc ?_ _) | (with_reducible refine Gr.setCell ?_ ?_ _) | (with_reducible refine Gr.grow ?_ _ _) | (refine Gr.step ?_ (by with_reducible assumption)) | go_size))⟩
end Go.Proofs.YtamemancjodefaaDoor
