/- More contracts of chapter 1's numbers. -/
import Derived.Test.YtamemancjodefaaDoorLeaf
import Derived.WalkKit
import Derived.WalkSpells
import Derived.WalkLawsBesides
import Derived.WalkSmall
import Derived.Handy
import Derived.BigQuiet
import Derived.Deep.QuietTactic
import Derived.Deep.RegionHeld3
import Derived.Deep.DeepFit
import Derived.Below
import Derived.Lib.Hide
import Derived.Lib.QuietBelow
import Derived.StillTailTactics
namespace Go.Proofs.YtamemancjodefaaDoor
open Go Go.RowKit Go.Sort
set_option maxRecDepth 100000

theorem rvalid_any (a n : Int) (w : World) (h0 : 0 ≤ a) (h1 : a < 4294967296) :
    Calls Tryd.prog 29 #[.agg #[.int .u32 a, .int .i64 n]] w fun e w' => e = .returned (.bool (vld a n)) ∧ Gr w w' := by
  by_cases hlo : n < 0
  · have hd : decide (0 ≤ n) = false := by simpa using hlo
    have hv := Lib.hid (vld_no (a := a) (Or.inl hlo))
    go_enter Tryd.func29, Tryd.ntmps29
    go_wp2
    go_quiet (fail)
    go_wp2
    go_ret
    exact ⟨ret_bool hv.out.symm, (by repeat' (first | (with_reducible exact Gr.refl _) | (with_reducible assumption) | (with_reducible refine Gr.drewN ?_ _) | (with_reducible refine Gr.drew ?_) | (with_reducible refine Gr.alloc ?_ _) | (with_reducible refine Gr.setCell ?_ ?_ _) | (with_reducible refine Gr.grow ?_ _ _) | (refine Gr.step ?_ (by with_reducible assumption)) | go_size))⟩
  by_cases hhi : 32 < n
  · have hd : decide (0 ≤ n) = true := by simpa using hlo
    have hd2 : decide (n ≤ 32) = false := by simpa using hhi
    have hv := Lib.hid (vld_no (a := a) (Or.inr hhi))
    go_enter Tryd.func29, Tryd.ntmps29
    go_wp2
    go_quiet (fail)
    go_wp2
    go_ret
    exact ⟨ret_bool hv.out.symm, (by repeat' (first | (with_reducible exact Gr.refl _) | (with_reducible assumption) | (with_reducible refine Gr.drewN ?_ _) | (with_reducible refine Gr.drew ?_) | (with_reducible refine Gr.alloc ?_ _) | (with_reducible refine Gr.setCell ?_ ?_ _) | (with_reducible refine Gr.grow ?_ _ _) | (refine Gr.step ?_ (by with_reducible assumption)) | go_size))⟩
  · have g0 : 0 ≤ n := by omega
    have g1 : n ≤ 32 := by omega
    have hd : decide (0 ≤ n) = true := by simpa using hlo
    have hd2 : decide (n ≤ 32) = true := by simpa using hhi
    have hs := sz_pos n
    have hs1 := sz_le n
    have hv : (a % sz n == 0) = vld a n := by
      rw [Bool.eq_iff_iff, vld_iff, beq_iff_eq]; omega
    have Hv := Lib.hid hv; clear hv
    go_enter Tryd.func29, Tryd.ntmps29
    go_wp2
    go_quiet ((go_at_call 51; exact Calls.quiet_of_same ((size_any n _ g0 g1).mono fun e w' ⟨he, hw⟩ => ⟨he, hw.symm⟩)))
    go_wp2
    go_ret
    exact ⟨ret_bool Hv.out, (by repeat' (first | (with_reducible exact Gr.refl _) | (with_reducible assumption) | (with_reducible refine Gr.drewN ?_ _) | (with_reducible refine Gr.drew ?_) | (with_reducible refine Gr.alloc ?_ _) | (with_reducible refine Gr.setCell ?_ ?_ _) | (with_reducible refine Gr.grow ?_ _ _) | (refine Gr.step ?_ (by with_reducible assumption)) | go_size))⟩
theorem rvalid_yes (a n : Int) (w : World) (h0 : 0 ≤ a) (h1 : a < 4294967296) (hv : vld a n = true) :
    Calls Tryd.prog 29 #[.agg #[.int .u32 a, .int .i64 n]] w fun e w' => e = .returned (.bool true) ∧ Gr w w' := by
  rw [← hv]; exact rvalid_any a n w h0 h1
theorem rvalid_no (a n : Int) (w : World) (h0 : 0 ≤ a) (h1 : a < 4294967296) (hv : vld a n = false) :
    Calls Tryd.prog 29 #[.agg #[.int .u32 a, .int .i64 n]] w fun e w' => e = .returned (.bool false) ∧ Gr w w' := by
  rw [← hv]; exact rvalid_any a n w h0 h1

theorem order_any (x y : Int) (w : World) :
    Calls Tryd.prog 54 #[.int .i64 x, .int .i64 y] w fun e w' => e = .returned (.int .i64 (ord x y)) ∧ w = w' := by
  rcases Int.lt_trichotomy x y with h | h | h
  · have E := Lib.hid (ord_lt h)
    go_enter Tryd.func54, Tryd.ntmps54
    go_wp2
    go_ret
    exact ⟨ret_int E.out.symm, rfl⟩
  · have E := Lib.hid (ord_eq h)
    have h1 : ¬ x < y := by omega
    have h2 : ¬ y < x := by omega
    clear h
    go_enter Tryd.func54, Tryd.ntmps54
    go_wp2
    go_ret
    exact ⟨ret_int E.out.symm, rfl⟩
  · have E := Lib.hid (ord_gt h)
    have h1 : ¬ x < y := by omega
    go_enter Tryd.func54, Tryd.ntmps54
    go_wp2
    go_ret
    exact ⟨ret_int E.out.symm, rfl⟩
theorem cmpA_any (x y : Int) (w : World) :
    Calls Tryd.prog 52 #[.int .u32 x, .int .u32 y] w fun e w' => e = .returned (.int .i64 (ord x y)) ∧ w = w' := by
  rcases Int.lt_trichotomy x y with h | h | h
  · have E := Lib.hid (ord_lt h)
    go_enter Tryd.func52, Tryd.ntmps52
    go_wp2
    go_ret
    exact ⟨ret_int E.out.symm, rfl⟩
  · have E := Lib.hid (ord_eq h)
    have h1 : ¬ x < y := by omega
    have h2 : ¬ y < x := by omega
    clear h
    go_enter Tryd.func52, Tryd.ntmps52
    go_wp2
    go_ret
    exact ⟨ret_int E.out.symm, rfl⟩
  · have E := Lib.hid (ord_gt h)
    have h1 : ¬ x < y := by omega
    go_enter Tryd.func52, Tryd.ntmps52
    go_wp2
    go_ret
    exact ⟨ret_int E.out.symm, rfl⟩
theorem cmpI_any (x y : Int) (w : World) :
    Calls Tryd.prog 53 #[.int .i64 x, .int .i64 y] w fun e w' => e = .returned (.int .i64 (ord x y)) ∧ w = w' := by
  rcases Int.lt_trichotomy x y with h | h | h
  · have E := Lib.hid (ord_lt h)
    go_enter Tryd.func53, Tryd.ntmps53
    go_wp2
    go_ret
    exact ⟨ret_int E.out.symm, rfl⟩
  · have E := Lib.hid (ord_eq h)
    have h1 : ¬ x < y := by omega
    have h2 : ¬ y < x := by omega
    clear h
    go_enter Tryd.func53, Tryd.ntmps53
    go_wp2
    go_ret
    exact ⟨ret_int E.out.symm, rfl⟩
  · have E := Lib.hid (ord_gt h)
    have h1 : ¬ x < y := by omega
    go_enter Tryd.func53, Tryd.ntmps53
    go_wp2
    go_ret
    exact ⟨ret_int E.out.symm, rfl⟩

theorem mate_any (a n : Int) (w : World) (h0 : 0 ≤ a) (h1 : a < 4294967296) :
    Calls Tryd.prog 40 #[.int .u32 a, .int .i64 n] w fun e w' => e = .returned (.tuple #[.int .u32 (mtV a n), .int .i64 (mtE a n)]) ∧ w = w' := by
  have A := Lib.hid (and3_u32 a h0 h1)
  have Ev : Hid (∀ v, mtV a n = v → mtV a n = v) := fun _ h => h
  by_cases g1 : n = 31
  · have E1 := Lib.hid (show mtV a n = bits .xor .u32 a 1 by simp [mtV, g1])
    have E2 := Lib.hid (show mtE a n = 0 by simp [mtE, g1])
    have t1 : (n == 31) = true := by simpa using g1
    clear g1
    rw [E1.out, E2.out]
    go_enter Tryd.func40, Tryd.ntmps40
    go_wp2
    go_ret2
    exact ⟨rfl, rfl⟩
  by_cases g2 : n = 30
  · by_cases g3 : a % 4 = 0 ∨ a % 4 = 3
    · have E1 := Lib.hid (show mtV a n = 0 by simp [mtV, g1, g3])
      have E2 := Lib.hid (show mtE a n = 10 by simp [mtE, g2, g3])
      have t1 : (n == 31) = false := by simpa using g1
      have t2 : (n == 30) = true := by simpa using g2
      rw [E1.out, E2.out]
      clear g1 g2
      rcases g3 with g3 | g3
      · have t3 : (bits .and .u32 a 3 == 0) = true := by rw [A.out, g3]; rfl
        have t4 : bits .and .u32 a 3 = 0 := by rw [A.out, g3]
        clear g3
        go_enter Tryd.func40, Tryd.ntmps40
        go_wp2
        go_ret2
        exact ⟨rfl, rfl⟩
      · have t4 : bits .and .u32 a 3 = 3 := by rw [A.out, g3]
        clear g3
        go_enter Tryd.func40, Tryd.ntmps40
        go_wp2
        go_ret2
        exact ⟨rfl, rfl⟩
    · have E1 := Lib.hid (show mtV a n = bits .xor .u32 a 3 by simp [mtV, g2, g3])
      have E2 := Lib.hid (show mtE a n = 0 by simp [mtE, g2, g3])
      have t1 : (n == 31) = false := by simpa using g1
      have t2 : (n == 30) = true := by simpa using g2
      have t3 : (bits .and .u32 a 3 == 0) = false := by rw [A.out]; simp only [beq_eq_false_iff_ne, ne_eq]; omega
      have t4 : (bits .and .u32 a 3 == 3) = false := by rw [A.out]; simp only [beq_eq_false_iff_ne, ne_eq]; omega
      rw [E1.out, E2.out]
      clear g1 g2 g3
      go_enter Tryd.func40, Tryd.ntmps40
      go_wp2
      go_ret2
      exact ⟨rfl, rfl⟩
  · have E1 := Lib.hid (show mtV a n = 0 by simp [mtV, g1, g2])
    have E2 := Lib.hid (show mtE a n = 1 by simp [mtE, g1, g2])
    have t1 : (n == 31) = false := by simpa using g1
    have t2 : (n == 30) = false := by simpa using g2
    rw [E1.out, E2.out]
    clear g1 g2
    go_enter Tryd.func40, Tryd.ntmps40
    go_wp2
    go_ret2
    exact ⟨rfl, rfl⟩

theorem rmate_any (a n : Int) (w : World) (h0 : 0 ≤ a) (h1 : a < 4294967296) :
    Calls Tryd.prog 41 #[.int .u32 a, .int .i64 n] w fun e w' => e = .returned (.tuple #[.int .u32 (mtV a n), .int .i64 (mtE a n)]) ∧ w = w' := by
  by_cases g1 : n = 31
  · have E1 := Lib.hid (show mtV a n = bits .xor .u32 a 1 by simp [mtV, g1])
    have E2 := Lib.hid (show mtE a n = 0 by simp [mtE, g1])
    have t1 : (n == 31) = true := by simpa using g1
    clear g1
    rw [E1.out, E2.out]
    go_enter Tryd.func41, Tryd.ntmps41
    go_wp2
    go_ret2
    exact ⟨rfl, rfl⟩
  by_cases g2 : n = 30
  · by_cases g3 : a % 4 = 0 ∨ a % 4 = 3
    · have E1 := Lib.hid (show mtV a n = 0 by simp [mtV, g1, g3])
      have E2 := Lib.hid (show mtE a n = 10 by simp [mtE, g2, g3])
      have t1 : (n == 31) = false := by simpa using g1
      have t2 : (n != 30) = false := by simpa using g2
      rw [E1.out, E2.out]
      clear g1 g2
      rcases g3 with g3 | g3
      · have t3 : (a % 4 == 0) = true := by rw [g3]; rfl
        have t4 : a % 4 = 0 := g3
        go_enter Tryd.func41, Tryd.ntmps41
        go_wp2
        go_ret2
        exact ⟨rfl, rfl⟩
      · have t4 : a % 4 = 3 := g3
        go_enter Tryd.func41, Tryd.ntmps41
        go_wp2
        go_ret2
        exact ⟨rfl, rfl⟩
    · have E1 := Lib.hid (show mtV a n = bits .xor .u32 a 3 by simp [mtV, g2, g3])
      have E2 := Lib.hid (show mtE a n = 0 by simp [mtE, g2, g3])
      have t1 : (n == 31) = false := by simpa using g1
      have t2 : (n != 30) = false := by simpa using g2
      have t3 : (a % 4 == 0) = false := by simp only [beq_eq_false_iff_ne, ne_eq]; omega
      have t4 : (a % 4 == 3) = false := by simp only [beq_eq_false_iff_ne, ne_eq]; omega
      rw [E1.out, E2.out]
      clear g1 g2 g3
      go_enter Tryd.func41, Tryd.ntmps41
      go_wp2
      go_ret2
      exact ⟨rfl, rfl⟩
  · have E1 := Lib.hid (show mtV a n = 0 by simp [mtV, g1, g2])
    have E2 := Lib.hid (show mtE a n = 1 by simp [mtE, g1, g2])
    have t1 : (n == 31) = false := by simpa using g1
    have t2 : (n != 30) = true := by simpa using g2
    rw [E1.out, E2.out]
    clear g1 g2
    go_enter Tryd.func41, Tryd.ntmps41
    go_wp2
    go_ret2
    exact ⟨rfl, rfl⟩

theorem bounds_no (a n : Int) (w : World) (h0 : 0 ≤ a) (h1 : a < 4294967296) (hv : vld a n = false) :
    Calls Tryd.prog 25 #[.agg #[.int .u32 a, .int .i64 n]] w fun e w' => e = .returned (.tuple #[.agg #[.int .u32 0, .int .u32 0], .int .i64 10]) ∧ Gr w w' := by
  have Hv := Lib.hid hv; clear hv
  go_enter Tryd.func25, Tryd.ntmps25
  go_wp2_with (go_at_call 22; refine (valid_no a n _ h0 h1 Hv.out).mono ?_; rintro e w1 ⟨rfl, hg1⟩; have hz := Gr.size hg1; simp at hz; obtain ⟨hc, hf⟩ := Gr.cells hg1; have hr0 : w1.cell? ⟨w.heap.size + 1, 0, none⟩ = some (.int .u32 0) := (by rw [hc _ _ (by go_size)]; first | (simp; done) | go_cell | (simp [go_sem]; done)); have hr1 : w1.cell? ⟨w.heap.size + 1, 1, none⟩ = some (.int .u32 0) := (by rw [hc _ _ (by go_size)]; first | (simp; done) | go_cell | (simp [go_sem]; done)))
  refine bodyPost_ret (v := .tuple #[.agg #[.int .u32 0, .int .u32 0], .int .i64 10]) (by simp [results, Tryd.results25, go_sem, hr0, hr1]) rfl ⟨?_, ?_⟩
  · rfl
  · exact (by repeat' (first | (with_reducible exact Gr.refl _) | (with_reducible assumption) | (with_reducible refine Gr.drewN ?_ _) | (with_reducible refine Gr.drew ?_) | (with_reducible refine Gr.alloc ?_ _) | (with_reducible refine Gr.setCell ?_ ?_ _) | (with_reducible refine Gr.grow ?_ _ _) | (refine Gr.step ?_ (by with_reducible assumption)) | go_size))
theorem bounds_yes (a n : Int) (w : World) (h0 : 0 ≤ a) (h1 : a < 4294967296) (hv : vld a n = true) :
    Calls Tryd.prog 25 #[.agg #[.int .u32 a, .int .i64 n]] w fun e w' => e = .returned (.tuple #[.agg #[.int .u32 a, .int .u32 (a + (sz n - 1))], .int .i64 0]) ∧ Gr w w' := by
  have ⟨g0, g1, hm⟩ := vld_iff.1 hv
  have E := Lib.hid (or_after a n h0 h1 hm)
  have Hv := Lib.hid hv; clear hv hm
  go_enter Tryd.func25, Tryd.ntmps25
  go_wp2_with (go_at_call 22; refine (valid_yes a n _ h0 h1 Hv.out).mono ?_; rintro e w1 ⟨rfl, hg1⟩; have hz := Gr.size hg1; simp at hz; obtain ⟨hc, hf⟩ := Gr.cells hg1)
  have hcb0 : w1.cell? ⟨w.heap.size, 0, none⟩ = some (.int .u32 a) := (by rw [hc _ _ (by go_size)]; first | (simp; done) | go_cell | (simp [go_sem]; done))
  have hcb1 : w1.cell? ⟨w.heap.size, 1, none⟩ = some (.int .i64 n) := (by rw [hc _ _ (by go_size)]; first | (simp; done) | go_cell | (simp [go_sem]; done))
  have hr0 : w1.cell? ⟨w.heap.size + 1, 0, none⟩ = some (.int .u32 0) := (by rw [hc _ _ (by go_size)]; first | (simp; done) | go_cell | (simp [go_sem]; done))
  have hr1 : w1.cell? ⟨w.heap.size + 1, 1, none⟩ = some (.int .u32 0) := (by rw [hc _ _ (by go_size)]; first | (simp; done) | go_cell | (simp [go_sem]; done))
  go_region_held3 (fun w' => w'.cell? ⟨w.heap.size, 0, none⟩ = some (.int .u32 a) ∧ w'.cell? ⟨w.heap.size, 1, none⟩ = some (.int .i64 n))
      (first | go_keep)
      (first | (go_at_call 50; refine (after_any n _ g0 g1).mono ?_; rintro e w' ⟨rfl, rfl⟩))
  go_wp2
  refine bodyPost_ret (v := .tuple #[.agg #[.int .u32 a, .int .u32 (bits .or .u32 a (sz n - 1))], .int .i64 0]) (by simp [results, Tryd.results25, go_sem, hr0, hr1]) rfl ⟨?_, ?_⟩
  · rw [E.out]
  · exact (by repeat' (first | (with_reducible exact Gr.refl _) | (with_reducible assumption) | (with_reducible refine Gr.drewN ?_ _) | (with_reducible refine Gr.drew ?_) | (with_reducible refine Gr.alloc ?_ _) | (with_reducible refine Gr.setCell ?_ ?_ _) | (with_reducible refine Gr.grow ?_ _ _) | (refine Gr.step ?_ (by with_reducible assumption)) | go_size))
theorem rbounds_no (a n : Int) (w : World) (h0 : 0 ≤ a) (h1 : a < 4294967296) (hv : vld a n = false) :
    Calls Tryd.prog 26 #[.agg #[.int .u32 a, .int .i64 n]] w fun e w' => e = .returned (.tuple #[.agg #[.int .u32 0, .int .u32 0], .int .i64 10]) ∧ Gr w w' := by
  have Hv := Lib.hid hv; clear hv
  go_enter Tryd.func26, Tryd.ntmps26
  go_wp2_with (go_at_call 29; refine (rvalid_no a n _ h0 h1 Hv.out).mono ?_; rintro e w1 ⟨rfl, hg1⟩; have hz := Gr.size hg1; simp at hz; obtain ⟨hc, hf⟩ := Gr.cells hg1; have hr0 : w1.cell? ⟨w.heap.size + 1, 0, none⟩ = some (.int .u32 0) := (by rw [hc _ _ (by go_size)]; first | (simp; done) | go_cell | (simp [go_sem]; done)); have hr1 : w1.cell? ⟨w.heap.size + 1, 1, none⟩ = some (.int .u32 0) := (by rw [hc _ _ (by go_size)]; first | (simp; done) | go_cell | (simp [go_sem]; done)))
  refine bodyPost_ret (v := .tuple #[.agg #[.int .u32 0, .int .u32 0], .int .i64 10]) (by simp [results, Tryd.results26, go_sem, hr0, hr1]) rfl ⟨?_, ?_⟩
  · rfl
  · exact (by repeat' (first | (with_reducible exact Gr.refl _) | (with_reducible assumption) | (with_reducible refine Gr.drewN ?_ _) | (with_reducible refine Gr.drew ?_) | (with_reducible refine Gr.alloc ?_ _) | (with_reducible refine Gr.setCell ?_ ?_ _) | (with_reducible refine Gr.grow ?_ _ _) | (refine Gr.step ?_ (by with_reducible assumption)) | go_size))
theorem rbounds_yes (a n : Int) (w : World) (h0 : 0 ≤ a) (h1 : a < 4294967296) (hv : vld a n = true) :
    Calls Tryd.prog 26 #[.agg #[.int .u32 a, .int .i64 n]] w fun e w' => e = .returned (.tuple #[.agg #[.int .u32 a, .int .u32 (a + (sz n - 1))], .int .i64 0]) ∧ Gr w w' := by
  have ⟨g0, g1, hm⟩ := vld_iff.1 hv
  have hr := valid_room a n h1 hm
  have hs := sz_pos n
  have hs2 := sz_le n
  have E0 : IntKind.u32.wrap (IntKind.i64.wrap (IntKind.i64.wrap (IntKind.i64.wrap a + sz n) - 1)) = a + (sz n - 1) := by go_arith
  have E := Lib.hid E0; clear E0
  have Hv := Lib.hid hv; clear hv hm
  go_enter Tryd.func26, Tryd.ntmps26
  go_wp2_with (go_at_call 29; refine (rvalid_yes a n _ h0 h1 Hv.out).mono ?_; rintro e w1 ⟨rfl, hg1⟩; have hz := Gr.size hg1; simp at hz; obtain ⟨hc, hf⟩ := Gr.cells hg1)
  have hcb0 : w1.cell? ⟨w.heap.size, 0, none⟩ = some (.int .u32 a) := (by rw [hc _ _ (by go_size)]; first | (simp; done) | go_cell | (simp [go_sem]; done))
  have hcb1 : w1.cell? ⟨w.heap.size, 1, none⟩ = some (.int .i64 n) := (by rw [hc _ _ (by go_size)]; first | (simp; done) | go_cell | (simp [go_sem]; done))
  have hr0 : w1.cell? ⟨w.heap.size + 1, 0, none⟩ = some (.int .u32 0) := (by rw [hc _ _ (by go_size)]; first | (simp; done) | go_cell | (simp [go_sem]; done))
  have hr1 : w1.cell? ⟨w.heap.size + 1, 1, none⟩ = some (.int .u32 0) := (by rw [hc _ _ (by go_size)]; first | (simp; done) | go_cell | (simp [go_sem]; done))
  go_region_held3 (fun w' => w'.cell? ⟨w.heap.size, 0, none⟩ = some (.int .u32 a) ∧ w'.cell? ⟨w.heap.size, 1, none⟩ = some (.int .i64 n))
      (first | go_keep)
      (first | (go_at_call 51; refine (size_any n _ g0 g1).mono ?_; rintro e w' ⟨rfl, rfl⟩))
  go_wp2
  refine bodyPost_ret (v := .tuple #[.agg #[.int .u32 a, .int .u32 (IntKind.u32.wrap (IntKind.i64.wrap (IntKind.i64.wrap (IntKind.i64.wrap a + sz n) - 1)))], .int .i64 0]) (by simp [results, Tryd.results26, go_sem, hr0, hr1]) rfl ⟨?_, ?_⟩
  · rw [E.out]
  · exact (by repeat' (first | (with_reducible exact Gr.refl _) | (with_reducible assumption) | (with_reducible refine Gr.drewN ?_ _) | (with_reducible refine Gr.drew ?_) | (with_reducible refine Gr.alloc ?_ _) | (with_reducible refine Gr.setCell ?_ ?_ _) | (with_reducible refine Gr.grow ?_ _ _) | (refine Gr.step ?_ (by with_reducible assumption)) | go_size))

/-- Halves. -/
theorem halves_yes (a n : Int) (w : World) (h0 : 0 ≤ a) (h1 : a < 4294967296) (hv : vld a n = true) (hn : n ≠ 32) :
    Calls Tryd.prog 27 #[.agg #[.int .u32 a, .int .i64 n]] w fun e w' => e = .returned (.tuple #[.agg #[.int .u32 a, .int .i64 (n + 1)], .agg #[.int .u32 (a + sz (n + 1)), .int .i64 (n + 1)], .bool true]) ∧ Gr w w' := by
  have ⟨g0, g1, hm⟩ := vld_iff.1 hv
  have E := Lib.hid (after_diff n g0 (by omega))
  have hh := sz_half n g0 (by omega)
  have hsp := sz_pos (n + 1)
  have hsl := sz_le n
  have E2 : Hid (bits .or .u32 a (sz (n + 1)) = a + sz (n + 1)) := Lib.hid (or_low a (sz (n + 1)) (sz n) h0 h1 (by omega) (by omega) _ rfl hm (by omega))
  have t1 : (n == 32) = false := by simpa using hn
  have Hv := Lib.hid hv; clear hv hm
  have k0 : 0 ≤ n + 1 := by omega
  have k1 : n + 1 ≤ 32 := by omega
  clear hh hsp hsl hn
  go_enter Tryd.func27, Tryd.ntmps27
  go_wp2_with (go_at_call 22; go_loud (refine (valid_yes a n _ h0 h1 Hv.out).mono ?_; rintro e w1 ⟨rfl, hg1⟩; have hz := Gr.size hg1; simp at hz; obtain ⟨hc, hf⟩ := Gr.cells hg1; have hcb0 : w1.cell? ⟨w.heap.size, 0, none⟩ = some (.int .u32 a) := (by rw [hc _ _ (by go_size)]; first | (simp; done) | go_cell | (simp [go_sem]; done)); have hcb1 : w1.cell? ⟨w.heap.size, 1, none⟩ = some (.int .i64 n) := (by rw [hc _ _ (by go_size)]; first | (simp; done) | go_cell | (simp [go_sem]; done)); have hr0 : w1.cell? ⟨w.heap.size + 1, 0, none⟩ = some (.int .u32 0) := (by rw [hc _ _ (by go_size)]; first | (simp; done) | go_cell | (simp [go_sem]; done)); have hr1 : w1.cell? ⟨w.heap.size + 1, 1, none⟩ = some (.int .i64 0) := (by rw [hc _ _ (by go_size)]; first | (simp; done) | go_cell | (simp [go_sem]; done)); have hs0 : w1.cell? ⟨w.heap.size + 1 + 1, 0, none⟩ = some (.int .u32 0) := (by rw [hc _ _ (by go_size)]; first | (simp; done) | go_cell | (simp [go_sem]; done)); have hs1 : w1.cell? ⟨w.heap.size + 1 + 1, 1, none⟩ = some (.int .i64 0) := (by rw [hc _ _ (by go_size)]; first | (simp; done) | go_cell | (simp [go_sem]; done)); clear hc))
  go_quiet ((go_at_call 50; exact Calls.quiet_of_same ((after_any _ _ (by assumption) (by assumption)).mono fun e w' ⟨he, hw⟩ => ⟨he, hw.symm⟩)))
  go_wp2
  refine bodyPost_ret (v := .tuple #[.agg #[.int .u32 a, .int .i64 (n + 1)], .agg #[.int .u32 (bits .or .u32 a (bits .andNot .u32 (sz n - 1) (sz (n + 1) - 1))), .int .i64 (n + 1)], .bool true]) (by simp [results, Tryd.results27, go_sem, hr0, hr1, hs0, hs1]) rfl ⟨?_, ?_⟩
  · rw [E.out, E2.out]
  · exact (by repeat' (first | (with_reducible exact Gr.refl _) | (with_reducible assumption) | (with_reducible refine Gr.drewN ?_ _) | (with_reducible refine Gr.drew ?_) | (with_reducible refine Gr.alloc ?_ _) | (with_reducible refine Gr.setCell ?_ ?_ _) | (with_reducible refine Gr.grow ?_ _ _) | (refine Gr.step ?_ (by with_reducible assumption)) | go_size))
end Go.Proofs.YtamemancjodefaaDoor
