/- Chapter 1's numbers, third part. -/
import Derived.Test.YtamemancjodefaaDoorNums
import Derived.Test.YtamemancjodefaaDoorShelf
import Derived.WalkKit
import Derived.WalkSpells
import Derived.WalkLawsBesides
import Derived.WalkSmall
import Derived.Handy
import Derived.BigQuiet
import Derived.Deep.QuietTactic
import Derived.Deep.RegionHeld3
import Derived.Deep.DeepFit
import Derived.Below
import Derived.Lib.Hide
import Derived.Lib.QuietBelow
namespace Go.Proofs.YtamemancjodefaaDoor
open Go Go.RowKit Go.Sort
set_option maxRecDepth 100000

theorem cell_far {w : World} {p q : Addr} {x v : Value} (h : q.block ≠ p.block) (hc : w.cell? p = some v) : (w.setCell q x).cell? p = some v := by
  rw [World.cell?_setCell_far _ _ _ _ h]; exact hc
theorem cell_drew {w : World} {p : Addr} {v : Value} (hc : w.cell? p = some v) : w.drew.cell? p = some v := hc

theorem halves_no (a n : Int) (w : World) (h0 : 0 ≤ a) (h1 : a < 4294967296) (hv : vld a n = false) :
    Calls Tryd.prog 27 #[.agg #[.int .u32 a, .int .i64 n]] w fun e w' => e = .returned (.tuple #[.agg #[.int .u32 0, .int .i64 0], .agg #[.int .u32 0, .int .i64 0], .bool false]) ∧ Gr w w' := by
  have Hv := Lib.hid hv; clear hv
  go_enter Tryd.func27, Tryd.ntmps27
  go_wp2_with (go_at_call 22; refine (valid_no a n _ h0 h1 Hv.out).mono ?_; rintro e w1 ⟨rfl, hg1⟩; have hz := Gr.size hg1; simp at hz; obtain ⟨hc, hf⟩ := Gr.cells hg1; have hcb0 : w1.cell? ⟨w.heap.size, 0, none⟩ = some (.int .u32 a) := (by rw [hc _ _ (by go_size)]; first | (simp; done) | go_cell | (simp [go_sem]; done)); have hcb1 : w1.cell? ⟨w.heap.size, 1, none⟩ = some (.int .i64 n) := (by rw [hc _ _ (by go_size)]; first | (simp; done) | go_cell | (simp [go_sem]; done)); have hr0 : w1.cell? ⟨w.heap.size + 1, 0, none⟩ = some (.int .u32 0) := (by rw [hc _ _ (by go_size)]; first | (simp; done) | go_cell | (simp [go_sem]; done)); have hr1 : w1.cell? ⟨w.heap.size + 1, 1, none⟩ = some (.int .i64 0) := (by rw [hc _ _ (by go_size)]; first | (simp; done) | go_cell | (simp [go_sem]; done)); have hs0 : w1.cell? ⟨w.heap.size + 1 + 1, 0, none⟩ = some (.int .u32 0) := (by rw [hc _ _ (by go_size)]; first | (simp; done) | go_cell | (simp [go_sem]; done)); have hs1 : w1.cell? ⟨w.heap.size + 1 + 1, 1, none⟩ = some (.int .i64 0) := (by rw [hc _ _ (by go_size)]; first | (simp; done) | go_cell | (simp [go_sem]; done)); clear hc)
  refine bodyPost_ret (v := .tuple #[.agg #[.int .u32 0, .int .i64 0], .agg #[.int .u32 0, .int .i64 0], .bool false]) (by simp [results, Tryd.results27, go_sem, hr0, hr1, hs0, hs1]) rfl ⟨?_, ?_⟩
  · rfl
  · exact (by repeat' (first | (with_reducible exact Gr.refl _) | (with_reducible assumption) | (with_reducible refine Gr.drewN ?_ _) | (with_reducible refine Gr.drew ?_) | (with_reducible refine Gr.alloc ?_ _) | (with_reducible refine Gr.setCell ?_ ?_ _) | (with_reducible refine Gr.grow ?_ _ _) | (refine Gr.step ?_ (by with_reducible assumption)) | go_size))
theorem halves_32 (a : Int) (w : World) (h0 : 0 ≤ a) (h1 : a < 4294967296) (hv : vld a 32 = true) :
    Calls Tryd.prog 27 #[.agg #[.int .u32 a, .int .i64 32]] w fun e w' => e = .returned (.tuple #[.agg #[.int .u32 0, .int .i64 0], .agg #[.int .u32 0, .int .i64 0], .bool false]) ∧ Gr w w' := by
  have Hv := Lib.hid hv; clear hv
  go_enter Tryd.func27, Tryd.ntmps27
  go_wp2_with (go_at_call 22; refine (valid_yes a 32 _ h0 h1 Hv.out).mono ?_; rintro e w1 ⟨rfl, hg1⟩; have hz := Gr.size hg1; simp at hz; obtain ⟨hc, hf⟩ := Gr.cells hg1; have hcb0 : w1.cell? ⟨w.heap.size, 0, none⟩ = some (.int .u32 a) := (by rw [hc _ _ (by go_size)]; first | (simp; done) | go_cell | (simp [go_sem]; done)); have hcb1 : w1.cell? ⟨w.heap.size, 1, none⟩ = some (.int .i64 32) := (by rw [hc _ _ (by go_size)]; first | (simp; done) | go_cell | (simp [go_sem]; done)); have hr0 : w1.cell? ⟨w.heap.size + 1, 0, none⟩ = some (.int .u32 0) := (by rw [hc _ _ (by go_size)]; first | (simp; done) | go_cell | (simp [go_sem]; done)); have hr1 : w1.cell? ⟨w.heap.size + 1, 1, none⟩ = some (.int .i64 0) := (by rw [hc _ _ (by go_size)]; first | (simp; done) | go_cell | (simp [go_sem]; done)); have hs0 : w1.cell? ⟨w.heap.size + 1 + 1, 0, none⟩ = some (.int .u32 0) := (by rw [hc _ _ (by go_size)]; first | (simp; done) | go_cell | (simp [go_sem]; done)); have hs1 : w1.cell? ⟨w.heap.size + 1 + 1, 1, none⟩ = some (.int .i64 0) := (by rw [hc _ _ (by go_size)]; first | (simp; done) | go_cell | (simp [go_sem]; done)); clear hc)
  refine bodyPost_ret (v := .tuple #[.agg #[.int .u32 0, .int .i64 0], .agg #[.int .u32 0, .int .i64 0], .bool false]) (by simp [results, Tryd.results27, go_sem, hr0, hr1, hs0, hs1]) rfl ⟨?_, ?_⟩
  · rfl
  · exact (by repeat' (first | (with_reducible exact Gr.refl _) | (with_reducible assumption) | (with_reducible refine Gr.drewN ?_ _) | (with_reducible refine Gr.drew ?_) | (with_reducible refine Gr.alloc ?_ _) | (with_reducible refine Gr.setCell ?_ ?_ _) | (with_reducible refine Gr.grow ?_ _ _) | (refine Gr.step ?_ (by with_reducible assumption)) | go_size))
theorem rhalves_no (a n : Int) (w : World) (h0 : 0 ≤ a) (h1 : a < 4294967296) (hv : vld a n = false) :
    Calls Tryd.prog 28 #[.agg #[.int .u32 a, .int .i64 n]] w fun e w' => e = .returned (.tuple #[.agg #[.int .u32 0, .int .i64 0], .agg #[.int .u32 0, .int .i64 0], .bool false]) ∧ Gr w w' := by
  have Hv := Lib.hid hv; clear hv
  go_enter Tryd.func28, Tryd.ntmps28
  go_wp2_with (go_at_call 29; refine (rvalid_no a n _ h0 h1 Hv.out).mono ?_; rintro e w1 ⟨rfl, hg1⟩; have hz := Gr.size hg1; simp at hz; obtain ⟨hc, hf⟩ := Gr.cells hg1; have hcb0 : w1.cell? ⟨w.heap.size, 0, none⟩ = some (.int .u32 a) := (by rw [hc _ _ (by go_size)]; first | (simp; done) | go_cell | (simp [go_sem]; done)); have hcb1 : w1.cell? ⟨w.heap.size, 1, none⟩ = some (.int .i64 n) := (by rw [hc _ _ (by go_size)]; first | (simp; done) | go_cell | (simp [go_sem]; done)); have hr0 : w1.cell? ⟨w.heap.size + 1, 0, none⟩ = some (.int .u32 0) := (by rw [hc _ _ (by go_size)]; first | (simp; done) | go_cell | (simp [go_sem]; done)); have hr1 : w1.cell? ⟨w.heap.size + 1, 1, none⟩ = some (.int .i64 0) := (by rw [hc _ _ (by go_size)]; first | (simp; done) | go_cell | (simp [go_sem]; done)); have hs0 : w1.cell? ⟨w.heap.size + 1 + 1, 0, none⟩ = some (.int .u32 0) := (by rw [hc _ _ (by go_size)]; first | (simp; done) | go_cell | (simp [go_sem]; done)); have hs1 : w1.cell? ⟨w.heap.size + 1 + 1, 1, none⟩ = some (.int .i64 0) := (by rw [hc _ _ (by go_size)]; first | (simp; done) | go_cell | (simp [go_sem]; done)); clear hc)
  refine bodyPost_ret (v := .tuple #[.agg #[.int .u32 0, .int .i64 0], .agg #[.int .u32 0, .int .i64 0], .bool false]) (by simp [results, Tryd.results28, go_sem, hr0, hr1, hs0, hs1]) rfl ⟨?_, ?_⟩
  · rfl
  · exact (by repeat' (first | (with_reducible exact Gr.refl _) | (with_reducible assumption) | (with_reducible refine Gr.drewN ?_ _) | (with_reducible refine Gr.drew ?_) | (with_reducible refine Gr.alloc ?_ _) | (with_reducible refine Gr.setCell ?_ ?_ _) | (with_reducible refine Gr.grow ?_ _ _) | (refine Gr.step ?_ (by with_reducible assumption)) | go_size))
theorem rhalves_32 (a : Int) (w : World) (h0 : 0 ≤ a) (h1 : a < 4294967296) (hv : vld a 32 = true) :
    Calls Tryd.prog 28 #[.agg #[.int .u32 a, .int .i64 32]] w fun e w' => e = .returned (.tuple #[.agg #[.int .u32 0, .int .i64 0], .agg #[.int .u32 0, .int .i64 0], .bool false]) ∧ Gr w w' := by
  have Hv := Lib.hid hv; clear hv
  go_enter Tryd.func28, Tryd.ntmps28
  go_wp2_with (go_at_call 29; refine (rvalid_yes a 32 _ h0 h1 Hv.out).mono ?_; rintro e w1 ⟨rfl, hg1⟩; have hz := Gr.size hg1; simp at hz; obtain ⟨hc, hf⟩ := Gr.cells hg1; have hcb0 : w1.cell? ⟨w.heap.size, 0, none⟩ = some (.int .u32 a) := (by rw [hc _ _ (by go_size)]; first | (simp; done) | go_cell | (simp [go_sem]; done)); have hcb1 : w1.cell? ⟨w.heap.size, 1, none⟩ = some (.int .i64 32) := (by rw [hc _ _ (by go_size)]; first | (simp; done) | go_cell | (simp [go_sem]; done)); have hr0 : w1.cell? ⟨w.heap.size + 1, 0, none⟩ = some (.int .u32 0) := (by rw [hc _ _ (by go_size)]; first | (simp; done) | go_cell | (simp [go_sem]; done)); have hr1 : w1.cell? ⟨w.heap.size + 1, 1, none⟩ = some (.int .i64 0) := (by rw [hc _ _ (by go_size)]; first | (simp; done) | go_cell | (simp [go_sem]; done)); have hs0 : w1.cell? ⟨w.heap.size + 1 + 1, 0, none⟩ = some (.int .u32 0) := (by rw [hc _ _ (by go_size)]; first | (simp; done) | go_cell | (simp [go_sem]; done)); have hs1 : w1.cell? ⟨w.heap.size + 1 + 1, 1, none⟩ = some (.int .i64 0) := (by rw [hc _ _ (by go_size)]; first | (simp; done) | go_cell | (simp [go_sem]; done)); clear hc)
  refine bodyPost_ret (v := .tuple #[.agg #[.int .u32 0, .int .i64 0], .agg #[.int .u32 0, .int .i64 0], .bool false]) (by simp [results, Tryd.results28, go_sem, hr0, hr1, hs0, hs1]) rfl ⟨?_, ?_⟩
  · rfl
  · exact (by repeat' (first | (with_reducible exact Gr.refl _) | (with_reducible assumption) | (with_reducible refine Gr.drewN ?_ _) | (with_reducible refine Gr.drew ?_) | (with_reducible refine Gr.alloc ?_ _) | (with_reducible refine Gr.setCell ?_ ?_ _) | (with_reducible refine Gr.grow ?_ _ _) | (refine Gr.step ?_ (by with_reducible assumption)) | go_size))
theorem rhalves_yes (a n : Int) (w : World) (h0 : 0 ≤ a) (h1 : a < 4294967296) (hv : vld a n = true) (hn : n ≠ 32) :
    Calls Tryd.prog 28 #[.agg #[.int .u32 a, .int .i64 n]] w fun e w' => e = .returned (.tuple #[.agg #[.int .u32 a, .int .i64 (n + 1)], .agg #[.int .u32 (a + sz (n + 1)), .int .i64 (n + 1)], .bool true]) ∧ Gr w w' := by
  have ⟨g0, g1, hm⟩ := vld_iff.1 hv
  have hh := sz_half n g0 (by omega)
  have hsp := sz_pos (n + 1)
  have hsl := sz_le n
  have hrm := valid_room a n h1 hm
  have E0 : IntKind.u32.wrap (a + IntKind.u32.wrap (sz (n + 1))) = a + sz (n + 1) := by go_arith
  have E := Lib.hid E0; clear E0
  have t1 : (n == 32) = false := by simpa using hn
  have Hv := Lib.hid hv; clear hv hm
  have k0 : 0 ≤ n + 1 := by omega
  have k1 : n + 1 ≤ 32 := by omega
  clear hh hsl hn hrm
  go_enter Tryd.func28, Tryd.ntmps28
  go_wp2_with (go_at_call 29; refine (rvalid_yes a n _ h0 h1 Hv.out).mono ?_; rintro e w1 ⟨rfl, hg1⟩; have hz := Gr.size hg1; simp at hz; obtain ⟨hc, hf⟩ := Gr.cells hg1; have hcb0 : w1.cell? ⟨w.heap.size, 0, none⟩ = some (.int .u32 a) := (by rw [hc _ _ (by go_size)]; first | (simp; done) | go_cell | (simp [go_sem]; done)); have hcb1 : w1.cell? ⟨w.heap.size, 1, none⟩ = some (.int .i64 n) := (by rw [hc _ _ (by go_size)]; first | (simp; done) | go_cell | (simp [go_sem]; done)); have hr0 : w1.cell? ⟨w.heap.size + 1, 0, none⟩ = some (.int .u32 0) := (by rw [hc _ _ (by go_size)]; first | (simp; done) | go_cell | (simp [go_sem]; done)); have hr1 : w1.cell? ⟨w.heap.size + 1, 1, none⟩ = some (.int .i64 0) := (by rw [hc _ _ (by go_size)]; first | (simp; done) | go_cell | (simp [go_sem]; done)); have hs0 : w1.cell? ⟨w.heap.size + 1 + 1, 0, none⟩ = some (.int .u32 0) := (by rw [hc _ _ (by go_size)]; first | (simp; done) | go_cell | (simp [go_sem]; done)); have hs1 : w1.cell? ⟨w.heap.size + 1 + 1, 1, none⟩ = some (.int .i64 0) := (by rw [hc _ _ (by go_size)]; first | (simp; done) | go_cell | (simp [go_sem]; done)); clear hc)
  have K : ∀ (o : Nat) (v : Value), w1.cell? ⟨w.heap.size, o, none⟩ = some v → ∀ v1 v2 v3 v4, ((((w1.setCell ⟨w.heap.size + 1, 0, none⟩ v1).setCell ⟨w.heap.size + 1, 1, none⟩ v2).setCell ⟨w.heap.size + 1 + 1, 0, none⟩ v3).setCell ⟨w.heap.size + 1 + 1, 1, none⟩ v4).drew.cell? ⟨w.heap.size, o, none⟩ = some v := by
    intro o v h v1 v2 v3 v4
    have n1 : w.heap.size + 1 ≠ w.heap.size := by omega
    have n2 : w.heap.size + 1 + 1 ≠ w.heap.size := by omega
    exact cell_drew (cell_far n2 (cell_far n2 (cell_far n1 (cell_far n1 h))))
  have K0 := K 0 _ hcb0
  have K1 := K 1 _ hcb1
  clear K
  go_region_held3 (fun w' => w'.cell? ⟨w.heap.size, 0, none⟩ = some (.int .u32 a) ∧ w'.cell? ⟨w.heap.size, 1, none⟩ = some (.int .i64 n))
      (first | go_keep | (exact ⟨K0 _ _ _ _, K1 _ _ _ _⟩))
      (first | (go_at_call 51; refine (size_any _ _ k0 k1).mono ?_; rintro e w' ⟨rfl, rfl⟩))
  go_wp2
  refine bodyPost_ret (v := .tuple #[.agg #[.int .u32 a, .int .i64 (n + 1)], .agg #[.int .u32 (IntKind.u32.wrap (a + IntKind.u32.wrap (sz (n + 1)))), .int .i64 (n + 1)], .bool true]) (by simp [results, Tryd.results28, go_sem, hr0, hr1, hs0, hs1]) rfl ⟨?_, ?_⟩
  · rw [E.out]
  · exact (by repeat' (first | (with_reducible exact Gr.refl _) | (with_reducible assumption) | (with_reducible refine Gr.drewN ?_ _) | (with_reducible refine Gr.drew ?_) | (with_reducible refine Gr.alloc ?_ _) | (with_reducible refine Gr.setCell ?_ ?_ _) | (with_reducible refine Gr.grow ?_ _ _) | (refine Gr.step ?_ (by with_reducible assumption)) | go_size))

/-- the document's Contains -/
theorem rctn_any (a n x : Int) (w : World) (h0 : 0 ≤ a) (h1 : a < 4294967296) :
    Calls Tryd.prog 30 #[.agg #[.int .u32 a, .int .i64 n], .int .u32 x] w fun e w' => e = .returned (.bool (ctn a n x)) ∧ Gr w w' := by
  by_cases hv : vld a n = true
  · have E : (decide (a ≤ x) && decide (x ≤ a + (sz n - 1))) = ctn a n x := by
      rw [Bool.eq_iff_iff, ctn_iff]; simp only [Bool.and_eq_true, decide_eq_true_eq, hv, true_and]; omega
    have Hv := Lib.hid hv; clear hv
    by_cases t1 : a ≤ x
    · have d1 : decide (a ≤ x) = true := by simpa using t1
      have E2 := Lib.hid E; clear E
      go_enter Tryd.func30, Tryd.ntmps30
      go_wp2_with (go_at_call 26; refine (rbounds_yes a n _ h0 h1 Hv.out).mono ?_; rintro e w1 ⟨rfl, hg1⟩; have hz := Gr.size hg1; simp at hz; obtain ⟨hc, hf⟩ := Gr.cells hg1)
      go_ret
      exact ⟨ret_bool (by rw [← E2.out, d1]; simp), (by repeat' (first | (with_reducible exact Gr.refl _) | (with_reducible assumption) | (with_reducible refine Gr.drewN ?_ _) | (with_reducible refine Gr.drew ?_) | (with_reducible refine Gr.alloc ?_ _) | (with_reducible refine Gr.setCell ?_ ?_ _) | (with_reducible refine Gr.grow ?_ _ _) | (refine Gr.step ?_ (by with_reducible assumption)) | go_size))⟩
    · have d1 : decide (a ≤ x) = false := by simpa using t1
      have E2 := Lib.hid E; clear E
      go_enter Tryd.func30, Tryd.ntmps30
      go_wp2_with (go_at_call 26; refine (rbounds_yes a n _ h0 h1 Hv.out).mono ?_; rintro e w1 ⟨rfl, hg1⟩; have hz := Gr.size hg1; simp at hz; obtain ⟨hc, hf⟩ := Gr.cells hg1)
      go_ret
      exact ⟨ret_bool (by rw [← E2.out, d1]; simp), (by repeat' (first | (with_reducible exact Gr.refl _) | (with_reducible assumption) | (with_reducible refine Gr.drewN ?_ _) | (with_reducible refine Gr.drew ?_) | (with_reducible refine Gr.alloc ?_ _) | (with_reducible refine Gr.setCell ?_ ?_ _) | (with_reducible refine Gr.grow ?_ _ _) | (refine Gr.step ?_ (by with_reducible assumption)) | go_size))⟩
  · have Hv := Lib.hid (show vld a n = false by simpa using hv)
    have E := Lib.hid (ctn_no (x := x) Hv.out)
    clear hv
    go_enter Tryd.func30, Tryd.ntmps30
    go_wp2_with (go_at_call 26; refine (rbounds_no a n _ h0 h1 Hv.out).mono ?_; rintro e w1 ⟨rfl, hg1⟩; have hz := Gr.size hg1; simp at hz; obtain ⟨hc, hf⟩ := Gr.cells hg1)
    go_ret
    exact ⟨ret_bool E.out.symm, (by repeat' (first | (with_reducible exact Gr.refl _) | (with_reducible assumption) | (with_reducible refine Gr.drewN ?_ _) | (with_reducible refine Gr.drew ?_) | (with_reducible refine Gr.alloc ?_ _) | (with_reducible refine Gr.setCell ?_ ?_ _) | (with_reducible refine Gr.grow ?_ _ _) | (refine Gr.step ?_ (by with_reducible assumption)) | go_size))⟩
end Go.Proofs.YtamemancjodefaaDoor
