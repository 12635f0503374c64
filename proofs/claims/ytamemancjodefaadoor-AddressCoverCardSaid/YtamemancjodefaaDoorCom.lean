/- Common, and the document's. -/
import Derived.Test.YtamemancjodefaaDoorNumsC
import Derived.WalkKit
import Derived.WalkSpells
import Derived.WalkLawsBesides
import Derived.WalkSmall
import Derived.Handy
import Derived.BigQuiet
import Derived.Deep.QuietTactic
import Derived.Deep.RegionHeld3
import Derived.Deep.DeepFit
import Derived.Below
import Derived.Lib.Hide
import Derived.Lib.QuietBelow
namespace Go.Proofs.YtamemancjodefaaDoor
open Go Go.RowKit Go.Sort
set_option maxRecDepth 100000

theorem lz_any (a b : Int) (w : World) (h0 : 0 ≤ a) (h1 : a < 4294967296) (b0 : 0 ≤ b) (b1 : b < 4294967296) :
    Calls Tryd.prog 55 #[.int .u32 (bits .xor .u32 a b)] w fun e w' => e = .returned (.int .i64 (cmn a b)) ∧ w = w' := by
  have hx : a.toNat ^^^ b.toNat < 2 ^ 32 := Nat.xor_lt_two_pow (by omega) (by omega)
  rw [u32_xor a b h0 h1 b0 b1]
  refine (Tryd.bits_LeadingZeros32 _ w (by omega) (by omega)).mono fun e w' ⟨he, hw⟩ => ⟨?_, hw.symm⟩
  rw [he]; rfl
theorem common_any (a b : Int) (w : World) (h0 : 0 ≤ a) (h1 : a < 4294967296) (b0 : 0 ≤ b) (b1 : b < 4294967296) :
    Calls Tryd.prog 35 #[.int .u32 a, .int .u32 b] w fun e w' => e = .returned (.agg #[.int .u32 (a - a % sz (cmn a b)), .int .i64 (cmn a b)]) ∧ Gr w w' := by
  have ⟨r0, r1⟩ := cmn_range a b h1 b1
  have E := Lib.hid (andNot_after a (cmn a b) h0 h1)
  go_enter Tryd.func35, Tryd.ntmps35
  go_wp2_with (first
    | (go_at_call 55; refine (lz_any a b _ h0 h1 b0 b1).mono ?_; rintro e w' ⟨rfl, rfl⟩)
    | (go_at_call 50; refine (after_any _ _ r0 r1).mono ?_; rintro e w' ⟨rfl, rfl⟩))
  refine bodyPost_ret (v := .agg #[.int .u32 (bits .andNot .u32 a (sz (cmn a b) - 1)), .int .i64 (cmn a b)]) (by simp [results, Tryd.results35, go_sem]) rfl ⟨?_, ?_⟩
  · rw [E.out]
  · exact (by repeat' (first | (with_reducible exact Gr.refl _) | (with_reducible assumption) | (with_reducible refine Gr.drewN ?_ _) | (with_reducible refine Gr.drew ?_) | (with_reducible refine Gr.alloc ?_ _) | (with_reducible refine Gr.setCell ?_ ?_ _) | (with_reducible refine Gr.grow ?_ _ _) | (refine Gr.step ?_ (by with_reducible assumption)) | go_size))

theorem rcommon_any (a b : Int) (w : World) (h0 : 0 ≤ a) (h1 : a < 4294967296) (b0 : 0 ≤ b) (b1 : b < 4294967296) :
    Calls Tryd.prog 36 #[.int .u32 a, .int .u32 b] w fun e w' => e = .returned (.agg #[.int .u32 (a - a % sz (cmn a b)), .int .i64 (cmn a b)]) ∧ Gr w w' := by
  have ⟨r0, r1⟩ := cmn_range a b h1 b1
  go_enter Tryd.func36, Tryd.ntmps36
  go_wp2
  go_loopw [5] (fun v wr => ∃ n : Int, cmn a b ≤ n ∧ n ≤ 32 ∧ v = .int .i64 n ∧ Gr (w.alloc (.cells #[.int .u32 0, .int .i64 0] 25)) wr) (fun v _ => (intOf v).toNat)
  case atStart => exact ⟨32, by omega, by omega, rfl, Gr.refl _⟩
  case round =>
    obtain ⟨n, hn0, hn1, rfl, hgr⟩ := hrel
    have hsz := Gr.size hgr; simp at hsz
    obtain ⟨hcr, hfr⟩ := Gr.cells hgr
    have hr0 : wr.cell? ⟨w.heap.size, 0, none⟩ = some (.int .u32 0) := by rw [hcr _ _ (by go_size)]; simp
    have hr1 : wr.cell? ⟨w.heap.size, 1, none⟩ = some (.int .i64 0) := by rw [hcr _ _ (by go_size)]; simp
    have hl0 : w.heap.size < wr.heap.size := by omega
    have hz0 : wr.frozen? ⟨w.heap.size, 0, none⟩ = false := by rw [hfr _ _ (by go_size)]; simp
    have hz1 : wr.frozen? ⟨w.heap.size, 1, none⟩ = false := by rw [hfr _ _ (by go_size)]; simp
    clear hcr hfr
    have hs := sz_pos n
    by_cases hp : 0 < n
    · have n0 : 0 ≤ n := by omega
      have hs0 : sz n ≠ 0 := by omega
      have hs1 : (sz n == 0) = false := by simpa using hs0
      have hq := quo_sz a n
      have ⟨hm0, hm1⟩ := mod_sz a n h0
      have C := ctn_cmn a b n h0 h1 b0 b1 n0 hn1
      by_cases hc : n = cmn a b
      · have Cy := Lib.hid (show ctn (a - a % sz n) n b = true by rw [C]; simp; omega)
        have E := Lib.hid hc
        clear C hc
        go_wp2_with fail
        go_region_held3 (fun w' => True) (trivial) (first | (go_at_call 51; refine (size_any n _ n0 hn1).mono ?_; rintro e w' ⟨rfl, rfl⟩))
        go_wp2_with (go_at_call 30; refine (rctn_is (a - a % sz n) n b true _ (by omega) (by omega) Cy.out).mono ?_; rintro e w2 ⟨rfl, hg2⟩; have hz2 := Gr.size hg2; simp at hz2; obtain ⟨hc, hf⟩ := Gr.cells hg2; have hp0 : w2.cell? ⟨wr.heap.size, 0, none⟩ = some (.int .u32 (a - a % sz n)) := (by rw [hc _ _ (by go_size)]; first | (simp; done) | go_cell | (simp [go_sem]; done)); have hp1 : w2.cell? ⟨wr.heap.size, 1, none⟩ = some (.int .i64 n) := (by rw [hc _ _ (by go_size)]; first | (simp; done) | go_cell | (simp [go_sem]; done)); have hr20 : w2.cell? ⟨w.heap.size, 0, none⟩ = some (.int .u32 0) := (by rw [hc _ _ (by go_size)]; first | (simp; done) | go_cell | (simp [go_sem, *]; done)); have hr21 : w2.cell? ⟨w.heap.size, 1, none⟩ = some (.int .i64 0) := (by rw [hc _ _ (by go_size)]; first | (simp; done) | go_cell | (simp [go_sem, *]; done)); clear hc)
        all_goals refine bodyPost_ret (v := .agg #[.int .u32 (a - a % sz n), .int .i64 n]) (by simp [results, Tryd.results36, go_sem, hr20, hr21]) rfl ⟨?_, ?_⟩
        all_goals first | (rw [← E.out]; done) | (exact (by repeat' (first | (with_reducible exact Gr.refl _) | (with_reducible assumption) | (with_reducible refine Gr.drewN ?_ _) | (with_reducible refine Gr.drew ?_) | (with_reducible refine Gr.alloc ?_ _) | (with_reducible refine Gr.setCell ?_ ?_ _) | (with_reducible refine Gr.grow ?_ _ _) | (refine Gr.step ?_ (by with_reducible assumption)) | go_size)))
      · have Cy := Lib.hid (show ctn (a - a % sz n) n b = false by rw [C]; simp; omega)
        have hn2 : cmn a b ≤ n - 1 := by omega
        clear C hc
        go_wp2_with fail
        go_region_held3 (fun w' => True) (trivial) (first | (go_at_call 51; refine (size_any n _ n0 hn1).mono ?_; rintro e w' ⟨rfl, rfl⟩))
        go_wp2_with (go_at_call 30; refine (rctn_is (a - a % sz n) n b false _ (by omega) (by omega) Cy.out).mono ?_; rintro e w2 ⟨rfl, hg2⟩)
        all_goals exact ⟨⟨n - 1, hn2, by omega, rfl, (by repeat' (first | (with_reducible exact Gr.refl _) | (with_reducible assumption) | (with_reducible refine Gr.drewN ?_ _) | (with_reducible refine Gr.drew ?_) | (with_reducible refine Gr.alloc ?_ _) | (with_reducible refine Gr.setCell ?_ ?_ _) | (with_reducible refine Gr.grow ?_ _ _) | (refine Gr.step ?_ (by with_reducible assumption)) | go_size))⟩, by simp [intOf]; omega⟩
    · obtain rfl : n = 0 := by omega
      have E0 : cmn a b = 0 := by omega
      have E1 := Lib.hid (cmn_zero a b E0 h0 h1)
      have E := Lib.hid E0
      clear E0 r0 r1 hn0 hs
      go_wp2
      refine bodyPost_ret (v := .agg #[.int .u32 0, .int .i64 0]) (by simp [results, Tryd.results36, go_sem, hr0, hr1]) rfl ⟨?_, ?_⟩
      · rw [E1.out, E.out]
      · exact (by repeat' (first | (with_reducible exact Gr.refl _) | (with_reducible assumption) | (with_reducible refine Gr.drewN ?_ _) | (with_reducible refine Gr.drew ?_) | (with_reducible refine Gr.alloc ?_ _) | (with_reducible refine Gr.setCell ?_ ?_ _) | (with_reducible refine Gr.grow ?_ _ _) | (refine Gr.step ?_ (by with_reducible assumption)) | go_size))
theorem covers_is (a n b m : Int) (v : Bool) (w : World) (h0 : 0 ≤ a) (h1 : a < 4294967296) (b0 : 0 ≤ b) (b1 : b < 4294967296) (h : cvs a n b m = v) :
    Calls Tryd.prog 31 #[.agg #[.int .u32 a, .int .i64 n], .agg #[.int .u32 b, .int .i64 m]] w fun e w' => e = .returned (.bool v) ∧ Gr w w' := by
  rw [← h]; exact covers_any a n b m w h0 h1 b0 b1
theorem ctn_is (a n x : Int) (v : Bool) (w : World) (h0 : 0 ≤ a) (h1 : a < 4294967296) (x0 : 0 ≤ x) (x1 : x < 4294967296) (h : ctn a n x = v) :
    Calls Tryd.prog 23 #[.agg #[.int .u32 a, .int .i64 n], .int .u32 x] w fun e w' => e = .returned (.bool v) ∧ Gr w w' := by
  rw [← h]; exact ctn_any a n x w h0 h1 x0 x1
end Go.Proofs.YtamemancjodefaaDoor
