/- The walk of the statement that addresses and prefixes come back from their texts. -/
import Derived.Test.YtamemancjodefaaDoorAwake
import Derived.Test.YtamemancjodefaaDoorBackMath
import Derived.Test.YtamemancjodefaaDoorCodesB
import Derived.Test.YtamemancjodefaaDoorCom
import Derived.WalkKit
import Derived.WalkSpells
import Derived.WalkLawsBesides
import Derived.WalkSmall
import Derived.Handy
import Derived.BigQuiet
import Derived.Deep.QuietTactic
import Derived.Deep.RegionHeld3
import Derived.Deep.DeepFit
import Derived.Below
import Derived.Lib.Hide
import Derived.Lib.QuietBelow
namespace Go.Proofs.YtamemancjodefaaDoor
open Go Go.RowKit Go.Sort
set_option maxRecDepth 100000
set_option maxHeartbeats 1000000 in
theorem back_walk (a k : Int) (w : World) (ht : Tab w) (a0 : 0 ≤ a) (a1 : a < 4294967296) :
    Calls Tryd.prog 4 #[.int .u32 a, .int .i64 k] w fun e w' => e = .returned (.bool true) ∧ Gr w w' := by
  have n0 : 0 ≤ k % 33 := Int.emod_nonneg _ (by omega)
  have n1 : k % 33 ≤ 32 := by have := Int.emod_lt_of_pos k (show 0 < 33 by omega); omega
  have Ht := Lib.hid ht
  clear ht
  go_enter Tryd.func4, Tryd.ntmps4
  go_wp2_with (first
    | (go_at_call 9; refine (awake_any _ Ht.out).mono ?_; rintro e w1 ⟨rfl, hg1⟩)
    | (go_at_call 21; refine (mod_any k 33 _ (by omega) (by omega)).mono ?_; rintro e w' ⟨rfl, rfl⟩))
  generalize k % 33 = n at *
  have i1 : IntKind.i64.wrap (32 - n) = 32 - n := by go_arith
  have i2 : 0 ≤ 32 - n := by omega
  have i3 : 32 - n ≤ 64 := by omega
  have i4 : ¬ 32 - n < 0 := by omega
  have ⟨m0, m1⟩ := mod_sz a n a0
  have E0 : IntKind.u32.wrap (IntKind.u64.wrap (IntKind.u64.wrap a / 2 ^ (32 - n).toNat * 2 ^ (32 - n).toNat)) = a - a % sz n := by
    have e1 : IntKind.u64.wrap a = a := by go_arith
    rw [e1, shl_shr a n n0 n1]
    go_arith
  have p0 : 0 ≤ a - a % sz n := by omega
  have p1 : a - a % sz n < 4294967296 := by omega
  have hv := vld_cut a n n0 n1
  have hc := ctn_cmn a a n a0 a1 a0 a1 n0 n1
  have hcc : n ≤ cmn a a := by rw [cmn_le a a n a0 a1 a0 a1 n0 n1]
  rw [decide_eq_true hcc] at hc
  go_region_held3 (fun w' => w'.cell? ⟨w1.heap.size, 1, none⟩ = some (.int .i64 n)) (first | go_keep) (fail)
  clear E0 i1 i2 i3 i4 m0 m1 hcc
  have ⟨b1, b2⟩ := back_addr a a0 a1
  have lA := fmtA_len a a0 a1
  have ⟨c1, c2, c3⟩ := back_pfx (a - a % sz n) n p0 p1 hv
  have lP : (fmtP (a - a % sz n) n).length ≤ 100 := by
    have := fmtA_len (a - a % sz n) p0 p1
    have := dd_len n n0 (by omega)
    simp [fmtP, hv]; omega
  generalize a - a % sz n = pa at *
  generalize hdA : fmtA a = dA at *
  generalize hdP : fmtP pa n = dP at *
  have HA := Lib.hid hdA
  have HP := Lib.hid hdP
  have HB := Lib.hid (And.intro b1 b2)
  have HC := Lib.hid (And.intro c1 (And.intro c2 c3))
  have Hv := Lib.hid hv
  have Hc := Lib.hid hc
  have sA : (str dA).size ≤ 9223372036854775807 := by rw [str_size]; omega
  have sP : (str dP).size ≤ 9223372036854775807 := by rw [str_size]; omega
  clear hdA hdP b1 b2 c1 c2 c3 hv hc lA lP
  have hG1 : Gr w (w1.alloc (.cells #[.int .u32 pa, .int .i64 n] 25)).drew := (by repeat' (first | (with_reducible exact Gr.refl _) | (with_reducible assumption) | (with_reducible refine Gr.drewN ?_ _) | (with_reducible refine Gr.drew ?_) | (with_reducible refine Gr.alloc ?_ _) | (with_reducible refine Gr.setCell ?_ ?_ _) | (with_reducible refine Gr.grow ?_ _ _) | (refine Gr.step ?_ (by with_reducible assumption)) | go_size))
  obtain ⟨wz, hz⟩ : ∃ wz, wz = (w1.alloc (.cells #[.int .u32 pa, .int .i64 n] 25)).drew := ⟨_, rfl⟩
  rw [← hz] at hG1 ⊢
  have q0 : wz.cell? ⟨w1.heap.size, 0, none⟩ = some (.int .u32 pa) := by rw [hz]; simp
  have q1 : wz.cell? ⟨w1.heap.size, 1, none⟩ = some (.int .i64 n) := by rw [hz]; simp
  generalize hb5 : w1.heap.size = B5 at *
  clear hz hg1 hb5
  have s0 : B5 < wz.heap.size := World.block_lt_of_cell? _ _ q0
  go_wp2_with fail
  refine (format_is a dA _ a0 a1 HA.out (Ht.out.gr hG1)).mono ?_
  rintro e w2 ⟨rfl, hg2⟩
  have hG2 : Gr w w2 := (by repeat' (first | (with_reducible exact Gr.refl _) | (with_reducible assumption) | (with_reducible refine Gr.drewN ?_ _) | (with_reducible refine Gr.drew ?_) | (with_reducible refine Gr.alloc ?_ _) | (with_reducible refine Gr.setCell ?_ ?_ _) | (with_reducible refine Gr.grow ?_ _ _) | (refine Gr.step ?_ (by with_reducible assumption)) | go_size))
  have r0 : w2.cell? ⟨B5, 0, none⟩ = some (.int .u32 pa) := by rw [(Gr.cells hg2).1 _ _ s0]; exact q0
  have r1 : w2.cell? ⟨B5, 1, none⟩ = some (.int .i64 n) := by rw [(Gr.cells hg2).1 _ _ s0]; exact q1
  have s2 : B5 < w2.heap.size := World.block_lt_of_cell? _ _ r0
  clear hg2 hG1 q0 q1 s0
  go_wp2_with fail
  refine (parse_any (str dA) _ sA).mono ?_
  rw [str_data, HB.out.1, HB.out.2]
  rintro e w3 ⟨rfl, hg3⟩
  have hG3 : Gr w w3 := (by repeat' (first | (with_reducible exact Gr.refl _) | (with_reducible assumption) | (with_reducible refine Gr.drewN ?_ _) | (with_reducible refine Gr.drew ?_) | (with_reducible refine Gr.alloc ?_ _) | (with_reducible refine Gr.setCell ?_ ?_ _) | (with_reducible refine Gr.grow ?_ _ _) | (refine Gr.step ?_ (by with_reducible assumption)) | go_size))
  have q0 : w3.cell? ⟨B5, 0, none⟩ = some (.int .u32 pa) := by rw [(Gr.cells hg3).1 _ _ s2]; exact r0
  have q1 : w3.cell? ⟨B5, 1, none⟩ = some (.int .i64 n) := by rw [(Gr.cells hg3).1 _ _ s2]; exact r1
  have s3 : B5 < w3.heap.size := World.block_lt_of_cell? _ _ q0
  clear hg3 hG2 r0 r1 s2
  go_wp2_with fail
  refine (fmtp_any pa n _ p0 p1 (Ht.out.gr hG3)).mono ?_
  rw [HP.out]
  rintro e w4 ⟨rfl, hg4⟩
  have hG4 : Gr w w4 := (by repeat' (first | (with_reducible exact Gr.refl _) | (with_reducible assumption) | (with_reducible refine Gr.drewN ?_ _) | (with_reducible refine Gr.drew ?_) | (with_reducible refine Gr.alloc ?_ _) | (with_reducible refine Gr.setCell ?_ ?_ _) | (with_reducible refine Gr.grow ?_ _ _) | (refine Gr.step ?_ (by with_reducible assumption)) | go_size))
  have r0 : w4.cell? ⟨B5, 0, none⟩ = some (.int .u32 pa) := by rw [(Gr.cells hg4).1 _ _ s3]; exact q0
  have r1 : w4.cell? ⟨B5, 1, none⟩ = some (.int .i64 n) := by rw [(Gr.cells hg4).1 _ _ s3]; exact q1
  have s4 : B5 < w4.heap.size := World.block_lt_of_cell? _ _ r0
  clear hg4 hG3 q0 q1 s3
  go_wp2_with fail
  refine (pp_any (str dP) _ sP).mono ?_
  rw [str_data, HC.out.1, HC.out.2.1, HC.out.2.2]
  rintro e w5 ⟨rfl, hg5⟩
  have hG5 : Gr w w5 := (by repeat' (first | (with_reducible exact Gr.refl _) | (with_reducible assumption) | (with_reducible refine Gr.drewN ?_ _) | (with_reducible refine Gr.drew ?_) | (with_reducible refine Gr.alloc ?_ _) | (with_reducible refine Gr.setCell ?_ ?_ _) | (with_reducible refine Gr.grow ?_ _ _) | (refine Gr.step ?_ (by with_reducible assumption)) | go_size))
  have q0 : w5.cell? ⟨B5, 0, none⟩ = some (.int .u32 pa) := by rw [(Gr.cells hg5).1 _ _ s4]; exact r0
  have q1 : w5.cell? ⟨B5, 1, none⟩ = some (.int .i64 n) := by rw [(Gr.cells hg5).1 _ _ s4]; exact r1
  have s5 : B5 < w5.heap.size := World.block_lt_of_cell? _ _ q0
  clear hg5 hG4 r0 r1 s4
  go_wp2_with fail
  refine (valid_yes pa n _ p0 p1 Hv.out).mono ?_
  rintro e w6 ⟨rfl, hg6⟩
  obtain ⟨hc, -⟩ := Gr.cells hg6
  have r0 : w6.cell? ⟨B5, 0, none⟩ = some (.int .u32 pa) := by rw [hc _ _ (by go_size), World.cell?_alloc_lt _ _ _ s5]; exact q0
  have r1 : w6.cell? ⟨B5, 1, none⟩ = some (.int .i64 n) := by rw [hc _ _ (by go_size), World.cell?_alloc_lt _ _ _ s5]; exact q1
  have hG6 : Gr w w6 := (by repeat' (first | (with_reducible exact Gr.refl _) | (with_reducible assumption) | (with_reducible refine Gr.drewN ?_ _) | (with_reducible refine Gr.drew ?_) | (with_reducible refine Gr.alloc ?_ _) | (with_reducible refine Gr.setCell ?_ ?_ _) | (with_reducible refine Gr.grow ?_ _ _) | (refine Gr.step ?_ (by with_reducible assumption)) | go_size))
  clear hc hg6 q0 q1
  go_wp2_with fail
  refine (ctn_is pa n a _ _ p0 p1 a0 a1 Hc.out).mono ?_
  rintro e w7 ⟨rfl, hg7⟩
  go_wp2_with fail
  go_ret
  exact ⟨rfl, (by repeat' (first | (with_reducible exact Gr.refl _) | (with_reducible assumption) | (with_reducible refine Gr.drewN ?_ _) | (with_reducible refine Gr.drew ?_) | (with_reducible refine Gr.alloc ?_ _) | (with_reducible refine Gr.setCell ?_ ?_ _) | (with_reducible refine Gr.grow ?_ _ _) | (refine Gr.step ?_ (by with_reducible assumption)) | go_size))⟩
end Go.Proofs.YtamemancjodefaaDoor
