/- The walk of the statement on special addresses and mates. -/
import Derived.Test.YtamemancjodefaaDoorAwake
import Derived.Test.YtamemancjodefaaDoorCodesB
import Derived.Test.YtamemancjodefaaDoorSpecial
import Derived.WalkKit
import Derived.WalkSpells
import Derived.WalkLawsBesides
import Derived.WalkSmall
import Derived.Handy
import Derived.BigQuiet
import Derived.Deep.QuietTactic
import Derived.Deep.RegionHeld3
import Derived.Deep.DeepFit
import Derived.Below
import Derived.Lib.Hide
import Derived.Lib.QuietBelow
import Derived.Deep.DeepCutAuto
namespace Go.Proofs.YtamemancjodefaaDoor
open Go Go.RowKit Go.Sort
set_option maxRecDepth 100000

theorem mtV_range (a n : Int) (h0 : 0 ≤ a) (h1 : a < 4294967296) : 0 ≤ mtV a n ∧ mtV a n < 4294967296 := by
  unfold mtV
  split
  · have ⟨r0, r1, _⟩ := xor_u32 a 1 1 h0 h1 (by omega) (by decide) (by omega); exact ⟨r0, r1⟩
  · split
    · have ⟨r0, r1, _⟩ := xor_u32 a 3 2 h0 h1 (by omega) (by decide) (by omega); exact ⟨r0, r1⟩
    · omega

set_option maxHeartbeats 1000000 in
theorem spec_walk (a n : Int) (sv : Value) (len : Nat) (w : World) (ht : Tab w) (hsp : SpTab w) (hl : len ≤ 9223372036854775807) (hb : BytesV w.heap.size w sv len) (a0 : 0 ≤ a) (a1 : a < 4294967296) :
    Calls Tryd.prog 8 #[.int .u32 a, .int .i64 n, sv] w fun e w' => e = .returned (.bool true) ∧ Gr w w' := by
  have Hsp := Lib.hid hsp
  go_enter Tryd.func8, Tryd.ntmps8
  go_wp2_with (go_at_call 9; refine (awake_any _ ht).mono ?_; rintro e w1 ⟨rfl, hg1⟩)
  refine (new_any sv len _ hl (hb.gr hg1)).mono ?_
  rintro e w2 ⟨b, rfl, hbe, hc2, hg2⟩
  have hbw : w.heap.size ≤ b := by have := Gr.size hg1; omega
  have hG2 : Gr w w2 := (by repeat' (first | (with_reducible exact Gr.refl _) | (with_reducible assumption) | (with_reducible refine Gr.drewN ?_ _) | (with_reducible refine Gr.drew ?_) | (with_reducible refine Gr.alloc ?_ _) | (with_reducible refine Gr.setCell ?_ ?_ _) | (with_reducible refine Gr.grow ?_ _ _) | (refine Gr.step ?_ (by with_reducible assumption)) | go_size))
  clear hbe hg1 hg2 ht hb hsp
  go_wp2_with fail
  refine (address_any b _ hc2).mono ?_
  rintro e w3 ⟨x1, rfl, x10, x11, hc3, he3⟩
  have hG3 : Gr w w3 := Ex.gr hG2 hbw he3
  clear he3 hc2 hG2
  go_wp2_with fail
  refine (next_any b 256 _ (by omega) (by omega) hc3).mono ?_
  rintro e w4 ⟨y1, rfl, y10, y11, hc4, he4⟩
  have hG4 : Gr w w4 := Ex.gr hG3 hbw he4
  clear he4 hc3 hG3
  go_wp2_with fail
  refine (next_any b 256 _ (by omega) (by omega) hc4).mono ?_
  rintro e w5 ⟨y2, rfl, y20, y21, hc5, he5⟩
  have hG5 : Gr w w5 := Ex.gr hG4 hbw he5
  clear he5 hc4 hG4
  go_wp2_with fail
  have hblt := hc5.lt
  refine (next_any b 11 _ (by omega) (by omega) (hc5.gr (Gr.alloc (Gr.refl _) _))).mono ?_
  rintro e w6 ⟨j, rfl, j0, j1, hc6, he6⟩
  have hG6 : Gr w w6 := Ex.gr (Gr.alloc hG5 _) hbw he6
  obtain ⟨j, rfl⟩ := Int.eq_ofNat_of_zero_le j0
  obtain ⟨t, hct, t0, t1⟩ : ∃ t : Int, w6.cell? ⟨w5.heap.size, j, none⟩ = some (.int .i64 t) ∧ 0 ≤ t ∧ t ≤ 255 := by
    have hk : ∀ v, (#[.int .i64 0, .int .i64 10, .int .i64 127, .int .i64 169, .int .i64 172, .int .i64 192, .int .i64 223, .int .i64 224, .int .i64 239, .int .i64 240, .int .i64 255] : Array Value)[j]? = some v → w6.cell? ⟨w5.heap.size, j, none⟩ = some v := by
      intro v hv
      rw [he6.cell _ _ (by omega) (by go_size), World.cell?_alloc_new]; exact hv
    have hj : j = 0 ∨ j = 1 ∨ j = 2 ∨ j = 3 ∨ j = 4 ∨ j = 5 ∨ j = 6 ∨ j = 7 ∨ j = 8 ∨ j = 9 ∨ j = 10 := by omega
    rcases hj with rfl | rfl | rfl | rfl | rfl | rfl | rfl | rfl | rfl | rfl | rfl <;> exact ⟨_, hk _ rfl, by decide, by decide⟩
  clear he6 hc5 hc6 hG5 hblt
  have j2 : (j : Int) < 11 := by omega
  go_wp2_with fail
  obtain ⟨W0, hW0⟩ : ∃ W0, W0 = w6.alloc (.cells #[.int .u32 a, .int .u32 x1, .int .u32 (y1 * 16777216 + y2 * 65536), .int .u32 (t * 16777216 + a % 16777216)] 23) := ⟨_, rfl⟩
  rw [← hW0]
  have hX : ∀ i, i < 4 → ∃ z : Int, W0.cell? ⟨w6.heap.size, i, none⟩ = some (.int .u32 z) ∧ 0 ≤ z ∧ z < 4294967296 := by
    intro i hi
    rw [hW0, World.cell?_alloc_new]
    have : i = 0 ∨ i = 1 ∨ i = 2 ∨ i = 3 := by omega
    rcases this with rfl | rfl | rfl | rfl
    · exact ⟨_, rfl, a0, a1⟩
    · exact ⟨_, rfl, x10, x11⟩
    · exact ⟨_, rfl, by omega, by omega⟩
    · exact ⟨_, rfl, by omega, by omega⟩
  have hGW : Gr w W0 := by rw [hW0]; exact Gr.alloc hG6 _
  generalize w6.heap.size = B8 at *
  have HX := Lib.hid hX
  clear hX hW0 hG6 hct j0 j1 j2 t0 t1 x10 x11 y10 y11 y20 y21
  go_loopw [9] (fun v wr => ∃ i : Nat, i ≤ 4 ∧ v = .int .i64 i ∧ Gr W0 wr) (fun v _ => 4 - (intOf v).toNat)
  case atStart => exact ⟨0, by omega, rfl, Gr.refl _⟩
  case round =>
    obtain ⟨i, hi, rfl, hgr⟩ := hrel
    obtain ⟨wo, rfl⟩ : ∃ wo : World, wo = wr := ⟨_, rfl⟩
    by_cases hi4 : i < 4
    · obtain ⟨z, hz, z0, z1⟩ := HX.out i hi4
      have i0 : (i : Int) < 4 := by omega
      go_wp2_with fail
      obtain ⟨W1, hW1⟩ : ∃ W1, W1 = wo.alloc (.cells #[.int .i64 n, .int .i64 30, .int .i64 31, .int .i64 29, .int .i64 32] 3) := ⟨_, rfl⟩
      rw [← hW1]
      have hY : ∀ m, m < 5 → ∃ k : Int, W1.cell? ⟨wo.heap.size, m, none⟩ = some (.int .i64 k) := by
        intro m hm
        rw [hW1, World.cell?_alloc_new]
        have : m = 0 ∨ m = 1 ∨ m = 2 ∨ m = 3 ∨ m = 4 := by omega
        rcases this with rfl | rfl | rfl | rfl | rfl <;> exact ⟨_, rfl⟩
      have hG1 : Gr W0 W1 := by rw [hW1]; exact Gr.alloc hgr _
      generalize wo.heap.size = B51 at *
      have HY := Lib.hid hY
      clear hY hW1 hgr
      go_loopw [53] (fun v wr => ∃ m : Nat, m ≤ 5 ∧ v = .int .i64 m ∧ Gr W1 wr) (fun v _ => 5 - (intOf v).toNat)
      case atStart => exact ⟨0, by omega, rfl, Gr.refl _⟩
      case round =>
        obtain ⟨m, hm, rfl, hgr⟩ := hrel
        have hGr0 : Gr W0 wr := (by repeat' (first | (with_reducible exact Gr.refl _) | (with_reducible assumption) | (with_reducible refine Gr.drewN ?_ _) | (with_reducible refine Gr.drew ?_) | (with_reducible refine Gr.alloc ?_ _) | (with_reducible refine Gr.setCell ?_ ?_ _) | (with_reducible refine Gr.grow ?_ _ _) | (refine Gr.step ?_ (by with_reducible assumption)) | go_size))
        have hzr : wr.cell? ⟨B8, i, none⟩ = some (.int .u32 z) := by rw [(Gr.cells hGr0).1 _ _ (World.block_lt_of_cell? _ _ hz)]; exact hz
        by_cases hm5 : m < 5
        · obtain ⟨k, hk⟩ := HY.out m hm5
          have hkr : wr.cell? ⟨B51, m, none⟩ = some (.int .i64 k) := by rw [(Gr.cells hgr).1 _ _ (World.block_lt_of_cell? _ _ hk)]; exact hk
          have m0 : (m : Int) < 5 := by omega
          by_cases g : mtE z k = 0
          · have ⟨r0, r1, be, bv, bc⟩ := mate_back z k z0 z1 g
            have c1 := mate_any z k wr z0 z1
            have c2 := rmate_any z k wr z0 z1
            have c3 := mate_any (mtV z k) k wr r0 r1
            have c4 := common_any z (mtV z k) wr z0 z1 r0 r1
            rw [g] at c1 c2
            rw [be, bv] at c3
            have tb : ¬ (cmn z (mtV z k) < 30) := by omega
            generalize mtV z k = x at *
            generalize z - z % sz (cmn z x) = xx at *
            generalize cmn z x = cc at *
            have hf : ∀ w : World, (Instr.field 25 (.agg #[.int .u32 xx, .int .i64 cc]) 1).run Tryd.prog w = .ok (.int .i64 cc) w := fun _ => by rfl
            clear be bv bc g
            have C1 := Lib.hid c1
            have C2 := Lib.hid c2
            have C3 := Lib.hid c3
            have C4 := Lib.hid c4
            clear c1 c2 c3 c4
            go_wp2_with fail
            refine C1.out.mono ?_
            rintro e w' ⟨rfl, rfl⟩
            go_wp2_with fail
            refine C2.out.mono ?_
            rintro e w' ⟨rfl, rfl⟩
            go_wp2_with fail
            refine C3.out.mono ?_
            rintro e w' ⟨rfl, rfl⟩
            go_wp2_with fail
            refine C4.out.mono ?_
            rintro e w' ⟨rfl, hgc⟩
            go_wp2_with fail
            case roundEnd =>
              refine ⟨⟨m + 1, by omega, by simp, ?_⟩, by simp [intOf]; omega⟩
              exact (by repeat' (first | (with_reducible exact Gr.refl _) | (with_reducible assumption) | (with_reducible refine Gr.drewN ?_ _) | (with_reducible refine Gr.drew ?_) | (with_reducible refine Gr.alloc ?_ _) | (with_reducible refine Gr.setCell ?_ ?_ _) | (with_reducible refine Gr.grow ?_ _ _) | (refine Gr.step ?_ (by with_reducible assumption)) | go_size))
          · have ⟨r0, r1⟩ := mtV_range z k z0 z1
            have tg : (mtE z k == 0) = false := by simpa using g
            have c1 := mate_any z k wr z0 z1
            have c2 := rmate_any z k wr z0 z1
            have c3 := mate_any (mtV z k) k wr r0 r1
            generalize mtE (mtV z k) k = e2 at *
            generalize mtV (mtV z k) k = v2 at *
            generalize mtV z k = x at *
            generalize mtE z k = ee at *
            have C1 := Lib.hid c1
            have C2 := Lib.hid c2
            have C3 := Lib.hid c3
            clear c1 c2 c3
            go_wp2_with fail
            refine C1.out.mono ?_
            rintro e w' ⟨rfl, rfl⟩
            go_wp2_with fail
            refine C2.out.mono ?_
            rintro e w' ⟨rfl, rfl⟩
            go_wp2_with fail
            refine C3.out.mono ?_
            rintro e w' ⟨rfl, rfl⟩
            go_wp2_with fail
            case roundEnd => exact ⟨⟨m + 1, by omega, by simp, hgr⟩, by simp [intOf]; omega⟩
        · obtain rfl : m = 5 := by omega
          clear hm hm5
          have hgw : Gr w wr := (by repeat' (first | (with_reducible exact Gr.refl _) | (with_reducible assumption) | (with_reducible refine Gr.drewN ?_ _) | (with_reducible refine Gr.drew ?_) | (with_reducible refine Gr.alloc ?_ _) | (with_reducible refine Gr.setCell ?_ ?_ _) | (with_reducible refine Gr.grow ?_ _ _) | (refine Gr.step ?_ (by with_reducible assumption)) | go_size))
          have Hst := Lib.hid (Hsp.out.gr hgw)
          have hzq : ∀ d os, (grow (redrawn wr d) os).cell? ⟨B8, i, none⟩ = some (.int .u32 z) := fun d os => cell_regrown hzr d os
          clear hzr
          go_wp2_with fail
          refine wp_region_quiet_below (by kernel_rfl) (by kernel_rfl) ?_
          repeat (any_goals (first | go_big_quiet_step (first | (go_at_call 42; exact Calls.gr_of (special_any z _ z0 z1 (SpTab.gr Hst.out (below_regrown _ _ _)))) | (go_at_call 43; exact Calls.gr_of (rspecial_any z _ z0 z1))) | quiet_step (first | (go_at_call 42; exact Calls.gr_of (special_any z _ z0 z1 (SpTab.gr Hst.out (below_regrown _ _ _)))) | (go_at_call 43; exact Calls.gr_of (rspecial_any z _ z0 z1)))))
          refine wpQuiet_nil ?_
          intro _ hw'
          obtain ⟨⟨dq, osq⟩, hw''⟩ := hw'
          subst hw''
          go_wp2_with fail
          case roundEnd =>
            refine ⟨⟨i + 1, by omega, by simp, ?_⟩, by simp [intOf]; omega⟩
            exact (by repeat' (first | (with_reducible exact Gr.refl _) | (with_reducible assumption) | (with_reducible refine Gr.drewN ?_ _) | (with_reducible refine Gr.drew ?_) | (with_reducible refine Gr.alloc ?_ _) | (with_reducible refine Gr.setCell ?_ ?_ _) | (with_reducible refine Gr.grow ?_ _ _) | (refine Gr.step ?_ (by with_reducible assumption)) | go_size))
    · obtain rfl : i = 4 := by omega
      clear hi hi4
      go_wp2_with fail
      go_ret
      exact ⟨rfl, (by repeat' (first | (with_reducible exact Gr.refl _) | (with_reducible assumption) | (with_reducible refine Gr.drewN ?_ _) | (with_reducible refine Gr.drew ?_) | (with_reducible refine Gr.alloc ?_ _) | (with_reducible refine Gr.setCell ?_ ?_ _) | (with_reducible refine Gr.grow ?_ _ _) | (refine Gr.step ?_ (by with_reducible assumption)) | go_size))⟩
end Go.Proofs.YtamemancjodefaaDoor
