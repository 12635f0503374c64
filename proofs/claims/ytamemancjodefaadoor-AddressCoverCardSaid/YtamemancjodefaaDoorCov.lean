/- The walk of the statement on the shortest cover. -/
import Derived.Test.YtamemancjodefaaDoorAwake
import Derived.Test.YtamemancjodefaaDoorCovRef
import Derived.WalkKit
import Derived.WalkSpells
import Derived.WalkLawsBesides
import Derived.WalkSmall
import Derived.Handy
import Derived.BigQuiet
import Derived.Deep.QuietTactic
import Derived.Deep.RegionHeld3
import Derived.Deep.DeepFit
import Derived.Below
import Derived.Lib.Hide
import Derived.Lib.QuietBelow
import Derived.Laws.OwnMore
import Derived.Deep.DeepCutAuto
namespace Go.Proofs.YtamemancjodefaaDoor
open Go Go.RowKit Go.Sort
set_option maxRecDepth 100000

theorem encE_at : ∀ (xs : List (Nat × Nat)) (j : Nat) (x : Nat × Nat), xs[j]? = some x → (xs.flatMap encE)[j * 2]? = some (.int .u32 x.1) ∧ (xs.flatMap encE)[j * 2 + 1]? = some (.int .i64 ((32 - x.2 : Nat) : Int))
  | [], j, x, h => by simp at h
  | y :: ys, 0, x, h => by
    simp only [List.getElem?_cons_zero, Option.some.injEq] at h; subst h
    constructor <;> rfl
  | y :: ys, j + 1, x, h => by
    have ih := encE_at ys j x (by simpa using h)
    have e : (j + 1) * 2 = j * 2 + 2 := by omega
    rw [e]
    exact ⟨ih.1, ih.2⟩
/-- a list of prefixes in memory -/
def Has (w : World) (p : Option Addr) (xs : List (Nat × Nat)) : Prop := ∀ (j : Nat) (x : Nat × Nat), xs[j]? = some x → ∃ g, p = some ⟨g, 0, none⟩ ∧ w.cell? ⟨g, j * 2, none⟩ = some (.int .u32 x.1) ∧ w.cell? ⟨g, j * 2 + 1, none⟩ = some (.int .i64 ((32 - x.2 : Nat) : Int))
theorem Has.gr {w w' : World} {p : Option Addr} {xs : List (Nat × Nat)} (h : Has w p xs) (g : Gr w w') : Has w' p xs := by
  intro j x hx
  obtain ⟨b, hp, h0, h1⟩ := h j x hx
  exact ⟨b, hp, by rw [(Gr.cells g).1 _ _ (World.block_lt_of_cell? _ _ h0)]; exact h0, by rw [(Gr.cells g).1 _ _ (World.block_lt_of_cell? _ _ h1)]; exact h1⟩
theorem own_form {w : World} {b : Nat} {e : TypeId} {v : Value} {xs : List (Nat × Nat)} (h : w.ownsRow b e 2 v xs.length (xs.flatMap encE)) : ∃ (p : Option Addr) (cap : Nat), v = .slice p xs.length cap ∧ xs.length ≤ cap ∧ Has w p xs := by
  obtain ⟨h1, ⟨rfl, h2⟩ | ⟨g, cap, cur, rfl, _, hg, hcap, _, _, hx⟩⟩ := h
  · exact ⟨none, 0, by rw [h2], by omega, fun j x hx => by rw [List.eq_nil_of_length_eq_zero h2] at hx; simp at hx⟩
  · refine ⟨some ⟨g, 0, none⟩, cap, rfl, hcap, fun j x hj => ?_⟩
    obtain ⟨a1, a2⟩ := encE_at xs j x hj
    have hjl : j < xs.length := by
      apply Decidable.byContradiction; intro hc
      rw [List.getElem?_eq_none (by omega)] at hj; cases hj
    refine ⟨g, rfl, ?_, ?_⟩
    · rw [← hx, List.getElem?_take] at a1
      rw [if_pos (by omega)] at a1
      simpa [World.cell?, hg] using a1
    · rw [← hx, List.getElem?_take] at a2
      rw [if_pos (by omega)] at a2
      simpa [World.cell?, hg] using a2
theorem szE (f : Nat) (h : f ≤ 32) : sz ((32 - f : Nat) : Int) = ((2 ^ f : Nat) : Int) := by
  unfold sz
  have : 32 - ((32 - f : Nat) : Int).toNat = f := by omega
  rw [this]
theorem vldE (x : Nat × Nat) (h : x.2 ≤ 32) (hd : 2 ^ x.2 ∣ x.1) : vld (x.1 : Int) ((32 - x.2 : Nat) : Int) = true := by
  rw [vld_iff, szE _ h, ← Int.natCast_emod, Nat.mod_eq_zero_of_dvd hd]
  omega
theorem ctnE (x : Nat × Nat) (a : Nat) (h : x.2 ≤ 32) (hd : 2 ^ x.2 ∣ x.1) : ctn (x.1 : Int) ((32 - x.2 : Nat) : Int) (a : Int) = inE a x := by
  rw [Bool.eq_iff_iff, ctn_iff, szE _ h]
  simp only [vldE x h hd, inE, Bool.and_eq_true, decide_eq_true_eq, true_and]
  omega
theorem cntE (xs : List (Nat × Nat)) (a i : Nat) (x : Nat × Nat) (h : xs[i]? = some x) : (xs.take (i + 1)).countP (inE a) = (xs.take i).countP (inE a) + if inE a x = true then 1 else 0 := by
  rw [List.take_add_one, h, List.countP_append]
  simp [List.countP_cons]
theorem adjE (x y : Nat × Nat) (h : x.2 ≤ 31) (hxy : y.2 = x.2) (hx : x.1 < 4294967296) (hy : y.1 < 4294967296) (hq : y.1 / 2 ^ (y.2 + 1) ≠ x.1 / 2 ^ (y.2 + 1)) : (cmn (y.1 : Int) (x.1 : Int) == ((32 - x.2 : Nat) : Int) - 1) = false := by
  rw [beq_eq_false_iff_ne]
  intro hc
  have e : ((32 - x.2 : Nat) : Int) - 1 = ((32 - (x.2 + 1) : Nat) : Int) := by omega
  rw [e] at hc
  have := (cmn_le (y.1 : Int) (x.1 : Int) ((32 - (x.2 + 1) : Nat) : Int) (by omega) (by omega) (by omega) (by omega) (by omega) (by omega)).1 (by omega)
  rw [szE _ (by omega)] at this
  rw [hxy] at hq
  exact hq (by omega)
set_option maxHeartbeats 6000000 in
theorem cov_walk (lo hi a : Nat) (w : World) (ht : Tab w) (hz : TzTab w) (l0 : lo < 2 ^ 32) (h0 : hi < 2 ^ 32) (a0 : a < 2 ^ 32) :
    Calls Tryd.prog 7 #[.int .u32 lo, .int .u32 hi, .int .u32 a] w fun e w' => e = .returned (.bool true) ∧ Gr w w' := by
  have HT := Lib.hid hz
  clear hz
  go_enter Tryd.func7, Tryd.ntmps7
  go_wp2_with (go_at_call 9; refine (awake_any _ ht).mono ?_; rintro e w1 ⟨rfl, hg1⟩)
  clear ht
  refine (cover_any lo hi w1 l0 h0 (HT.out.gr hg1)).mono ?_
  rintro e w2 ⟨v2, rfl, hown2, hg2⟩
  obtain ⟨p, cp, rfl, hcp, hp⟩ := own_form hown2
  have hG2 : Gr w w2 := (by repeat' (first | (with_reducible exact Gr.refl _) | (with_reducible assumption) | (with_reducible refine Gr.drewN ?_ _) | (with_reducible refine Gr.drew ?_) | (with_reducible refine Gr.alloc ?_ _) | (with_reducible refine Gr.setCell ?_ ?_ _) | (with_reducible refine Gr.grow ?_ _ _) | (refine Gr.step ?_ (by with_reducible assumption)) | go_size))
  clear hown2 hg1 hg2
  go_wp2_with fail
  refine (rcover_any lo hi w2 l0 h0).mono ?_
  rintro e w3 ⟨v3, rfl, hown3, hg3⟩
  obtain ⟨q, cq, rfl, hcq, hq⟩ := own_form hown3
  have hG3 : Gr w w3 := (by repeat' (first | (with_reducible exact Gr.refl _) | (with_reducible assumption) | (with_reducible refine Gr.drewN ?_ _) | (with_reducible refine Gr.drew ?_) | (with_reducible refine Gr.alloc ?_ _) | (with_reducible refine Gr.setCell ?_ ?_ _) | (with_reducible refine Gr.grow ?_ _ _) | (refine Gr.step ?_ (by with_reducible assumption)) | go_size))
  have HP := Lib.hid (hp.gr hg3)
  have HQ := Lib.hid hq
  have HL := Lib.hid (len_cov (s := lo) (e := hi + 1) (by omega))
  have HM := Lib.hid (mem_cov (e := hi + 1) (by omega) lo)
  have HA := Lib.hid (adj_cov (e := hi + 1) (by omega) lo)
  have HC := Lib.hid (cnt_cov (e := hi + 1) (by omega) a lo)
  clear hown3 hg3 hG2 hp hq
  generalize cov lo (hi + 1) = xs at *
  have n62 : (xs.length : Int) ≤ 62 := by have := HL.out; omega
  go_wp2_with fail
  go_loopw [9, 10] (fun nv iv wr => ∃ i : Nat, i ≤ xs.length ∧ iv = .int .i64 i ∧ nv = .int .i64 ((xs.take i).countP (inE a)) ∧ Gr w3 wr) (fun _ iv _ => xs.length - (intOf iv).toNat)
  case atStart => exact ⟨0, by omega, rfl, by simp, Gr.refl _⟩
  case round =>
    obtain ⟨i, hi, rfl, rfl, hgr⟩ := hrel
    by_cases hix : i < xs.length
    · obtain ⟨x, hx⟩ : ∃ x, xs[i]? = some x := ⟨_, List.getElem?_eq_getElem hix⟩
      obtain ⟨g, rfl, p0, p1⟩ := (HP.out.gr hgr) i x hx
      obtain ⟨g2, rfl, q0, q1⟩ := (HQ.out.gr hgr) i x hx
      obtain ⟨m1, m2, m3⟩ := HM.out x (List.mem_of_getElem? hx)
      have i0 : (i : Int) < (xs.length : Int) := by omega
      have icp : (i : Int) < (cp : Int) := by omega
      have hcnt : (xs.take i).countP (inE a) ≤ i := Nat.le_trans List.countP_le_length (by rw [List.length_take]; omega)
      have hp2 := Nat.pow_pos (n := x.2) (show 0 < 2 by omega)
      have xlt : x.1 < 4294967296 := by omega
      have V := Lib.hid (vldE x m1 m2)
      have C := Lib.hid (ctnE x a m1 m2)
      have z0 : (0 : Int) ≤ (x.1 : Int) := by omega
      have z1 : (x.1 : Int) < 4294967296 := by omega
      have y0 : (0 : Int) ≤ (a : Int) := by omega
      have y1 : (a : Int) < 4294967296 := by omega
      have k0 : (0 : Int) ≤ ((32 - x.2 : Nat) : Int) := by omega
      have k1 : ((32 - x.2 : Nat) : Int) ≤ 32 := by omega
      have pq0 : ∀ d os, (grow (redrawn wr d) os).cell? ⟨g, i * 2, none⟩ = some (.int .u32 x.1) := fun d os => cell_regrown p0 d os
      have pq1 : ∀ d os, (grow (redrawn wr d) os).cell? ⟨g, i * 2 + 1, none⟩ = some (.int .i64 ((32 - x.2 : Nat) : Int)) := fun d os => cell_regrown p1 d os
      have qq0 : ∀ d os, (grow (redrawn wr d) os).cell? ⟨g2, i * 2, none⟩ = some (.int .u32 x.1) := fun d os => cell_regrown q0 d os
      have qq1 : ∀ d os, (grow (redrawn wr d) os).cell? ⟨g2, i * 2 + 1, none⟩ = some (.int .i64 ((32 - x.2 : Nat) : Int)) := fun d os => cell_regrown q1 d os
      have icq : (i : Int) < (cq : Int) := by omega
      have hcn := cntE xs a i x hx
      clear xlt hp2 m2 m3 p0 p1 q0 q1
      generalize hkk : ((32 - x.2 : Nat) : Int) = k at *
      generalize hzz : (x.1 : Int) = z at *
      go_wp2_with fail
      refine wp_region_quiet_below (by kernel_rfl) (by kernel_rfl) ?_
      repeat (any_goals (first | go_big_quiet_step (first | (go_at_call 22; exact Calls.gr_of (valid_yes z k _ z0 z1 V.out))) | quiet_step (first | (go_at_call 22; exact Calls.gr_of (valid_yes z k _ z0 z1 V.out)))))
      refine wpQuiet_nil ?_
      intro _ hw'
      obtain ⟨⟨dq, osq⟩, hw''⟩ := hw'
      subst hw''
      clear pq0 pq1 qq0 qq1
      have hgz : Gr w3 (grow (redrawn wr dq) osq) := (by repeat' (first | (with_reducible exact Gr.refl _) | (with_reducible assumption) | (with_reducible refine Gr.drewN ?_ _) | (with_reducible refine Gr.drew ?_) | (with_reducible refine Gr.alloc ?_ _) | (with_reducible refine Gr.setCell ?_ ?_ _) | (with_reducible refine Gr.grow ?_ _ _) | (refine Gr.step ?_ (by with_reducible assumption)) | go_size))
      obtain ⟨_, hgg, p0, p1⟩ := (HP.out.gr hgz) i x hx
      obtain rfl : g = _ := by simpa using hgg
      rw [hkk] at p1
      rw [hzz] at p0
      generalize grow (redrawn wr dq) osq = wz at *
      clear hgg
      go_wp2_with fail
      by_cases hi0 : i = 0
      · subst hi0
        cases hE : inE a x
        · have C1 := Lib.hid (C.out.trans hE)
          rw [hE] at hcn
          refine (ctn_is z k a false _ z0 z1 y0 y1 C1.out).mono ?_
          rintro e w4 ⟨rfl, hg4⟩
          have hG4 : Gr w3 w4 := hgz.step hg4
          obtain ⟨_, hgg, r0, r1⟩ := (HP.out.gr hG4) (0) x hx
          obtain rfl : g = _ := by simpa using hgg
          rw [hkk] at r1
          rw [hzz] at r0
          have rq0 : ∀ d os, (grow (redrawn w4 d) os).cell? ⟨g, (0) * 2, none⟩ = some (.int .u32 z) := fun d os => cell_regrown r0 d os
          have rq1 : ∀ d os, (grow (redrawn w4 d) os).cell? ⟨g, (0) * 2 + 1, none⟩ = some (.int .i64 k) := fun d os => cell_regrown r1 d os
          clear hgg r0 r1 p0 p1
          go_wp2_with fail
          refine wp_region_quiet_below (by kernel_rfl) (by kernel_rfl) ?_
          repeat (any_goals (first | go_big_quiet_step (fail) | quiet_step (fail)))
          refine wpQuiet_nil ?_
          intro _ hw'
          obtain ⟨⟨dq, osq⟩, hw''⟩ := hw'
          subst hw''
          go_wp2_with fail
          case roundEnd =>
            refine ⟨⟨0 + 1, by omega, by simp, ?_, ?_⟩, by simp [intOf]; omega⟩
            · rw [hcn]; simp
            · exact (by repeat' (first | (with_reducible exact Gr.refl _) | (with_reducible assumption) | (with_reducible refine Gr.drewN ?_ _) | (with_reducible refine Gr.drew ?_) | (with_reducible refine Gr.alloc ?_ _) | (with_reducible refine Gr.setCell ?_ ?_ _) | (with_reducible refine Gr.grow ?_ _ _) | (refine Gr.step ?_ (by with_reducible assumption)) | go_size))
        · have C1 := Lib.hid (C.out.trans hE)
          rw [hE] at hcn
          refine (ctn_is z k a true _ z0 z1 y0 y1 C1.out).mono ?_
          rintro e w4 ⟨rfl, hg4⟩
          have hG4 : Gr w3 w4 := hgz.step hg4
          obtain ⟨_, hgg, r0, r1⟩ := (HP.out.gr hG4) (0) x hx
          obtain rfl : g = _ := by simpa using hgg
          rw [hkk] at r1
          rw [hzz] at r0
          have rq0 : ∀ d os, (grow (redrawn w4 d) os).cell? ⟨g, (0) * 2, none⟩ = some (.int .u32 z) := fun d os => cell_regrown r0 d os
          have rq1 : ∀ d os, (grow (redrawn w4 d) os).cell? ⟨g, (0) * 2 + 1, none⟩ = some (.int .i64 k) := fun d os => cell_regrown r1 d os
          clear hgg r0 r1 p0 p1
          go_wp2_with fail
          refine wp_region_quiet_below (by kernel_rfl) (by kernel_rfl) ?_
          repeat (any_goals (first | go_big_quiet_step (fail) | quiet_step (fail)))
          refine wpQuiet_nil ?_
          intro _ hw'
          obtain ⟨⟨dq, osq⟩, hw''⟩ := hw'
          subst hw''
          go_wp2_with fail
          case roundEnd =>
            refine ⟨⟨0 + 1, by omega, by simp, ?_, ?_⟩, by simp [intOf]; omega⟩
            · rw [hcn]; simp
            · exact (by repeat' (first | (with_reducible exact Gr.refl _) | (with_reducible assumption) | (with_reducible refine Gr.drewN ?_ _) | (with_reducible refine Gr.drew ?_) | (with_reducible refine Gr.alloc ?_ _) | (with_reducible refine Gr.setCell ?_ ?_ _) | (with_reducible refine Gr.grow ?_ _ _) | (refine Gr.step ?_ (by with_reducible assumption)) | go_size))
      · obtain ⟨j, rfl⟩ : ∃ j, i = j + 1 := ⟨i - 1, by omega⟩
        obtain ⟨y, hy⟩ : ∃ y, xs[j]? = some y := ⟨_, List.getElem?_eq_getElem (by omega)⟩
        have hadj := HA.out j y x hy hx
        obtain ⟨n1, n2, n3⟩ := HM.out y (List.mem_of_getElem? hy)
        have hp3 := Nat.pow_pos (n := y.2) (show 0 < 2 by omega)
        have yy1 : (y.1 : Int) < 4294967296 := by omega
        have yy0 : (0 : Int) ≤ (y.1 : Int) := by omega
        have j0 : (0 : Int) < ((j + 1 : Nat) : Int) := by omega
        have j1 : (j : Int) < (xs.length : Int) := by omega
        have j2 : (j : Int) < (cp : Int) := by omega
        by_cases hkk3 : x.2 = y.2
        · by_cases hx32 : x.2 = 32
          · have kz : decide (0 < k) = false := by rw [← hkk, hx32]; rfl
            have kk2 : k = ((32 - y.2 : Nat) : Int) := by rw [← hkk, hkk3]
            generalize hkk2 : ((32 - y.2 : Nat) : Int) = k2 at *
            generalize hzz2 : (y.1 : Int) = z2 at *
            subst kk2
            clear hadj n1 n2 n3 hp3 hkk3 hx32 hi0
            cases hE : inE a x
            · have C1 := Lib.hid (C.out.trans hE)
              rw [hE] at hcn
              refine (ctn_is z k a false _ z0 z1 y0 y1 C1.out).mono ?_
              rintro e w4 ⟨rfl, hg4⟩
              have hG4 : Gr w3 w4 := hgz.step hg4
              obtain ⟨_, hgg, r0, r1⟩ := (HP.out.gr hG4) (j + 1) x hx
              obtain rfl : g = _ := by simpa using hgg
              rw [hkk] at r1
              rw [hzz] at r0
              have rq0 : ∀ d os, (grow (redrawn w4 d) os).cell? ⟨g, (j + 1) * 2, none⟩ = some (.int .u32 z) := fun d os => cell_regrown r0 d os
              have rq1 : ∀ d os, (grow (redrawn w4 d) os).cell? ⟨g, (j + 1) * 2 + 1, none⟩ = some (.int .i64 k) := fun d os => cell_regrown r1 d os
              obtain ⟨_, hgg2, s0, s1⟩ := (HP.out.gr hG4) j y hy
              obtain rfl : g = _ := by simpa using hgg2
              rw [hkk2] at s1
              rw [hzz2] at s0
              have sq0 : ∀ d os, (grow (redrawn w4 d) os).cell? ⟨g, j * 2, none⟩ = some (.int .u32 z2) := fun d os => cell_regrown s0 d os
              have sq1 : ∀ d os, (grow (redrawn w4 d) os).cell? ⟨g, j * 2 + 1, none⟩ = some (.int .i64 k) := fun d os => cell_regrown s1 d os
              clear hgg2 s0 s1
              clear hgg r0 r1 p0 p1
              go_wp2_with fail
              refine wp_region_quiet_below (by kernel_rfl) (by kernel_rfl) ?_
              repeat (any_goals (first | go_big_quiet_step (fail) | quiet_step (fail)))
              refine wpQuiet_nil ?_
              intro _ hw'
              obtain ⟨⟨dq, osq⟩, hw''⟩ := hw'
              subst hw''
              go_wp2_with fail
              case roundEnd =>
                refine ⟨⟨j + 1 + 1, by omega, by simp, ?_, ?_⟩, by simp [intOf]; omega⟩
                · rw [hcn]; simp
                · exact (by repeat' (first | (with_reducible exact Gr.refl _) | (with_reducible assumption) | (with_reducible refine Gr.drewN ?_ _) | (with_reducible refine Gr.drew ?_) | (with_reducible refine Gr.alloc ?_ _) | (with_reducible refine Gr.setCell ?_ ?_ _) | (with_reducible refine Gr.grow ?_ _ _) | (refine Gr.step ?_ (by with_reducible assumption)) | go_size))
            · have C1 := Lib.hid (C.out.trans hE)
              rw [hE] at hcn
              refine (ctn_is z k a true _ z0 z1 y0 y1 C1.out).mono ?_
              rintro e w4 ⟨rfl, hg4⟩
              have hG4 : Gr w3 w4 := hgz.step hg4
              obtain ⟨_, hgg, r0, r1⟩ := (HP.out.gr hG4) (j + 1) x hx
              obtain rfl : g = _ := by simpa using hgg
              rw [hkk] at r1
              rw [hzz] at r0
              have rq0 : ∀ d os, (grow (redrawn w4 d) os).cell? ⟨g, (j + 1) * 2, none⟩ = some (.int .u32 z) := fun d os => cell_regrown r0 d os
              have rq1 : ∀ d os, (grow (redrawn w4 d) os).cell? ⟨g, (j + 1) * 2 + 1, none⟩ = some (.int .i64 k) := fun d os => cell_regrown r1 d os
              obtain ⟨_, hgg2, s0, s1⟩ := (HP.out.gr hG4) j y hy
              obtain rfl : g = _ := by simpa using hgg2
              rw [hkk2] at s1
              rw [hzz2] at s0
              have sq0 : ∀ d os, (grow (redrawn w4 d) os).cell? ⟨g, j * 2, none⟩ = some (.int .u32 z2) := fun d os => cell_regrown s0 d os
              have sq1 : ∀ d os, (grow (redrawn w4 d) os).cell? ⟨g, j * 2 + 1, none⟩ = some (.int .i64 k) := fun d os => cell_regrown s1 d os
              clear hgg2 s0 s1
              clear hgg r0 r1 p0 p1
              go_wp2_with fail
              refine wp_region_quiet_below (by kernel_rfl) (by kernel_rfl) ?_
              repeat (any_goals (first | go_big_quiet_step (fail) | quiet_step (fail)))
              refine wpQuiet_nil ?_
              intro _ hw'
              obtain ⟨⟨dq, osq⟩, hw''⟩ := hw'
              subst hw''
              go_wp2_with fail
              case roundEnd =>
                refine ⟨⟨j + 1 + 1, by omega, by simp, ?_, ?_⟩, by simp [intOf]; omega⟩
                · rw [hcn]; simp
                · exact (by repeat' (first | (with_reducible exact Gr.refl _) | (with_reducible assumption) | (with_reducible refine Gr.drewN ?_ _) | (with_reducible refine Gr.drew ?_) | (with_reducible refine Gr.alloc ?_ _) | (with_reducible refine Gr.setCell ?_ ?_ _) | (with_reducible refine Gr.grow ?_ _ _) | (refine Gr.step ?_ (by with_reducible assumption)) | go_size))
          · have kp : (0 : Int) < k := by rw [← hkk]; omega
            have kk2 : k = ((32 - y.2 : Nat) : Int) := by rw [← hkk, hkk3]
            have hq := adjE x y (by omega) hkk3.symm (by omega) (by omega) (hadj hkk3.symm)
            rw [hkk, hzz] at hq
            generalize hkk2 : ((32 - y.2 : Nat) : Int) = k2 at *
            generalize hzz2 : (y.1 : Int) = z2 at *
            subst kk2
            have C5 := Lib.hid (fun W => common_any z2 z W yy0 yy1 z0 z1)
            generalize cmn z2 z = cc at *
            generalize z2 - z2 % sz cc = xx at *
            have hf : ∀ w : World, (Instr.field 25 (.agg #[.int .u32 xx, .int .i64 cc]) 1).run Tryd.prog w = .ok (.int .i64 cc) w := fun _ => by rfl
            clear hadj n1 n2 n3 hp3 hkk3 hx32 hi0
            cases hE : inE a x
            · have C1 := Lib.hid (C.out.trans hE)
              rw [hE] at hcn
              refine (ctn_is z k a false _ z0 z1 y0 y1 C1.out).mono ?_
              rintro e w4 ⟨rfl, hg4⟩
              have hG4 : Gr w3 w4 := hgz.step hg4
              obtain ⟨_, hgg, r0, r1⟩ := (HP.out.gr hG4) (j + 1) x hx
              obtain rfl : g = _ := by simpa using hgg
              rw [hkk] at r1
              rw [hzz] at r0
              have rq0 : ∀ d os, (grow (redrawn w4 d) os).cell? ⟨g, (j + 1) * 2, none⟩ = some (.int .u32 z) := fun d os => cell_regrown r0 d os
              have rq1 : ∀ d os, (grow (redrawn w4 d) os).cell? ⟨g, (j + 1) * 2 + 1, none⟩ = some (.int .i64 k) := fun d os => cell_regrown r1 d os
              obtain ⟨_, hgg2, s0, s1⟩ := (HP.out.gr hG4) j y hy
              obtain rfl : g = _ := by simpa using hgg2
              rw [hkk2] at s1
              rw [hzz2] at s0
              have sq0 : ∀ d os, (grow (redrawn w4 d) os).cell? ⟨g, j * 2, none⟩ = some (.int .u32 z2) := fun d os => cell_regrown s0 d os
              have sq1 : ∀ d os, (grow (redrawn w4 d) os).cell? ⟨g, j * 2 + 1, none⟩ = some (.int .i64 k) := fun d os => cell_regrown s1 d os
              clear hgg2 s0 s1
              clear hgg r0 r1 p0 p1
              go_wp2_with fail
              refine wp_region_quiet_below (by kernel_rfl) (by kernel_rfl) ?_
              repeat (any_goals (first | go_big_quiet_step (first | (go_at_call 35; exact Calls.gr_of (C5.out _))) | quiet_step (first | (go_at_call 35; exact Calls.gr_of (C5.out _)))))
              refine wpQuiet_nil ?_
              intro _ hw'
              obtain ⟨⟨dq, osq⟩, hw''⟩ := hw'
              subst hw''
              go_wp2_with fail
              case roundEnd =>
                refine ⟨⟨j + 1 + 1, by omega, by simp, ?_, ?_⟩, by simp [intOf]; omega⟩
                · rw [hcn]; simp
                · exact (by repeat' (first | (with_reducible exact Gr.refl _) | (with_reducible assumption) | (with_reducible refine Gr.drewN ?_ _) | (with_reducible refine Gr.drew ?_) | (with_reducible refine Gr.alloc ?_ _) | (with_reducible refine Gr.setCell ?_ ?_ _) | (with_reducible refine Gr.grow ?_ _ _) | (refine Gr.step ?_ (by with_reducible assumption)) | go_size))
            · have C1 := Lib.hid (C.out.trans hE)
              rw [hE] at hcn
              refine (ctn_is z k a true _ z0 z1 y0 y1 C1.out).mono ?_
              rintro e w4 ⟨rfl, hg4⟩
              have hG4 : Gr w3 w4 := hgz.step hg4
              obtain ⟨_, hgg, r0, r1⟩ := (HP.out.gr hG4) (j + 1) x hx
              obtain rfl : g = _ := by simpa using hgg
              rw [hkk] at r1
              rw [hzz] at r0
              have rq0 : ∀ d os, (grow (redrawn w4 d) os).cell? ⟨g, (j + 1) * 2, none⟩ = some (.int .u32 z) := fun d os => cell_regrown r0 d os
              have rq1 : ∀ d os, (grow (redrawn w4 d) os).cell? ⟨g, (j + 1) * 2 + 1, none⟩ = some (.int .i64 k) := fun d os => cell_regrown r1 d os
              obtain ⟨_, hgg2, s0, s1⟩ := (HP.out.gr hG4) j y hy
              obtain rfl : g = _ := by simpa using hgg2
              rw [hkk2] at s1
              rw [hzz2] at s0
              have sq0 : ∀ d os, (grow (redrawn w4 d) os).cell? ⟨g, j * 2, none⟩ = some (.int .u32 z2) := fun d os => cell_regrown s0 d os
              have sq1 : ∀ d os, (grow (redrawn w4 d) os).cell? ⟨g, j * 2 + 1, none⟩ = some (.int .i64 k) := fun d os => cell_regrown s1 d os
              clear hgg2 s0 s1
              clear hgg r0 r1 p0 p1
              go_wp2_with fail
              refine wp_region_quiet_below (by kernel_rfl) (by kernel_rfl) ?_
              repeat (any_goals (first | go_big_quiet_step (first | (go_at_call 35; exact Calls.gr_of (C5.out _))) | quiet_step (first | (go_at_call 35; exact Calls.gr_of (C5.out _)))))
              refine wpQuiet_nil ?_
              intro _ hw'
              obtain ⟨⟨dq, osq⟩, hw''⟩ := hw'
              subst hw''
              go_wp2_with fail
              case roundEnd =>
                refine ⟨⟨j + 1 + 1, by omega, by simp, ?_, ?_⟩, by simp [intOf]; omega⟩
                · rw [hcn]; simp
                · exact (by repeat' (first | (with_reducible exact Gr.refl _) | (with_reducible assumption) | (with_reducible refine Gr.drewN ?_ _) | (with_reducible refine Gr.drew ?_) | (with_reducible refine Gr.alloc ?_ _) | (with_reducible refine Gr.setCell ?_ ?_ _) | (with_reducible refine Gr.grow ?_ _ _) | (refine Gr.step ?_ (by with_reducible assumption)) | go_size))
        · have hne : (((32 - x.2 : Nat) : Int) == ((32 - y.2 : Nat) : Int)) = false := by simp; omega
          rw [hkk] at hne
          generalize hkk2 : ((32 - y.2 : Nat) : Int) = k2 at *
          generalize hzz2 : (y.1 : Int) = z2 at *
          clear hadj n1 n2 n3 hp3 hkk3 hi0
          cases hE : inE a x
          · have C1 := Lib.hid (C.out.trans hE)
            rw [hE] at hcn
            refine (ctn_is z k a false _ z0 z1 y0 y1 C1.out).mono ?_
            rintro e w4 ⟨rfl, hg4⟩
            have hG4 : Gr w3 w4 := hgz.step hg4
            obtain ⟨_, hgg, r0, r1⟩ := (HP.out.gr hG4) (j + 1) x hx
            obtain rfl : g = _ := by simpa using hgg
            rw [hkk] at r1
            rw [hzz] at r0
            have rq0 : ∀ d os, (grow (redrawn w4 d) os).cell? ⟨g, (j + 1) * 2, none⟩ = some (.int .u32 z) := fun d os => cell_regrown r0 d os
            have rq1 : ∀ d os, (grow (redrawn w4 d) os).cell? ⟨g, (j + 1) * 2 + 1, none⟩ = some (.int .i64 k) := fun d os => cell_regrown r1 d os
            obtain ⟨_, hgg2, s0, s1⟩ := (HP.out.gr hG4) j y hy
            obtain rfl : g = _ := by simpa using hgg2
            rw [hkk2] at s1
            rw [hzz2] at s0
            have sq0 : ∀ d os, (grow (redrawn w4 d) os).cell? ⟨g, j * 2, none⟩ = some (.int .u32 z2) := fun d os => cell_regrown s0 d os
            have sq1 : ∀ d os, (grow (redrawn w4 d) os).cell? ⟨g, j * 2 + 1, none⟩ = some (.int .i64 k2) := fun d os => cell_regrown s1 d os
            clear hgg2 s0 s1
            clear hgg r0 r1 p0 p1
            go_wp2_with fail
            refine wp_region_quiet_below (by kernel_rfl) (by kernel_rfl) ?_
            repeat (any_goals (first | go_big_quiet_step (fail) | quiet_step (fail)))
            refine wpQuiet_nil ?_
            intro _ hw'
            obtain ⟨⟨dq, osq⟩, hw''⟩ := hw'
            subst hw''
            go_wp2_with fail
            case roundEnd =>
              refine ⟨⟨j + 1 + 1, by omega, by simp, ?_, ?_⟩, by simp [intOf]; omega⟩
              · rw [hcn]; simp
              · exact (by repeat' (first | (with_reducible exact Gr.refl _) | (with_reducible assumption) | (with_reducible refine Gr.drewN ?_ _) | (with_reducible refine Gr.drew ?_) | (with_reducible refine Gr.alloc ?_ _) | (with_reducible refine Gr.setCell ?_ ?_ _) | (with_reducible refine Gr.grow ?_ _ _) | (refine Gr.step ?_ (by with_reducible assumption)) | go_size))
          · have C1 := Lib.hid (C.out.trans hE)
            rw [hE] at hcn
            refine (ctn_is z k a true _ z0 z1 y0 y1 C1.out).mono ?_
            rintro e w4 ⟨rfl, hg4⟩
            have hG4 : Gr w3 w4 := hgz.step hg4
            obtain ⟨_, hgg, r0, r1⟩ := (HP.out.gr hG4) (j + 1) x hx
            obtain rfl : g = _ := by simpa using hgg
            rw [hkk] at r1
            rw [hzz] at r0
            have rq0 : ∀ d os, (grow (redrawn w4 d) os).cell? ⟨g, (j + 1) * 2, none⟩ = some (.int .u32 z) := fun d os => cell_regrown r0 d os
            have rq1 : ∀ d os, (grow (redrawn w4 d) os).cell? ⟨g, (j + 1) * 2 + 1, none⟩ = some (.int .i64 k) := fun d os => cell_regrown r1 d os
            obtain ⟨_, hgg2, s0, s1⟩ := (HP.out.gr hG4) j y hy
            obtain rfl : g = _ := by simpa using hgg2
            rw [hkk2] at s1
            rw [hzz2] at s0
            have sq0 : ∀ d os, (grow (redrawn w4 d) os).cell? ⟨g, j * 2, none⟩ = some (.int .u32 z2) := fun d os => cell_regrown s0 d os
            have sq1 : ∀ d os, (grow (redrawn w4 d) os).cell? ⟨g, j * 2 + 1, none⟩ = some (.int .i64 k2) := fun d os => cell_regrown s1 d os
            clear hgg2 s0 s1
            clear hgg r0 r1 p0 p1
            go_wp2_with fail
            refine wp_region_quiet_below (by kernel_rfl) (by kernel_rfl) ?_
            repeat (any_goals (first | go_big_quiet_step (fail) | quiet_step (fail)))
            refine wpQuiet_nil ?_
            intro _ hw'
            obtain ⟨⟨dq, osq⟩, hw''⟩ := hw'
            subst hw''
            go_wp2_with fail
            case roundEnd =>
              refine ⟨⟨j + 1 + 1, by omega, by simp, ?_, ?_⟩, by simp [intOf]; omega⟩
              · rw [hcn]; simp
              · exact (by repeat' (first | (with_reducible exact Gr.refl _) | (with_reducible assumption) | (with_reducible refine Gr.drewN ?_ _) | (with_reducible refine Gr.drew ?_) | (with_reducible refine Gr.alloc ?_ _) | (with_reducible refine Gr.setCell ?_ ?_ _) | (with_reducible refine Gr.grow ?_ _ _) | (refine Gr.step ?_ (by with_reducible assumption)) | go_size))
    · obtain rfl : i = xs.length := by omega
      rw [List.take_length, HC.out]
      have i0 : ¬ ((xs.length : Int) < (xs.length : Int)) := by omega
      go_wp2_with fail
      all_goals (go_ret; first | exact ⟨rfl, (by repeat' (first | (with_reducible exact Gr.refl _) | (with_reducible assumption) | (with_reducible refine Gr.drewN ?_ _) | (with_reducible refine Gr.drew ?_) | (with_reducible refine Gr.alloc ?_ _) | (with_reducible refine Gr.setCell ?_ ?_ _) | (with_reducible refine Gr.grow ?_ _ _) | (refine Gr.step ?_ (by with_reducible assumption)) | go_size))⟩ | (refine ⟨ret_bool ?_, (by repeat' (first | (with_reducible exact Gr.refl _) | (with_reducible assumption) | (with_reducible refine Gr.drewN ?_ _) | (with_reducible refine Gr.drew ?_) | (with_reducible refine Gr.alloc ?_ _) | (with_reducible refine Gr.setCell ?_ ?_ _) | (with_reducible refine Gr.grow ?_ _ _) | (refine Gr.step ?_ (by with_reducible assumption)) | go_size))⟩; simp; omega))
end Go.Proofs.YtamemancjodefaaDoor
