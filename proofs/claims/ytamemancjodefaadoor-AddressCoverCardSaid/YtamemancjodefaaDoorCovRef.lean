/- Cover, the document's: the same list. -/
import Derived.Test.YtamemancjodefaaDoorCovLand
import Derived.WalkKit
import Derived.WalkSpells
import Derived.WalkLawsBesides
import Derived.WalkSmall
import Derived.Handy
import Derived.BigQuiet
import Derived.Deep.QuietTactic
import Derived.Deep.RegionHeld3
import Derived.Deep.DeepFit
import Derived.Below
import Derived.Lib.Hide
import Derived.Lib.QuietBelow
import Derived.Maps.AppendAt
import Derived.Laws.OwnMore
import Derived.Deep.DeepCutAuto
namespace Go.Proofs.YtamemancjodefaaDoor
open Go Go.RowKit Go.Sort
set_option maxRecDepth 100000

theorem fits_sz (s hi : Nat) (n : Int) : fits s (hi + 1) (32 - n.toNat) ↔ (s : Int) % sz n = 0 ∧ (s : Int) + sz n ≤ (hi : Int) + 1 := by
  unfold fits sz
  rw [Nat.dvd_iff_mod_eq_zero, ← Int.natCast_emod]
  generalize 2 ^ (32 - n.toNat) = q
  omega
theorem best_sz (s hi : Nat) (n : Int) (n0 : 0 ≤ n) (n1 : n ≤ 32) (h : s < hi + 1) (hh : hi < 2 ^ 32) (hy : (s : Int) % sz n = 0 ∧ (s : Int) + sz n ≤ (hi : Int) + 1)
    (hn : n = 0 ∨ ¬ ((s : Int) % sz (n - 1) = 0 ∧ (s : Int) + sz (n - 1) ≤ (hi : Int) + 1)) : 32 - n.toNat = best s (hi + 1) := by
  refine best_unique h (by omega) ((fits_sz s hi n).2 hy) ?_
  rcases hn with rfl | hn
  · intro hc
    have := hc.2
    simp at this; omega
  · by_cases hz : n = 0
    · subst hz
      intro hc
      have := hc.2
      simp at this; omega
    · rw [← fits_sz s hi (n - 1)] at hn
      have e : 32 - (n - 1).toNat = 32 - n.toNat + 1 := by omega
      rwa [e] at hn
theorem ownsRow_base {w : World} {b b' : Nat} {e : TypeId} {size : Nat} {v : Value} {n : Nat} {xs : List Value} (hb : b' ≤ b) (h : w.ownsRow b e size v n xs) : w.ownsRow b' e size v n xs :=
  ⟨h.1, h.2.imp id fun ⟨g, cap, cur, h1, h2, h3⟩ => ⟨g, cap, cur, h1, by omega, h3⟩⟩
set_option maxHeartbeats 1000000 in
theorem rcover_any (lo hi : Nat) (w : World) (h0 : lo < 2 ^ 32) (h1 : hi < 2 ^ 32) :
    Calls Tryd.prog 38 #[.agg #[.int .u32 lo, .int .u32 hi]] w fun e w' => ∃ v, e = .returned v ∧ w'.ownsRow w.heap.size 25 2 v (cov lo (hi + 1)).length ((cov lo (hi + 1)).flatMap encE) ∧ Gr w w' := by
  have l1 : (lo : Int) < 4294967296 := by omega
  have l2 : (hi : Int) < 4294967296 := by omega
  go_enter Tryd.func38, Tryd.ntmps38
  go_wp2_with fail
  obtain ⟨Wa, hWa⟩ : ∃ Wa, Wa = w.alloc (.cells #[.int .u32 lo, .int .u32 hi] 49) := ⟨_, rfl⟩
  rw [← hWa]
  have hGa : Gr w Wa := by rw [hWa]; exact Gr.alloc (Gr.refl _) _
  have b1 : Wa.cell? ⟨w.heap.size, 1, none⟩ = some (.int .u32 hi) := by rw [hWa]; simp
  clear hWa
  go_loopw [3, 4] (fun v nx wr => ∃ (s : Nat) (pre : List (Nat × Nat)), nx = .int .i64 s ∧ s ≤ 4294967296 ∧ pre ++ cov s (hi + 1) = cov lo (hi + 1) ∧ wr.ownsRow Wa.heap.size 25 2 v pre.length (pre.flatMap encE) ∧ Gr Wa wr) (fun _ nx _ => 4294967296 - (intOf nx).toNat)
  case atStart => exact ⟨lo, [], rfl, by omega, rfl, World.ownsRow_nil _ _ _ _, Gr.refl _⟩
  case round =>
    obtain ⟨s, pre, rfl, hs, hpre, hown, hgr⟩ := hrel
    obtain ⟨wo, rfl⟩ : ∃ wo : World, wo = wr := ⟨_, rfl⟩
    have c1 : wo.cell? ⟨w.heap.size, 1, none⟩ = some (.int .u32 hi) := by rw [(Gr.cells hgr).1 _ _ (World.block_lt_of_cell? _ _ b1)]; exact b1
    have sI : (s : Int) ≤ 4294967296 := by omega
    by_cases hlt : s < hi + 1
    · have s0 : (s : Int) ≤ (hi : Int) := by omega
      go_wp2_with fail
      go_loopw [5] (fun v wi => ∃ n : Int, v = .int .i64 n ∧ 0 ≤ n ∧ n ≤ 32 ∧ ((s : Int) % sz n = 0 ∧ (s : Int) + sz n ≤ (hi : Int) + 1) ∧ Gr wo wi) (fun v _ => (intOf v).toNat)
      case atStart => exact ⟨32, rfl, by omega, by omega, by rw [sz_32]; omega, Gr.refl _⟩
      case round =>
        obtain ⟨n, rfl, n0, n1, hfit, hgi⟩ := hrel
        have c2 : ∀ d os, (grow (redrawn wr d) os).cell? ⟨w.heap.size, 1, none⟩ = some (.int .u32 hi) := fun d os => cell_regrown (by rw [(Gr.cells hgi).1 _ _ (World.block_lt_of_cell? _ _ c1)]; exact c1) d os
        by_cases hn : 0 < n
        · have hs1 := sz_pos (n - 1)
          have hs2 := sz_le (n - 1)
          have g0 : 0 ≤ n - 1 := by omega
          have g1 : n - 1 ≤ 32 := by omega
          by_cases hm : (s : Int) % sz (n - 1) = 0
          · by_cases hb : (s : Int) + sz (n - 1) - 1 ≤ (hi : Int)
            · have m1 : ((s : Int) % sz (n - 1) == 0) = true := by simpa using hm
              go_wp2_with fail
              refine wp_region_quiet_below (by kernel_rfl) (by kernel_rfl) ?_
              repeat (any_goals (first | go_big_quiet_step (first | (go_at_call 51; exact Calls.gr_same (size_any _ _ g0 g1))) | quiet_step (first | (go_at_call 51; exact Calls.gr_same (size_any _ _ g0 g1)))))
              refine wpQuiet_nil ?_
              intro _ hw'
              obtain ⟨⟨dq, osq⟩, hw''⟩ := hw'
              subst hw''
              go_wp2_with fail
              case roundEnd =>
                refine ⟨⟨n - 1, rfl, g0, by omega, ⟨hm, by omega⟩, (by repeat' (first | (with_reducible exact Gr.refl _) | (with_reducible assumption) | (with_reducible refine Gr.drewN ?_ _) | (with_reducible refine Gr.drew ?_) | (with_reducible refine Gr.alloc ?_ _) | (with_reducible refine Gr.setCell ?_ ?_ _) | (with_reducible refine Gr.grow ?_ _ _) | (refine Gr.step ?_ (by with_reducible assumption)) | go_size))⟩, by simp [intOf]; omega⟩
            · have m1 : ((s : Int) % sz (n - 1) == 0) = true := by simpa using hm
              have hb2 : decide ((s : Int) + sz (n - 1) - 1 ≤ (hi : Int)) = false := by simpa using hb
              have Hb := Lib.hid hb
              clear hb
              go_wp2_with fail
              refine wp_region_quiet_below (by kernel_rfl) (by kernel_rfl) ?_
              repeat (any_goals (first | go_big_quiet_step (first | (go_at_call 51; exact Calls.gr_same (size_any _ _ g0 g1))) | quiet_step (first | (go_at_call 51; exact Calls.gr_same (size_any _ _ g0 g1)))))
              refine wpQuiet_nil ?_
              intro _ hw'
              obtain ⟨⟨dq, osq⟩, hw''⟩ := hw'
              subst hw''
              have hGz : Gr wo (grow (redrawn wr dq) osq) := (by repeat' (first | (with_reducible exact Gr.refl _) | (with_reducible assumption) | (with_reducible refine Gr.drewN ?_ _) | (with_reducible refine Gr.drew ?_) | (with_reducible refine Gr.alloc ?_ _) | (with_reducible refine Gr.setCell ?_ ?_ _) | (with_reducible refine Gr.grow ?_ _ _) | (refine Gr.step ?_ (by with_reducible assumption)) | go_size))
              have hf := best_sz s hi n n0 n1 hlt h1 hfit (Or.inr (fun hc => by have := hc.2; have := Hb.out; omega))
              have hown1 := Gr.owns hGz hown
              have hGw := hgr.step hGz
              have hlen := len_cov (s := lo) (e := hi + 1) (by omega)
              rw [← hpre, List.length_append] at hlen
              rw [cov_step hlt, ← hf] at hpre
              rw [cov_step hlt] at hlen
              simp only [List.length_cons] at hlen
              clear c2
              generalize grow (redrawn wr dq) osq = w1 at *
              obtain ⟨ti, tz, hi1, hi2, hi3, hi4, hi5⟩ := prefInfo
              have e32 : ((32 - (32 - n.toNat) : Nat) : Int) = n := by omega
              have hnews : ∀ j u, (encE (s, 32 - n.toNat))[j]? = some u → (w1.alloc (.cells #[.int .u32 s, .int .i64 n] 25)).cell? ((⟨w1.heap.size, 0, none⟩ : Addr).add j) = some u := by
                intro j u hj
                match j, hj with
                | 0, hj => simp [encE] at hj; subst hj; simp [Addr.add]
                | 1, hj => simp only [encE, e32] at hj; simp at hj; subst hj; simp [Addr.add]
              have s32 : (s : Int) < 4294967296 := by omega
              have s00 : (0 : Int) ≤ (s : Int) := by omega
              have z1 := sz_pos n
              have z2 := sz_le n
              have hbase : Wa.heap.size ≤ (w1.alloc (.cells #[.int .u32 s, .int .i64 n] 25)).heap.size := by have := Gr.size hgr; have := Gr.size hGz; simp; omega
              have h62 : pre.length + 1 ≤ maxLen := by unfold maxLen; omega
              have h63 : (pre.length + 1) * 16 ≤ 140737488355328 := by omega
              have hown3 := hown1.alloc (.cells #[.int .u32 s, .int .i64 n] 25)
              clear hown1 hlen hGw
              go_wp2_with (first
                | (go_at_call 51; refine (size_any n _ n0 n1).mono ?_; rintro q w3 ⟨rfl, rfl⟩)
                | (at_builtin; refine wpList_append_own_at _ rfl _ _ 47 rfl Wa.heap.size 25 ti tz 2 16 Tryd.underlying47 hi1 hi2 hi3 hi4 hi5 (by decide) _ _ _ rfl hown3 ⟨w1.heap.size, 0, none⟩ 1 1 (encE (s, 32 - n.toNat)) rfl rfl hnews (oneE _) h62 h63 hbase ?_; intro v' w2 hown2 hgrow hnil hloc))
              case roundEnd =>
                have es : (s : Int) + sz n = ((s + 2 ^ (32 - n.toNat) : Nat) : Int) := by rw [Int.natCast_add]; rfl
                have hp2 := Nat.pow_pos (n := 32 - n.toNat) (show 0 < 2 by omega)
                have hfit2 := hfit.2
                rw [es] at hfit2 ⊢
                generalize 2 ^ (32 - n.toNat) = pw at *
                refine ⟨⟨s + pw, pre ++ [(s, 32 - n.toNat)], rfl, by omega, ?_, ?_, ?_⟩, ?_⟩
                · rw [List.append_assoc]; exact hpre
                · rw [List.length_append, List.flatMap_append]; simpa using hown2
                · exact Gr.grown (by repeat' (first | (with_reducible exact Gr.refl _) | (with_reducible assumption) | (with_reducible refine Gr.drewN ?_ _) | (with_reducible refine Gr.drew ?_) | (with_reducible refine Gr.alloc ?_ _) | (with_reducible refine Gr.setCell ?_ ?_ _) | (with_reducible refine Gr.grow ?_ _ _) | (refine Gr.step ?_ (by with_reducible assumption)) | go_size)) hgrow (fun k hk => (hown.lt k hk).1)
                · simp only [intOf]; omega
          · have m1 : ((s : Int) % sz (n - 1) == 0) = false := by simpa using hm
            go_wp2_with fail
            refine wp_region_quiet_below (by kernel_rfl) (by kernel_rfl) ?_
            repeat (any_goals (first | go_big_quiet_step (first | (go_at_call 51; exact Calls.gr_same (size_any _ _ g0 g1))) | quiet_step (first | (go_at_call 51; exact Calls.gr_same (size_any _ _ g0 g1)))))
            refine wpQuiet_nil ?_
            intro _ hw'
            obtain ⟨⟨dq, osq⟩, hw''⟩ := hw'
            subst hw''
            have hGz : Gr wo (grow (redrawn wr dq) osq) := (by repeat' (first | (with_reducible exact Gr.refl _) | (with_reducible assumption) | (with_reducible refine Gr.drewN ?_ _) | (with_reducible refine Gr.drew ?_) | (with_reducible refine Gr.alloc ?_ _) | (with_reducible refine Gr.setCell ?_ ?_ _) | (with_reducible refine Gr.grow ?_ _ _) | (refine Gr.step ?_ (by with_reducible assumption)) | go_size))
            have hf := best_sz s hi n n0 n1 hlt h1 hfit (Or.inr (fun hc => hm hc.1))
            have hown1 := Gr.owns hGz hown
            have hGw := hgr.step hGz
            have hlen := len_cov (s := lo) (e := hi + 1) (by omega)
            rw [← hpre, List.length_append] at hlen
            rw [cov_step hlt, ← hf] at hpre
            rw [cov_step hlt] at hlen
            simp only [List.length_cons] at hlen
            clear c2
            generalize grow (redrawn wr dq) osq = w1 at *
            obtain ⟨ti, tz, hi1, hi2, hi3, hi4, hi5⟩ := prefInfo
            have e32 : ((32 - (32 - n.toNat) : Nat) : Int) = n := by omega
            have hnews : ∀ j u, (encE (s, 32 - n.toNat))[j]? = some u → (w1.alloc (.cells #[.int .u32 s, .int .i64 n] 25)).cell? ((⟨w1.heap.size, 0, none⟩ : Addr).add j) = some u := by
              intro j u hj
              match j, hj with
              | 0, hj => simp [encE] at hj; subst hj; simp [Addr.add]
              | 1, hj => simp only [encE, e32] at hj; simp at hj; subst hj; simp [Addr.add]
            have s32 : (s : Int) < 4294967296 := by omega
            have s00 : (0 : Int) ≤ (s : Int) := by omega
            have z1 := sz_pos n
            have z2 := sz_le n
            have hbase : Wa.heap.size ≤ (w1.alloc (.cells #[.int .u32 s, .int .i64 n] 25)).heap.size := by have := Gr.size hgr; have := Gr.size hGz; simp; omega
            have h62 : pre.length + 1 ≤ maxLen := by unfold maxLen; omega
            have h63 : (pre.length + 1) * 16 ≤ 140737488355328 := by omega
            have hown3 := hown1.alloc (.cells #[.int .u32 s, .int .i64 n] 25)
            clear hown1 hlen hGw
            go_wp2_with (first
              | (go_at_call 51; refine (size_any n _ n0 n1).mono ?_; rintro q w3 ⟨rfl, rfl⟩)
              | (at_builtin; refine wpList_append_own_at _ rfl _ _ 47 rfl Wa.heap.size 25 ti tz 2 16 Tryd.underlying47 hi1 hi2 hi3 hi4 hi5 (by decide) _ _ _ rfl hown3 ⟨w1.heap.size, 0, none⟩ 1 1 (encE (s, 32 - n.toNat)) rfl rfl hnews (oneE _) h62 h63 hbase ?_; intro v' w2 hown2 hgrow hnil hloc))
            case roundEnd =>
              have es : (s : Int) + sz n = ((s + 2 ^ (32 - n.toNat) : Nat) : Int) := by rw [Int.natCast_add]; rfl
              have hp2 := Nat.pow_pos (n := 32 - n.toNat) (show 0 < 2 by omega)
              have hfit2 := hfit.2
              rw [es] at hfit2 ⊢
              generalize 2 ^ (32 - n.toNat) = pw at *
              refine ⟨⟨s + pw, pre ++ [(s, 32 - n.toNat)], rfl, by omega, ?_, ?_, ?_⟩, ?_⟩
              · rw [List.append_assoc]; exact hpre
              · rw [List.length_append, List.flatMap_append]; simpa using hown2
              · exact Gr.grown (by repeat' (first | (with_reducible exact Gr.refl _) | (with_reducible assumption) | (with_reducible refine Gr.drewN ?_ _) | (with_reducible refine Gr.drew ?_) | (with_reducible refine Gr.alloc ?_ _) | (with_reducible refine Gr.setCell ?_ ?_ _) | (with_reducible refine Gr.grow ?_ _ _) | (refine Gr.step ?_ (by with_reducible assumption)) | go_size)) hgrow (fun k hk => (hown.lt k hk).1)
              · simp only [intOf]; omega
        · have hd : decide (0 < n) = false := by simpa using hn
          go_wp2_with fail
          refine wp_region_quiet_below (by kernel_rfl) (by kernel_rfl) ?_
          repeat (any_goals (first | go_big_quiet_step (fail) | quiet_step (fail)))
          refine wpQuiet_nil ?_
          intro _ hw'
          obtain ⟨⟨dq, osq⟩, hw''⟩ := hw'
          subst hw''
          have hGz : Gr wo (grow (redrawn wr dq) osq) := (by repeat' (first | (with_reducible exact Gr.refl _) | (with_reducible assumption) | (with_reducible refine Gr.drewN ?_ _) | (with_reducible refine Gr.drew ?_) | (with_reducible refine Gr.alloc ?_ _) | (with_reducible refine Gr.setCell ?_ ?_ _) | (with_reducible refine Gr.grow ?_ _ _) | (refine Gr.step ?_ (by with_reducible assumption)) | go_size))
          have hf := best_sz s hi n n0 n1 hlt h1 hfit (Or.inl (by omega))
          have hown1 := Gr.owns hGz hown
          have hGw := hgr.step hGz
          have hlen := len_cov (s := lo) (e := hi + 1) (by omega)
          rw [← hpre, List.length_append] at hlen
          rw [cov_step hlt, ← hf] at hpre
          rw [cov_step hlt] at hlen
          simp only [List.length_cons] at hlen
          clear c2
          generalize grow (redrawn wr dq) osq = w1 at *
          obtain ⟨ti, tz, hi1, hi2, hi3, hi4, hi5⟩ := prefInfo
          have e32 : ((32 - (32 - n.toNat) : Nat) : Int) = n := by omega
          have hnews : ∀ j u, (encE (s, 32 - n.toNat))[j]? = some u → (w1.alloc (.cells #[.int .u32 s, .int .i64 n] 25)).cell? ((⟨w1.heap.size, 0, none⟩ : Addr).add j) = some u := by
            intro j u hj
            match j, hj with
            | 0, hj => simp [encE] at hj; subst hj; simp [Addr.add]
            | 1, hj => simp only [encE, e32] at hj; simp at hj; subst hj; simp [Addr.add]
          have s32 : (s : Int) < 4294967296 := by omega
          have s00 : (0 : Int) ≤ (s : Int) := by omega
          have z1 := sz_pos n
          have z2 := sz_le n
          have hbase : Wa.heap.size ≤ (w1.alloc (.cells #[.int .u32 s, .int .i64 n] 25)).heap.size := by have := Gr.size hgr; have := Gr.size hGz; simp; omega
          have h62 : pre.length + 1 ≤ maxLen := by unfold maxLen; omega
          have h63 : (pre.length + 1) * 16 ≤ 140737488355328 := by omega
          have hown3 := hown1.alloc (.cells #[.int .u32 s, .int .i64 n] 25)
          clear hown1 hlen hGw
          go_wp2_with (first
            | (go_at_call 51; refine (size_any n _ n0 n1).mono ?_; rintro q w3 ⟨rfl, rfl⟩)
            | (at_builtin; refine wpList_append_own_at _ rfl _ _ 47 rfl Wa.heap.size 25 ti tz 2 16 Tryd.underlying47 hi1 hi2 hi3 hi4 hi5 (by decide) _ _ _ rfl hown3 ⟨w1.heap.size, 0, none⟩ 1 1 (encE (s, 32 - n.toNat)) rfl rfl hnews (oneE _) h62 h63 hbase ?_; intro v' w2 hown2 hgrow hnil hloc))
          case roundEnd =>
            have es : (s : Int) + sz n = ((s + 2 ^ (32 - n.toNat) : Nat) : Int) := by rw [Int.natCast_add]; rfl
            have hp2 := Nat.pow_pos (n := 32 - n.toNat) (show 0 < 2 by omega)
            have hfit2 := hfit.2
            rw [es] at hfit2 ⊢
            generalize 2 ^ (32 - n.toNat) = pw at *
            refine ⟨⟨s + pw, pre ++ [(s, 32 - n.toNat)], rfl, by omega, ?_, ?_, ?_⟩, ?_⟩
            · rw [List.append_assoc]; exact hpre
            · rw [List.length_append, List.flatMap_append]; simpa using hown2
            · exact Gr.grown (by repeat' (first | (with_reducible exact Gr.refl _) | (with_reducible assumption) | (with_reducible refine Gr.drewN ?_ _) | (with_reducible refine Gr.drew ?_) | (with_reducible refine Gr.alloc ?_ _) | (with_reducible refine Gr.setCell ?_ ?_ _) | (with_reducible refine Gr.grow ?_ _ _) | (refine Gr.step ?_ (by with_reducible assumption)) | go_size)) hgrow (fun k hk => (hown.lt k hk).1)
            · simp only [intOf]; omega
    · have s0 : ¬ ((s : Int) ≤ (hi : Int)) := by omega
      go_wp2_with fail
      rw [cov_done hlt, List.append_nil] at hpre
      subst hpre
      go_ret
      exact ⟨_, rfl, ownsRow_base (Gr.size hGa) hown, hGa.step hgr⟩
end Go.Proofs.YtamemancjodefaaDoor
