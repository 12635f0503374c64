/- Cover, the landed one: the list that it returns. -/
import Derived.Test.YtamemancjodefaaDoorCovLeaf
import Derived.WalkKit
import Derived.WalkSpells
import Derived.WalkLawsBesides
import Derived.WalkSmall
import Derived.Handy
import Derived.BigQuiet
import Derived.Deep.QuietTactic
import Derived.Deep.RegionHeld3
import Derived.Deep.DeepFit
import Derived.Below
import Derived.Lib.Hide
import Derived.Lib.QuietBelow
import Derived.Maps.AppendAt
import Derived.Laws.OwnMore
import Derived.Deep.DeepCutAuto
namespace Go.Proofs.YtamemancjodefaaDoor
open Go Go.RowKit Go.Sort
set_option maxRecDepth 100000

def encE (x : Nat × Nat) : List Value := [.int .u32 x.1, .int .i64 ((32 - x.2 : Nat) : Int)]
theorem Gr.owns {w w' : World} {base : Nat} {e : TypeId} {size : Nat} {v : Value} {n : Nat} {xs : List Value} (g : Gr w w') (h : w.ownsRow base e size v n xs) : w'.ownsRow base e size v n xs :=
  h.kept (row := none) ⟨Below.os g, Below.tape g, Below.output g, Gr.size g, fun k hk _ => Below.block g k hk⟩ (Decidable.em _)
theorem Gr.grown {u v w : World} {row : Option Nat} (h : Gr u v) (g : v.grownBy w row) (hr : ∀ k, row = some k → u.heap.size ≤ k) : Gr u w :=
  ⟨g.os.trans (Below.os h), g.tape.trans (Below.tape h), g.output.trans (Below.output h), Nat.le_trans (Below.size h) g.size, fun j hj => (g.block j (Nat.lt_of_lt_of_le hj (Below.size h)) (fun hc => by have := hr j hc.symm; omega)).trans (Below.block h j hj)⟩
theorem cov_sum (s f hi : Nat) (h : s + 2 ^ f ≤ hi + 1) (hh : hi < 2 ^ 32) : IntKind.u64.wrap ((s : Int) + IntKind.u64.wrap (2 ^ f)) = ((s + 2 ^ f : Nat) : Int) := by
  have hp : (2 : Int) ^ f = ((2 ^ f : Nat) : Int) := by simp
  rw [hp, IntKind.wrap_u64, IntKind.wrap_u64]
  clear hp
  generalize 2 ^ f = q at *
  omega
theorem prefInfo : ∃ i z, Tryd.prog.info? 25 = some i ∧ i.zero = some z ∧ i.size = 2 ∧ i.bytes = 16 ∧ z.cells.size = 2 := by
  have h : (match Tryd.prog.info? 25 with | some i => (match i.zero with | some z => i.size == 2 && i.bytes == 16 && z.cells.size == 2 | none => false) | none => false) = true := by kernel_rfl
  cases h1 : Tryd.prog.info? 25 with
  | none => rw [h1] at h; cases h
  | some i =>
    rw [h1] at h
    cases h2 : i.zero with
    | none => simp only [h2] at h; cases h
    | some z =>
      simp only [h2, Bool.and_eq_true, beq_iff_eq] at h
      exact ⟨i, z, rfl, h2, h.1.1, h.1.2, h.2⟩
theorem oneE (x : Nat × Nat) : ∀ u ∈ encE x, u.oneCell' = true := by
  intro u hu
  simp [encE] at hu
  rcases hu with rfl | rfl <;> rfl
theorem best_lt {s e : Nat} (h : s < e) (he : e ≤ 2 ^ 32) : best s e ≤ 32 ∧ s + 2 ^ best s e ≤ e ∧ 0 < 2 ^ best s e := by
  have ⟨⟨_, a⟩, b, _⟩ := best_spec h he
  exact ⟨b, a, Nat.pow_pos (by omega)⟩
set_option maxHeartbeats 1000000 in
theorem cover_any (lo hi : Nat) (w : World) (h0 : lo < 2 ^ 32) (h1 : hi < 2 ^ 32) (hT : TzTab w) :
    Calls Tryd.prog 37 #[.agg #[.int .u32 lo, .int .u32 hi]] w fun e w' => ∃ v, e = .returned v ∧ w'.ownsRow w.heap.size 25 2 v (cov lo (hi + 1)).length ((cov lo (hi + 1)).flatMap encE) ∧ Gr w w' := by
  have HT := Lib.hid hT
  obtain ⟨b0, b1⟩ := two_cells w (.int .u32 lo) (.int .u32 hi) 49
  have l1 : (lo : Int) < 4294967296 := by omega
  have l2 : (hi : Int) < 4294967296 := by omega
  clear hT
  go_enter Tryd.func37, Tryd.ntmps37
  go_wp2_with fail
  refine wp_region_quiet_below (by kernel_rfl) (by kernel_rfl) ?_
  repeat (any_goals (first | go_big_quiet_step (fail) | quiet_step (fail)))
  refine wpQuiet_nil ?_
  intro _ hw'
  obtain ⟨⟨dq, osq⟩, hw''⟩ := hw'
  subst hw''
  have hGa : Gr w (grow (redrawn (w.alloc (.cells #[.int .u32 lo, .int .u32 hi] 49)) dq) osq) := (by repeat' (first | (with_reducible exact Gr.refl _) | (with_reducible assumption) | (with_reducible refine Gr.drewN ?_ _) | (with_reducible refine Gr.drew ?_) | (with_reducible refine Gr.alloc ?_ _) | (with_reducible refine Gr.setCell ?_ ?_ _) | (with_reducible refine Gr.grow ?_ _ _) | (refine Gr.step ?_ (by with_reducible assumption)) | go_size))
  go_wp2_with fail
  generalize grow (redrawn (w.alloc (.cells #[.int .u32 lo, .int .u32 hi] 49)) dq) osq = Wa at *
  clear b0 b1
  go_loopw [3, 4] (fun v nx wr => ∃ (s : Nat) (pre : List (Nat × Nat)), nx = .int .u64 s ∧ s ≤ 4294967296 ∧ pre ++ cov s (hi + 1) = cov lo (hi + 1) ∧ wr.ownsRow w.heap.size 25 2 v pre.length (pre.flatMap encE) ∧ Gr w wr) (fun _ nx _ => 4294967296 - (intOf nx).toNat)
  case atStart => exact ⟨lo, [], rfl, by omega, rfl, World.ownsRow_nil _ _ _ _, hGa⟩
  case round =>
    obtain ⟨s, pre, rfl, hs, hpre, hown, hgr⟩ := hrel
    by_cases hlt : s < hi + 1
    · have c1 := largest_any s (hi + 1) wr hlt (by omega) (HT.out.gr hgr)
      rw [show (((hi + 1 - s : Nat)) : Int) = (hi : Int) + 1 - s by omega] at c1
      have ⟨f1, f2, f3⟩ := best_lt hlt (by omega)
      have hlen := len_cov (s := lo) (e := hi + 1) (by omega)
      rw [← hpre, List.length_append] at hlen
      rw [cov_step hlt] at hpre
      generalize best s (hi + 1) = f at *
      have C1 := Lib.hid c1
      have s0 : (s : Int) < (hi : Int) + 1 := by omega
      clear c1
      go_wp2_with fail
      refine C1.out.mono ?_
      rintro q w1 ⟨rfl, hg1⟩
      have hown1 : w1.ownsRow w.heap.size 25 2 _ pre.length (pre.flatMap encE) := Gr.owns hg1 hown
      obtain ⟨ti, tz, hi1, hi2, hi3, hi4, hi5⟩ := prefInfo
      have hnews : ∀ j u, (encE (s, f))[j]? = some u → (w1.alloc (.cells #[.int .u32 s, .int .i64 ((32 - f : Nat) : Int)] 25)).cell? ((⟨w1.heap.size, 0, none⟩ : Addr).add j) = some u := by
        intro j u hj
        match j, hj with
        | 0, hj => simp [encE] at hj; subst hj; simp [Addr.add]
        | 1, hj => simp [encE] at hj; subst hj; simp [Addr.add]
      have e32 : ((32 - f : Nat) : Int) = 32 - (f : Int) := by omega
      rw [e32] at hnews
      have s32 : (s : Int) < 4294967296 := by omega
      have f0 : (0 : Int) ≤ (f : Int) := by omega
      have f32 : (f : Int) ≤ 32 := by omega
      go_wp2_with (at_builtin; refine wpList_append_own_at _ rfl _ _ 47 rfl w.heap.size 25 ti tz 2 16 Tryd.underlying47 hi1 hi2 hi3 hi4 hi5 (by decide) _ _ _ rfl (hown1.alloc _) ⟨w1.heap.size, 0, none⟩ 1 1 (encE (s, f)) rfl rfl hnews (oneE _) (by unfold maxLen; omega) (by omega) (by have := Gr.size hgr; have := Gr.size hg1; simp; omega) ?_; intro v' w2 hown2 hgrow hnil hloc)
      case roundEnd =>
        rw [cov_sum s f hi f2 h1]
        refine ⟨⟨s + 2 ^ f, pre ++ [(s, f)], rfl, by omega, ?_, ?_, ?_⟩, ?_⟩
        · rw [List.append_assoc]; exact hpre
        · rw [List.length_append, List.flatMap_append]; simpa using hown2
        · exact Gr.grown (by repeat' (first | (with_reducible exact Gr.refl _) | (with_reducible assumption) | (with_reducible refine Gr.drewN ?_ _) | (with_reducible refine Gr.drew ?_) | (with_reducible refine Gr.alloc ?_ _) | (with_reducible refine Gr.setCell ?_ ?_ _) | (with_reducible refine Gr.grow ?_ _ _) | (refine Gr.step ?_ (by with_reducible assumption)) | go_size)) hgrow (fun k hk => (hown.lt k hk).1)
        · simp only [intOf]; omega
    · have s0 : ¬ ((s : Int) < (hi : Int) + 1) := by omega
      go_wp2_with fail
      rw [cov_done hlt, List.append_nil] at hpre
      subst hpre
      go_ret
      exact ⟨_, rfl, hown, hgr⟩
end Go.Proofs.YtamemancjodefaaDoor
