/- largest: the number of free bits of the largest prefix that begins at a place. -/
import Derived.Test.YtoaboflepfmkpaaDoorCom
import Derived.Test.YtoaboflepfmkpaaDoorCovMath
import Derived.WalkKit
import Derived.WalkSpells
import Derived.WalkLawsBesides
import Derived.WalkSmall
import Derived.Handy
import Derived.BigQuiet
import Derived.Deep.QuietTactic
import Derived.Deep.RegionHeld3
import Derived.Deep.DeepFit
import Derived.Below
import Derived.Lib.Hide
import Derived.Lib.QuietBelow
import Derived.Shelf.Spec.TrailingZeros
namespace Go.Proofs.YtoaboflepfmkpaaDoor
open Go Go.RowKit Go.Sort
set_option maxRecDepth 100000
set_option linter.unusedVariables false

/-- the table that TrailingZeros64 reads is as it was laid -/
def TzTab (w : World) : Prop := ∀ j, j < 64 → w.cell? ⟨5, j, none⟩ = some (.int .u8 (Lib.deBruijn64tab.getD j 0))
theorem TzTab.gr {w w' : World} (h : TzTab w) (g : Gr w w') : TzTab w' := by
  intro j hj
  rw [(Gr.cells g).1 _ _ (World.block_lt_of_cell? _ _ (h j hj))]; exact h j hj
set_option maxHeartbeats 1000000 in
theorem tz_core (x k idx : Nat) (w : World) (hx0 : ((x : Int) == 0) = false)
    (key : IntKind.u64.wrap (bits BinOp.and IntKind.u64 (x : Int) (IntKind.u64.wrap (-(x : Int))) * 285870213051353865) / 288230376151711744 = (idx : Int))
    (hi : idx < 64) (hk : k < 64) (hcell : w.cell? ⟨5, idx, none⟩ = some (.int .u8 k)) :
    Calls Tryd.prog 116 #[.int .u64 x] w fun e w' => e = .returned (.int .i64 k) ∧ Gr w w' := by
  go_enter Tryd.func116, Tryd.ntmps116
  go_wp2_with (simp only [key])
  go_ret
  exact ⟨rfl, Gr.refl _⟩
theorem tz_zero (w : World) : Calls Tryd.prog 116 #[.int .u64 0] w fun e w' => e = .returned (.int .i64 64) ∧ Gr w w' := by
  go_enter Tryd.func116, Tryd.ntmps116
  go_wp2
  go_ret
  exact ⟨rfl, Gr.refl _⟩
theorem tz_any (x : Nat) (hx : x < 18446744073709551616) (w : World) (hT : TzTab w) :
    Calls Tryd.prog 116 #[.int .u64 x] w fun e w' => e = .returned (.int .i64 (Lib.ctz 64 x)) ∧ Gr w w' := by
  by_cases hx0 : x = 0
  · subst hx0
    exact tz_zero w
  · obtain ⟨hlow, hk⟩ := Lib.lowest_bit 64 x hx0 hx
    obtain ⟨hi, htab⟩ := Lib.deBruijn64_at _ hk
    have hcell := hT _ hi
    rw [htab] at hcell
    exact tz_core x _ _ w (by simp; omega) (tz64_key x _ hx hx0 hlow) hi hk hcell
theorem dvd_ctz (s f : Nat) (hs : s < 2 ^ 32) (hf : f ≤ 33) : 2 ^ f ∣ s ↔ f ≤ Lib.ctz 64 s := by
  by_cases h0 : s = 0
  · subst h0; simp [Lib.ctz]; omega
  · have e : Lib.ctz 64 s = Lib.ctzFrom 64 s := by simp [Lib.ctz, h0]
    obtain ⟨m, hm, hk⟩ := Lib.ctzFrom_spec 64 s (by omega) (by omega)
    rw [e]
    generalize Lib.ctzFrom 64 s = c at *
    constructor
    · intro hd
      apply Decidable.byContradiction; intro hc
      have h1 : 2 ^ (c + 1) ∣ s := Nat.dvd_trans (Nat.pow_dvd_pow 2 (by omega)) hd
      rw [hm, Nat.pow_succ] at h1
      have := Nat.dvd_of_mul_dvd_mul_left (Nat.pow_pos (by omega)) h1
      omega
    · intro hc
      rw [hm]; exact Nat.dvd_trans (Nat.pow_dvd_pow 2 hc) (Nat.dvd_mul_right _ _)
theorem len_lt (r f : Nat) (hr : r < 2 ^ 64) : 2 ^ f ≤ r ↔ f < Lib.bitLen r := by
  have := bitLenAux_iff 64 r f hr
  unfold Lib.bitLen; omega
theorem fits_iff (s e f : Nat) (h : s < e) (he : e ≤ 2 ^ 32) (hf : f ≤ 33) : fits s e f ↔ f ≤ Lib.ctz 64 s ∧ f < Lib.bitLen (e - s) := by
  unfold fits
  rw [dvd_ctz s f (by omega) hf, ← len_lt (e - s) f (by omega)]
  omega
theorem best_min (s e : Nat) (h : s < e) (he : e ≤ 2 ^ 32) : best s e = min 32 (min (Lib.ctz 64 s) (Lib.bitLen (e - s) - 1)) := by
  have hl : 0 < Lib.bitLen (e - s) := (len_lt (e - s) 0 (by omega)).1 (by simp; omega)
  refine (best_unique h he ?_ ?_).symm
  · rw [fits_iff s e _ h he (by omega)]; omega
  · intro hc
    rw [fits_iff s e _ h he (by omega)] at hc
    have : min 32 (min (Lib.ctz 64 s) (Lib.bitLen (e - s) - 1)) = 32 := by omega
    have h33 := (fits_iff s e _ h he (by omega)).2 hc
    rw [this] at h33
    have := h33.2
    omega
end Go.Proofs.YtoaboflepfmkpaaDoor
