/- The sanity check at the beginning of each statement. -/
import Derived.Test.YtoaboflepfmkpaaDoorFormat
import Derived.WalkKit
import Derived.WalkSpells
import Derived.WalkLawsBesides
import Derived.WalkSmall
import Derived.Handy
import Derived.BigQuiet
import Derived.Deep.QuietTactic
import Derived.Deep.RegionHeld3
import Derived.Deep.DeepFit
import Derived.Below
import Derived.Lib.Hide
import Derived.Lib.QuietBelow
namespace Go.Proofs.YtoaboflepfmkpaaDoor
open Go Go.RowKit Go.Sort
set_option maxRecDepth 100000
set_option linter.unusedVariables false

theorem ten : str [49, 48, 46, 48, 46, 48, 46, 49] = ⟨#[49, 48, 46, 48, 46, 48, 46, 49]⟩ := rfl
theorem ten_par : parV [49, 48, 46, 48, 46, 48, 46, 49] = 167772161 ∧ parE [49, 48, 46, 48, 46, 48, 46, 49] = 0 := by decide +kernel
theorem ten_fmt : fmtA 167772161 = [49, 48, 46, 48, 46, 48, 46, 49] := by decide +kernel
theorem awake_parse (w : World) : Calls Tryd.prog 18 #[.string ⟨#[49, 48, 46, 48, 46, 48, 46, 49]⟩] w fun e w' => e = .returned (.tuple #[.int .u32 167772161, .int .i64 0]) ∧ Gr w w' := by
  have h := parse_any ⟨#[49, 48, 46, 48, 46, 48, 46, 49]⟩ w (by decide)
  have e := ten_par
  rw [show (⟨#[49, 48, 46, 48, 46, 48, 46, 49]⟩ : ByteArray).data.toList = [49, 48, 46, 48, 46, 48, 46, 49] by rfl, e.1, e.2] at h
  exact h
theorem awake_format (w : World) (ht : Tab w) : Calls Tryd.prog 15 #[.int .u32 167772161] w fun e w' => e = .returned (.string ⟨#[49, 48, 46, 48, 46, 48, 46, 49]⟩) ∧ Gr w w' := by
  have h := format_any 167772161 w (by omega) (by omega) ht
  rw [ten_fmt] at h
  exact h
theorem awake_any (w : World) (ht : Tab w) : Calls Tryd.prog 12 #[] w fun e w' => e = .returned (.bool true) ∧ Gr w w' := by
  have Ht := Lib.hid ht
  clear ht
  go_enter Tryd.func12, Tryd.ntmps12
  go_wp2_with (first
    | (go_at_call 18; refine (awake_parse _).mono ?_; rintro e w1 ⟨rfl, hg1⟩)
    | (go_at_call 15; refine (awake_format _ ?_).mono ?_; (exact Tab.gr Ht.out (by repeat' (first | (with_reducible exact Gr.refl _) | (with_reducible assumption) | (with_reducible refine Gr.drewN ?_ _) | (with_reducible refine Gr.drew ?_) | (with_reducible refine Gr.alloc ?_ _) | (with_reducible refine Gr.setCell ?_ ?_ _) | (with_reducible refine Gr.grow ?_ _ _) | (refine Gr.step ?_ (by with_reducible assumption)) | go_size))); rintro e w2 ⟨rfl, hg2⟩))
  go_ret
  exact ⟨rfl, (by repeat' (first | (with_reducible exact Gr.refl _) | (with_reducible assumption) | (with_reducible refine Gr.drewN ?_ _) | (with_reducible refine Gr.drew ?_) | (with_reducible refine Gr.alloc ?_ _) | (with_reducible refine Gr.setCell ?_ ?_ _) | (with_reducible refine Gr.grow ?_ _ _) | (refine Gr.step ?_ (by with_reducible assumption)) | go_size))⟩
end Go.Proofs.YtoaboflepfmkpaaDoor
