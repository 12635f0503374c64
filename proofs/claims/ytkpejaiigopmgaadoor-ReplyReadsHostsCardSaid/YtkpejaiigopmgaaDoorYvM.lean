/- The sanity check of the statements on answers. -/
import Derived.Test.YtkpejaiigopmgaaDoorYrM
import Derived.Test.YtkpejaiigopmgaaDoorYiM
import Derived.Test.YtkpejaiigopmgaaDoorYuM
import Derived.Test.YtkpejaiigopmgaaDoorGN
import Derived.WalkKit
import Derived.WalkSpells
import Derived.WalkLawsBesides
import Derived.WalkSmall
import Derived.Handy
import Derived.BigQuiet
import Derived.Deep.QuietTactic
import Derived.Deep.RegionHeld3
import Derived.Deep.DeepFit
import Derived.Below
import Derived.Lib.Hide
import Derived.Lib.QuietBelow
namespace Go.Proofs.YtkpejaiigopmgaaDoor
open Go Go.RowKit Go.Sort
set_option maxRecDepth 100000
set_option linter.unusedVariables false
set_option linter.unusedSimpArgs false
theorem SpTab.ex {w w' : World} {b : Nat} (h : SpTab w) (g : Ex b w w') (hb : 0 ≠ b) : SpTab w' := by
  obtain ⟨t, fr, h⟩ := h
  have hl : 0 < w.heap.size := by
    apply Decidable.byContradiction; intro hc
    rw [Array.getElem?_eq_none (by omega)] at h; cases h
  exact ⟨t, fr, by rw [g.block _ hb hl]; exact h⟩
def P0 : Pr := ⟨167772160, 167772161, 17, 0, 5, 2⟩
theorem P0_ok : P0.ok := ⟨by decide, by decide, by decide, by decide, by decide, by decide, by decide⟩
theorem P0_usb : usb P0.src := .inr (by decide)
set_option maxHeartbeats 1000000 in
theorem awake_any (w : World) (ht : SpTab w) :
    Calls Tryd.prog 5 #[] w fun e w' => e = .returned (.bool true) ∧ Gr w w' := by
  have k := P0_ok
  have hA : (ans 1 9 64 167772162 P0.src).ok := ans_ok (by decide) (by decide) (by decide) (by decide) (by decide)
  have HB := Lib.hid (fun w => rbuild_ok P0 k w)
  have HE := Lib.hid (fun (v : Value) (w' : World) (hr : Rb (fun _ => True) w' v P0.pk) (ht : SpTab w') => (show Calls Tryd.prog 10 #[v, .int .u32 167772162, .int .i64 11, .int .i64 0, .int .i64 9, .int .i64 64] w' fun e w'' => ∃ v', e = .returned (.tuple #[v', .int .i64 0]) ∧ OwB w'.heap.size w'' v' (errL P0 167772162 11 0 9 64) ∧ Gr w' w'' from
    rerr_ok (h := P0.hd) (d := P0.data) 167772162 11 0 9 64 w' (Pr.hd_ok k) hr (by have := (Pr.data_at k).2.1; omega) (by have := (Pr.data_at k).1; omega) ht P0_usb (Pr.answ k) hA (.inr rfl) (by decide)))
  have HR := Lib.hid (fun (v : Value) (w' : World) (hr : Rb (fun _ => True) w' v (errL P0 167772162 11 0 9 64)) => (show Calls Tryd.prog 12 #[v] w' fun e w'' => e = .returned (.tuple #[.agg #[.int .u32 167772160, .int .u32 167772161, .int .i64 17, .int .i64 0, .int .i64 5, .int .i64 0], .agg #[.int .u32 167772162, .int .i64 1, .int .i64 0, .int .i64 64, .int .i64 9, .int .i64 2], .int .i64 0]) ∧ Gr w' w'' from
    read_note (ans 1 9 64 167772162 P0.src) P0 11 0 w' hA k rfl rfl hr (.inr rfl) (by decide) 1 rfl))
  have hl : (errL P0 167772162 11 0 9 64).length = 56 := by unfold errL; rw [enc_len, nt_len k]
  rw [show P0.v = .agg #[.int .u32 167772160, .int .u32 167772161, .int .i64 17, .int .i64 0, .int .i64 5, .int .i64 2] from rfl] at HB
  generalize errL P0 167772162 11 0 9 64 = X at *
  clear hA k
  go_enter Tryd.func5, Tryd.ntmps5
  go_wp2_with fail
  refine (HB.out _).mono ?_
  rintro e w1 ⟨v1, rfl, ho, hg⟩
  have HE1 := Lib.hid (HE.out v1 w1 ho.rb.any (ht.gr hg))
  obtain ⟨a1, c1, rfl, -, -⟩ := ho.rb.form
  generalize P0.pk.length = N1 at *
  clear ho HB HE ht
  go_wp2_with fail
  refine HE1.out.mono ?_
  rintro e w2 ⟨v2, rfl, ho, hg2⟩
  have HR1 := Lib.hid (HR.out v2 w2 ho.rb.any)
  obtain ⟨a2, c2, rfl, -, -⟩ := ho.rb.form
  rw [hl] at HR1 ⊢
  replace hg := hg.step hg2
  clear ho HE1 HR hg2
  go_wp2_with fail
  refine HR1.out.mono ?_
  rintro e w3 ⟨rfl, hg3⟩
  replace hg := hg.step hg3
  go_wp2_with fail
  go_ret
  exact ⟨rfl, (hg.alloc _).alloc _⟩
end Go.Proofs.YtkpejaiigopmgaaDoor
