/- The draw of an int. -/
import Derived.Test.YtlkhdbgknkjioaaDraw
import Derived.WalkKit
import Derived.WalkSpells
import Derived.WalkLawsBesides
import Derived.WalkSmall
import Derived.Handy
import Derived.BigQuiet
import Derived.Deep.QuietTactic
import Derived.Deep.RegionHeld3
import Derived.Deep.DeepFit
import Derived.Below
import Derived.Lib.Hide
import Derived.Lib.QuietBelow
namespace Go.Proofs.Ytlkhdbgknkjioaa
open Go Go.RowKit Go.Sort
set_option maxRecDepth 100000
set_option linter.unusedVariables false
def InPost (B b : Nat) (w : World) (e : Ending) (w' : World) : Prop := ∃ x : Int, e = .returned (.int .i64 x) ∧ -9223372036854775808 ≤ x ∧ x ≤ 9223372036854775807 ∧ Cod B w' b ∧ Ex b w w'
theorem edge_at (w : World) (T : TypeId) (z : Nat) (hz : z < 14) : ∃ y : Int, (-9223372036854775808 ≤ y ∧ y ≤ 9223372036854775807) ∧
    (w.alloc (.cells #[.int .i64 9223372036854775807, .int .i64 (-9223372036854775808), .int .i64 1125899906842624, .int .i64 1125899906842625, .int .i64 65535, .int .i64 65536, .int .i64 255, .int .i64 256, .int .i64 1023, .int .i64 1024, .int .i64 65534, .int .i64 65535, .int .i64 4294967296, .int .i64 4611686018427387905] T)).cell? ⟨w.heap.size, z, none⟩ = some (.int .i64 y) := by
  have : z = 0 ∨ z = 1 ∨ z = 2 ∨ z = 3 ∨ z = 4 ∨ z = 5 ∨ z = 6 ∨ z = 7 ∨ z = 8 ∨ z = 9 ∨ z = 10 ∨ z = 11 ∨ z = 12 ∨ z = 13 := by omega
  rcases this with rfl | rfl | rfl | rfl | rfl | rfl | rfl | rfl | rfl | rfl | rfl | rfl | rfl | rfl
  all_goals
    refine ⟨_, ?_, by simp; rfl⟩
    omega
theorem int_c {B : Nat} (b : Nat) (w : World) (h : Cod B w b) :
    Calls Try.prog 67 #[.pointer (some ⟨b, 0, none⟩)] w (InPost B b w) := by
  have hB := h.base
  have HC0 := Lib.hid h
  clear h
  go_enter Try.func67, Try.ntmps67
  go_wp2_with fail
  refine (next_any b 10 _ (by omega) (by omega) HC0.out).mono ?_
  rintro e w1 ⟨x, rfl, x0, x1, hc1, he1⟩
  have HC1 := Lib.hid hc1
  clear hc1
  by_cases h0 : x = 0
  · subst h0
    go_wp2_with fail
    refine (next_any b 3 _ (by omega) (by omega) HC1.out).mono ?_
    rintro e w2 ⟨y, rfl, y0, y1, hc2, he2⟩
    go_wp2_with fail
    go_ret
    exact ⟨_, rfl, by omega, by omega, hc2, he1.trans he2⟩
  have d0 : (x == 0) = false := by rw [beq_eq_false_iff_ne]; exact h0
  by_cases h1 : x = 1
  · subst h1
    go_wp2_with fail
    refine (next_any b 14 _ (by omega) (by omega) (HC1.out.gr (Gr.alloc (Gr.refl _) _))).mono ?_
    rintro e w2 ⟨y, rfl, y0, y1, hc2, he2⟩
    obtain ⟨y, rfl⟩ := Int.eq_ofNat_of_zero_le y0
    obtain ⟨z, hz, hcell⟩ := edge_at w1 3 y (by omega)
    have hb1 := HC1.out.lt
    have hc := he2.cell w1.heap.size y (by omega) (by simp)
    rw [hcell] at hc
    have hE := (he1.trans (Ex.alloc (Ex.refl _ _) _)).trans he2
    have HC2 := Lib.hid hc2
    have HE := Lib.hid hE
    clear he2 hcell hc2 hE
    go_wp2_with fail
    go_ret
    exact ⟨_, rfl, hz.1, hz.2, HC2.out, HE.out⟩
  have d1 : (x == 1) = false := by rw [beq_eq_false_iff_ne]; exact h1
  by_cases h2 : x = 2
  · subst h2
    go_wp2_with fail
    refine (next_any b 256 _ (by omega) (by omega) HC1.out).mono ?_
    rintro e w2 ⟨y, rfl, y0, y1, hc2, he2⟩
    have HC2 := Lib.hid hc2
    clear hc2
    go_wp2_with fail
    refine (next_any b 256 _ (by omega) (by omega) HC2.out).mono ?_
    rintro e w3 ⟨z, rfl, z0, z1, hc3, he3⟩
    go_wp2_with fail
    go_ret
    exact ⟨_, rfl, by omega, by omega, hc3, (he1.trans he2).trans he3⟩
  have d2 : (x == 2) = false := by rw [beq_eq_false_iff_ne]; exact h2
  go_wp2_with fail
  refine (next_any b 40 _ (by omega) (by omega) HC1.out).mono ?_
  rintro e w2 ⟨y, rfl, y0, y1, hc2, he2⟩
  go_wp2_with fail
  go_ret
  exact ⟨_, rfl, by omega, by omega, hc2, he1.trans he2⟩
end Go.Proofs.Ytlkhdbgknkjioaa
