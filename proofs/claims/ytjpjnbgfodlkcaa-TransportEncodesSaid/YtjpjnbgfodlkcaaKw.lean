/- The statement on encodings where a message is too long. -/
import Derived.Test.YtjpjnbgfodlkcaaKz
import Derived.WalkKit
import Derived.WalkSpells
import Derived.WalkLawsBesides
import Derived.WalkSmall
import Derived.Handy
import Derived.BigQuiet
import Derived.Deep.QuietTactic
import Derived.Deep.RegionHeld3
import Derived.Deep.DeepFit
import Derived.Below
import Derived.Lib.Hide
import Derived.Lib.QuietBelow
namespace Go.Proofs.Ytjpjnbgfodlkcaa
open Go Go.RowKit Go.Sort
set_option maxRecDepth 100000
set_option linter.unusedVariables false
set_option linter.unusedSimpArgs false
set_option maxHeartbeats 4000000 in
theorem encodes_big {pe pn pu pt : Nat → Prop} (sv : Value) (r : Bool) (x y t c p q a a2 sq ak fl wi : Int) (ve vn vu vt : Value) (le ln lu lt : List Nat) (w : World) (he : Rb pe w ve le) (hn : Rb pn w vn ln) (hu : Rb pu w vu lu) (ht : Rb pt w vt lt)
    (hbig : ¬ (le.length ≤ 1600 ∧ ln.length ≤ 1600 ∧ lu.length ≤ 1600 ∧ lt.length ≤ 1600)) :
    Calls Try.prog 3 #[.agg #[.bool r, .int .i64 x, .int .i64 y, ve], .agg #[.int .i64 t, .int .i64 c, vn], .agg #[.int .i64 p, .int .i64 q, vu], .agg #[.int .i64 a, .int .i64 a2, .int .i64 sq, .int .i64 ak, .int .i64 fl, .int .i64 wi, vt], sv] w fun e w' => e = .returned (.bool true) ∧ Gr w w' := by
  obtain ⟨ae, ce, rfl, -, -⟩ := he.form
  obtain ⟨an, cn, rfl, -, -⟩ := hn.form
  obtain ⟨au, cu, rfl, -, -⟩ := hu.form
  obtain ⟨at1, ct, rfl, -, -⟩ := ht.form
  clear he hn hu ht
  generalize le.length = N1 at hbig ⊢
  generalize ln.length = N2 at hbig ⊢
  generalize lu.length = N3 at hbig ⊢
  generalize lt.length = N4 at hbig ⊢
  by_cases h1 : 1600 < N1
  · have d1 : decide ((1600 : Int) < (N1 : Int)) = true := by rw [decide_eq_true_eq]; omega
    clear hbig h1
    have hC5 := (((CL.new w [.bool r, .int .i64 x, .int .i64 y, .slice ae N1 ce] 24 w.heap.size rfl).gr (Gr.alloc (Gr.refl _) (.cells #[.int .i64 t, .int .i64 c, .slice an N2 cn] 26))).gr (Gr.alloc (Gr.refl _) (.cells #[.int .i64 p, .int .i64 q, .slice au N3 cu] 28))).gr (Gr.alloc (Gr.refl _) (.cells #[.int .i64 a, .int .i64 a2, .int .i64 sq, .int .i64 ak, .int .i64 fl, .int .i64 wi, .slice at1 N4 ct] 30))
    have hC6 := ((CL.new (w.alloc (.cells #[.bool r, .int .i64 x, .int .i64 y, .slice ae N1 ce] 24)) [.int .i64 t, .int .i64 c, .slice an N2 cn] 26 (w.heap.size + 1) (by simp)).gr (Gr.alloc (Gr.refl _) (.cells #[.int .i64 p, .int .i64 q, .slice au N3 cu] 28))).gr (Gr.alloc (Gr.refl _) (.cells #[.int .i64 a, .int .i64 a2, .int .i64 sq, .int .i64 ak, .int .i64 fl, .int .i64 wi, .slice at1 N4 ct] 30))
    have hC7 := (CL.new ((w.alloc (.cells #[.bool r, .int .i64 x, .int .i64 y, .slice ae N1 ce] 24)).alloc (.cells #[.int .i64 t, .int .i64 c, .slice an N2 cn] 26)) [.int .i64 p, .int .i64 q, .slice au N3 cu] 28 (w.heap.size + 1 + 1) (by simp)).gr (Gr.alloc (Gr.refl _) (.cells #[.int .i64 a, .int .i64 a2, .int .i64 sq, .int .i64 ak, .int .i64 fl, .int .i64 wi, .slice at1 N4 ct] 30))
    have hC8 := CL.new (((w.alloc (.cells #[.bool r, .int .i64 x, .int .i64 y, .slice ae N1 ce] 24)).alloc (.cells #[.int .i64 t, .int .i64 c, .slice an N2 cn] 26)).alloc (.cells #[.int .i64 p, .int .i64 q, .slice au N3 cu] 28)) [.int .i64 a, .int .i64 a2, .int .i64 sq, .int .i64 ak, .int .i64 fl, .int .i64 wi, .slice at1 N4 ct] 30 (w.heap.size + 1 + 1 + 1) (by simp)
    have hG := ((((Gr.refl w).alloc (.cells #[.bool r, .int .i64 x, .int .i64 y, .slice ae N1 ce] 24)).alloc (.cells #[.int .i64 t, .int .i64 c, .slice an N2 cn] 26)).alloc (.cells #[.int .i64 p, .int .i64 q, .slice au N3 cu] 28)).alloc (.cells #[.int .i64 a, .int .i64 a2, .int .i64 sq, .int .i64 ak, .int .i64 fl, .int .i64 wi, .slice at1 N4 ct] 30)
    have hgs : w.heap.size ≤ w.heap.size ∧ w.heap.size < w.heap.size + 1 ∧ w.heap.size + 1 < w.heap.size + 1 + 1 ∧ w.heap.size + 1 + 1 < w.heap.size + 1 + 1 + 1 := by omega
    go_enter Try.func3, Try.ntmps3
    go_upto_region 1 with fail
    generalize ((((w.alloc (.cells #[.bool r, .int .i64 x, .int .i64 y, .slice ae N1 ce] 24)).alloc (.cells #[.int .i64 t, .int .i64 c, .slice an N2 cn] 26)).alloc (.cells #[.int .i64 p, .int .i64 q, .slice au N3 cu] 28)).alloc (.cells #[.int .i64 a, .int .i64 a2, .int .i64 sq, .int .i64 ak, .int .i64 fl, .int .i64 wi, .slice at1 N4 ct] 30)) = wz at hC5 hC6 hC7 hC8 hG ⊢
    generalize hg8 : w.heap.size + 1 + 1 + 1 = g8 at hC8 hgs ⊢
    generalize hg7 : w.heap.size + 1 + 1 = g7 at hC7 hgs ⊢
    generalize hg6 : w.heap.size + 1 = g6 at hC6 hgs ⊢
    generalize hg5e : w.heap.size = g5 at hC5 ⊢
    obtain ⟨hle5, hle6, hle7, hle8⟩ : w.heap.size ≤ g5 ∧ g5 < g6 ∧ g6 < g7 ∧ g7 < g8 := by omega
    clear hgs hg8 hg7 hg6 hg5e
    go_wp2_with fail
    refine (tawake_any _).mono ?_
    rintro e w1 ⟨rfl, hg⟩
    replace hC5 := hC5.gr hg
    replace hC6 := hC6.gr hg
    replace hC7 := hC7.gr hg
    replace hC8 := hC8.gr hg
    replace hG := hG.step hg
    clear hg
    obtain ⟨⟨x0, x1, x2, x3⟩, -⟩ := hC5.four
    obtain ⟨⟨y0, y1, y2⟩, -⟩ := hC6.three
    obtain ⟨⟨z0, z1, z2⟩, -⟩ := hC7.three
    obtain ⟨⟨u0, u1, u2, u3, u4, u5, u6⟩, -⟩ := hC8.seven
    go_wp2_with fail
    go_ret
    exact ⟨rfl, hG⟩
  have d1 : decide ((1600 : Int) < (N1 : Int)) = false := by rw [decide_eq_false_iff_not]; omega
  by_cases h2 : 1600 < N2
  · have d2 : decide ((1600 : Int) < (N2 : Int)) = true := by rw [decide_eq_true_eq]; omega
    clear hbig h1 h2
    have hC5 := (((CL.new w [.bool r, .int .i64 x, .int .i64 y, .slice ae N1 ce] 24 w.heap.size rfl).gr (Gr.alloc (Gr.refl _) (.cells #[.int .i64 t, .int .i64 c, .slice an N2 cn] 26))).gr (Gr.alloc (Gr.refl _) (.cells #[.int .i64 p, .int .i64 q, .slice au N3 cu] 28))).gr (Gr.alloc (Gr.refl _) (.cells #[.int .i64 a, .int .i64 a2, .int .i64 sq, .int .i64 ak, .int .i64 fl, .int .i64 wi, .slice at1 N4 ct] 30))
    have hC6 := ((CL.new (w.alloc (.cells #[.bool r, .int .i64 x, .int .i64 y, .slice ae N1 ce] 24)) [.int .i64 t, .int .i64 c, .slice an N2 cn] 26 (w.heap.size + 1) (by simp)).gr (Gr.alloc (Gr.refl _) (.cells #[.int .i64 p, .int .i64 q, .slice au N3 cu] 28))).gr (Gr.alloc (Gr.refl _) (.cells #[.int .i64 a, .int .i64 a2, .int .i64 sq, .int .i64 ak, .int .i64 fl, .int .i64 wi, .slice at1 N4 ct] 30))
    have hC7 := (CL.new ((w.alloc (.cells #[.bool r, .int .i64 x, .int .i64 y, .slice ae N1 ce] 24)).alloc (.cells #[.int .i64 t, .int .i64 c, .slice an N2 cn] 26)) [.int .i64 p, .int .i64 q, .slice au N3 cu] 28 (w.heap.size + 1 + 1) (by simp)).gr (Gr.alloc (Gr.refl _) (.cells #[.int .i64 a, .int .i64 a2, .int .i64 sq, .int .i64 ak, .int .i64 fl, .int .i64 wi, .slice at1 N4 ct] 30))
    have hC8 := CL.new (((w.alloc (.cells #[.bool r, .int .i64 x, .int .i64 y, .slice ae N1 ce] 24)).alloc (.cells #[.int .i64 t, .int .i64 c, .slice an N2 cn] 26)).alloc (.cells #[.int .i64 p, .int .i64 q, .slice au N3 cu] 28)) [.int .i64 a, .int .i64 a2, .int .i64 sq, .int .i64 ak, .int .i64 fl, .int .i64 wi, .slice at1 N4 ct] 30 (w.heap.size + 1 + 1 + 1) (by simp)
    have hG := ((((Gr.refl w).alloc (.cells #[.bool r, .int .i64 x, .int .i64 y, .slice ae N1 ce] 24)).alloc (.cells #[.int .i64 t, .int .i64 c, .slice an N2 cn] 26)).alloc (.cells #[.int .i64 p, .int .i64 q, .slice au N3 cu] 28)).alloc (.cells #[.int .i64 a, .int .i64 a2, .int .i64 sq, .int .i64 ak, .int .i64 fl, .int .i64 wi, .slice at1 N4 ct] 30)
    have hgs : w.heap.size ≤ w.heap.size ∧ w.heap.size < w.heap.size + 1 ∧ w.heap.size + 1 < w.heap.size + 1 + 1 ∧ w.heap.size + 1 + 1 < w.heap.size + 1 + 1 + 1 := by omega
    go_enter Try.func3, Try.ntmps3
    go_upto_region 1 with fail
    generalize ((((w.alloc (.cells #[.bool r, .int .i64 x, .int .i64 y, .slice ae N1 ce] 24)).alloc (.cells #[.int .i64 t, .int .i64 c, .slice an N2 cn] 26)).alloc (.cells #[.int .i64 p, .int .i64 q, .slice au N3 cu] 28)).alloc (.cells #[.int .i64 a, .int .i64 a2, .int .i64 sq, .int .i64 ak, .int .i64 fl, .int .i64 wi, .slice at1 N4 ct] 30)) = wz at hC5 hC6 hC7 hC8 hG ⊢
    generalize hg8 : w.heap.size + 1 + 1 + 1 = g8 at hC8 hgs ⊢
    generalize hg7 : w.heap.size + 1 + 1 = g7 at hC7 hgs ⊢
    generalize hg6 : w.heap.size + 1 = g6 at hC6 hgs ⊢
    generalize hg5e : w.heap.size = g5 at hC5 ⊢
    obtain ⟨hle5, hle6, hle7, hle8⟩ : w.heap.size ≤ g5 ∧ g5 < g6 ∧ g6 < g7 ∧ g7 < g8 := by omega
    clear hgs hg8 hg7 hg6 hg5e
    go_wp2_with fail
    refine (tawake_any _).mono ?_
    rintro e w1 ⟨rfl, hg⟩
    replace hC5 := hC5.gr hg
    replace hC6 := hC6.gr hg
    replace hC7 := hC7.gr hg
    replace hC8 := hC8.gr hg
    replace hG := hG.step hg
    clear hg
    obtain ⟨⟨x0, x1, x2, x3⟩, -⟩ := hC5.four
    obtain ⟨⟨y0, y1, y2⟩, -⟩ := hC6.three
    obtain ⟨⟨z0, z1, z2⟩, -⟩ := hC7.three
    obtain ⟨⟨u0, u1, u2, u3, u4, u5, u6⟩, -⟩ := hC8.seven
    go_wp2_with fail
    go_ret
    exact ⟨rfl, hG⟩
  have d2 : decide ((1600 : Int) < (N2 : Int)) = false := by rw [decide_eq_false_iff_not]; omega
  by_cases h3 : 1600 < N3
  · have d3 : decide ((1600 : Int) < (N3 : Int)) = true := by rw [decide_eq_true_eq]; omega
    clear hbig h1 h2 h3
    have hC5 := (((CL.new w [.bool r, .int .i64 x, .int .i64 y, .slice ae N1 ce] 24 w.heap.size rfl).gr (Gr.alloc (Gr.refl _) (.cells #[.int .i64 t, .int .i64 c, .slice an N2 cn] 26))).gr (Gr.alloc (Gr.refl _) (.cells #[.int .i64 p, .int .i64 q, .slice au N3 cu] 28))).gr (Gr.alloc (Gr.refl _) (.cells #[.int .i64 a, .int .i64 a2, .int .i64 sq, .int .i64 ak, .int .i64 fl, .int .i64 wi, .slice at1 N4 ct] 30))
    have hC6 := ((CL.new (w.alloc (.cells #[.bool r, .int .i64 x, .int .i64 y, .slice ae N1 ce] 24)) [.int .i64 t, .int .i64 c, .slice an N2 cn] 26 (w.heap.size + 1) (by simp)).gr (Gr.alloc (Gr.refl _) (.cells #[.int .i64 p, .int .i64 q, .slice au N3 cu] 28))).gr (Gr.alloc (Gr.refl _) (.cells #[.int .i64 a, .int .i64 a2, .int .i64 sq, .int .i64 ak, .int .i64 fl, .int .i64 wi, .slice at1 N4 ct] 30))
    have hC7 := (CL.new ((w.alloc (.cells #[.bool r, .int .i64 x, .int .i64 y, .slice ae N1 ce] 24)).alloc (.cells #[.int .i64 t, .int .i64 c, .slice an N2 cn] 26)) [.int .i64 p, .int .i64 q, .slice au N3 cu] 28 (w.heap.size + 1 + 1) (by simp)).gr (Gr.alloc (Gr.refl _) (.cells #[.int .i64 a, .int .i64 a2, .int .i64 sq, .int .i64 ak, .int .i64 fl, .int .i64 wi, .slice at1 N4 ct] 30))
    have hC8 := CL.new (((w.alloc (.cells #[.bool r, .int .i64 x, .int .i64 y, .slice ae N1 ce] 24)).alloc (.cells #[.int .i64 t, .int .i64 c, .slice an N2 cn] 26)).alloc (.cells #[.int .i64 p, .int .i64 q, .slice au N3 cu] 28)) [.int .i64 a, .int .i64 a2, .int .i64 sq, .int .i64 ak, .int .i64 fl, .int .i64 wi, .slice at1 N4 ct] 30 (w.heap.size + 1 + 1 + 1) (by simp)
    have hG := ((((Gr.refl w).alloc (.cells #[.bool r, .int .i64 x, .int .i64 y, .slice ae N1 ce] 24)).alloc (.cells #[.int .i64 t, .int .i64 c, .slice an N2 cn] 26)).alloc (.cells #[.int .i64 p, .int .i64 q, .slice au N3 cu] 28)).alloc (.cells #[.int .i64 a, .int .i64 a2, .int .i64 sq, .int .i64 ak, .int .i64 fl, .int .i64 wi, .slice at1 N4 ct] 30)
    have hgs : w.heap.size ≤ w.heap.size ∧ w.heap.size < w.heap.size + 1 ∧ w.heap.size + 1 < w.heap.size + 1 + 1 ∧ w.heap.size + 1 + 1 < w.heap.size + 1 + 1 + 1 := by omega
    go_enter Try.func3, Try.ntmps3
    go_upto_region 1 with fail
    generalize ((((w.alloc (.cells #[.bool r, .int .i64 x, .int .i64 y, .slice ae N1 ce] 24)).alloc (.cells #[.int .i64 t, .int .i64 c, .slice an N2 cn] 26)).alloc (.cells #[.int .i64 p, .int .i64 q, .slice au N3 cu] 28)).alloc (.cells #[.int .i64 a, .int .i64 a2, .int .i64 sq, .int .i64 ak, .int .i64 fl, .int .i64 wi, .slice at1 N4 ct] 30)) = wz at hC5 hC6 hC7 hC8 hG ⊢
    generalize hg8 : w.heap.size + 1 + 1 + 1 = g8 at hC8 hgs ⊢
    generalize hg7 : w.heap.size + 1 + 1 = g7 at hC7 hgs ⊢
    generalize hg6 : w.heap.size + 1 = g6 at hC6 hgs ⊢
    generalize hg5e : w.heap.size = g5 at hC5 ⊢
    obtain ⟨hle5, hle6, hle7, hle8⟩ : w.heap.size ≤ g5 ∧ g5 < g6 ∧ g6 < g7 ∧ g7 < g8 := by omega
    clear hgs hg8 hg7 hg6 hg5e
    go_wp2_with fail
    refine (tawake_any _).mono ?_
    rintro e w1 ⟨rfl, hg⟩
    replace hC5 := hC5.gr hg
    replace hC6 := hC6.gr hg
    replace hC7 := hC7.gr hg
    replace hC8 := hC8.gr hg
    replace hG := hG.step hg
    clear hg
    obtain ⟨⟨x0, x1, x2, x3⟩, -⟩ := hC5.four
    obtain ⟨⟨y0, y1, y2⟩, -⟩ := hC6.three
    obtain ⟨⟨z0, z1, z2⟩, -⟩ := hC7.three
    obtain ⟨⟨u0, u1, u2, u3, u4, u5, u6⟩, -⟩ := hC8.seven
    go_wp2_with fail
    go_ret
    exact ⟨rfl, hG⟩
  have d3 : decide ((1600 : Int) < (N3 : Int)) = false := by rw [decide_eq_false_iff_not]; omega
  have d4 : decide ((1600 : Int) < (N4 : Int)) = true := by rw [decide_eq_true_eq]; omega
  clear hbig h1 h2 h3
  have hC5 := (((CL.new w [.bool r, .int .i64 x, .int .i64 y, .slice ae N1 ce] 24 w.heap.size rfl).gr (Gr.alloc (Gr.refl _) (.cells #[.int .i64 t, .int .i64 c, .slice an N2 cn] 26))).gr (Gr.alloc (Gr.refl _) (.cells #[.int .i64 p, .int .i64 q, .slice au N3 cu] 28))).gr (Gr.alloc (Gr.refl _) (.cells #[.int .i64 a, .int .i64 a2, .int .i64 sq, .int .i64 ak, .int .i64 fl, .int .i64 wi, .slice at1 N4 ct] 30))
  have hC6 := ((CL.new (w.alloc (.cells #[.bool r, .int .i64 x, .int .i64 y, .slice ae N1 ce] 24)) [.int .i64 t, .int .i64 c, .slice an N2 cn] 26 (w.heap.size + 1) (by simp)).gr (Gr.alloc (Gr.refl _) (.cells #[.int .i64 p, .int .i64 q, .slice au N3 cu] 28))).gr (Gr.alloc (Gr.refl _) (.cells #[.int .i64 a, .int .i64 a2, .int .i64 sq, .int .i64 ak, .int .i64 fl, .int .i64 wi, .slice at1 N4 ct] 30))
  have hC7 := (CL.new ((w.alloc (.cells #[.bool r, .int .i64 x, .int .i64 y, .slice ae N1 ce] 24)).alloc (.cells #[.int .i64 t, .int .i64 c, .slice an N2 cn] 26)) [.int .i64 p, .int .i64 q, .slice au N3 cu] 28 (w.heap.size + 1 + 1) (by simp)).gr (Gr.alloc (Gr.refl _) (.cells #[.int .i64 a, .int .i64 a2, .int .i64 sq, .int .i64 ak, .int .i64 fl, .int .i64 wi, .slice at1 N4 ct] 30))
  have hC8 := CL.new (((w.alloc (.cells #[.bool r, .int .i64 x, .int .i64 y, .slice ae N1 ce] 24)).alloc (.cells #[.int .i64 t, .int .i64 c, .slice an N2 cn] 26)).alloc (.cells #[.int .i64 p, .int .i64 q, .slice au N3 cu] 28)) [.int .i64 a, .int .i64 a2, .int .i64 sq, .int .i64 ak, .int .i64 fl, .int .i64 wi, .slice at1 N4 ct] 30 (w.heap.size + 1 + 1 + 1) (by simp)
  have hG := ((((Gr.refl w).alloc (.cells #[.bool r, .int .i64 x, .int .i64 y, .slice ae N1 ce] 24)).alloc (.cells #[.int .i64 t, .int .i64 c, .slice an N2 cn] 26)).alloc (.cells #[.int .i64 p, .int .i64 q, .slice au N3 cu] 28)).alloc (.cells #[.int .i64 a, .int .i64 a2, .int .i64 sq, .int .i64 ak, .int .i64 fl, .int .i64 wi, .slice at1 N4 ct] 30)
  have hgs : w.heap.size ≤ w.heap.size ∧ w.heap.size < w.heap.size + 1 ∧ w.heap.size + 1 < w.heap.size + 1 + 1 ∧ w.heap.size + 1 + 1 < w.heap.size + 1 + 1 + 1 := by omega
  go_enter Try.func3, Try.ntmps3
  go_upto_region 1 with fail
  generalize ((((w.alloc (.cells #[.bool r, .int .i64 x, .int .i64 y, .slice ae N1 ce] 24)).alloc (.cells #[.int .i64 t, .int .i64 c, .slice an N2 cn] 26)).alloc (.cells #[.int .i64 p, .int .i64 q, .slice au N3 cu] 28)).alloc (.cells #[.int .i64 a, .int .i64 a2, .int .i64 sq, .int .i64 ak, .int .i64 fl, .int .i64 wi, .slice at1 N4 ct] 30)) = wz at hC5 hC6 hC7 hC8 hG ⊢
  generalize hg8 : w.heap.size + 1 + 1 + 1 = g8 at hC8 hgs ⊢
  generalize hg7 : w.heap.size + 1 + 1 = g7 at hC7 hgs ⊢
  generalize hg6 : w.heap.size + 1 = g6 at hC6 hgs ⊢
  generalize hg5e : w.heap.size = g5 at hC5 ⊢
  obtain ⟨hle5, hle6, hle7, hle8⟩ : w.heap.size ≤ g5 ∧ g5 < g6 ∧ g6 < g7 ∧ g7 < g8 := by omega
  clear hgs hg8 hg7 hg6 hg5e
  go_wp2_with fail
  refine (tawake_any _).mono ?_
  rintro e w1 ⟨rfl, hg⟩
  replace hC5 := hC5.gr hg
  replace hC6 := hC6.gr hg
  replace hC7 := hC7.gr hg
  replace hC8 := hC8.gr hg
  replace hG := hG.step hg
  clear hg
  obtain ⟨⟨x0, x1, x2, x3⟩, -⟩ := hC5.four
  obtain ⟨⟨y0, y1, y2⟩, -⟩ := hC6.three
  obtain ⟨⟨z0, z1, z2⟩, -⟩ := hC7.three
  obtain ⟨⟨u0, u1, u2, u3, u4, u5, u6⟩, -⟩ := hC8.seven
  go_wp2_with fail
  go_ret
  exact ⟨rfl, hG⟩
end Go.Proofs.Ytjpjnbgfodlkcaa
