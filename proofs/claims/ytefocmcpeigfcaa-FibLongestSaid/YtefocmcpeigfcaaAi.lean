/- The program's place: slices.BinarySearchFunc. -/
import Derived.Test.YtefocmcpeigfcaaAd
import Derived.WalkKit
import Derived.WalkSpells
import Derived.WalkLawsBesides
import Derived.WalkSmall
import Derived.Handy
import Derived.BigQuiet
import Derived.Deep.QuietTactic
import Derived.Deep.RegionHeld3
import Derived.Deep.DeepFit
import Derived.Below
import Derived.Lib.Hide
import Derived.Lib.QuietBelow
import Derived.Deep.DeepCutAuto
namespace Go.Proofs.Ytefocmcpeigfcaa
open Go Go.RowKit Go.Sort
set_option maxRecDepth 100000
set_option linter.unusedVariables false
/-- the first s routes are those before a prefix -/
def Cut (l : List Rt) (a n : Int) (s : Nat) : Prop := s ≤ l.length ∧ ∀ (j : Nat) (r : Rt), l[j]? = some r → (j < s ↔ cmpp r.a r.n a n < 0)
/-- the route at s is that of the prefix -/
def isAt (l : List Rt) (a n : Int) (s : Nat) : Bool := match l[s]? with | some r => cmpp r.a r.n a n == 0 | none => false
theorem cmpp_three (a n b m : Int) : cmpp a n b m = -1 ∨ cmpp a n b m = 0 ∨ cmpp a n b m = 1 := by
  unfold cmpp ord
  repeat' split
  all_goals omega
theorem less_any (r : Rt) (nv : Value) (a n : Int) (w : World) :
    Calls Try.prog 47 #[.agg #[.int .u32 r.a, .int .i64 r.n, nv, .int .i64 r.bal], .agg #[.int .u32 a, .int .i64 n]] w fun e w' => e = .returned (.int .i64 (cmpp r.a r.n a n)) ∧ Gr w w' := by
  go_enter Try.func47, Try.ntmps47
  go_wp2_with fail
  refine (compare_any r.a r.n a n _).mono ?_
  rintro e w1 ⟨rfl, hg⟩
  go_wp2_with fail
  go_ret
  exact ⟨rfl, Gr.step (((Gr.refl _).alloc _).alloc _) hg⟩
set_option maxHeartbeats 2000000 in
theorem search_any {p : Nat → Prop} (v : Value) (l : List Rt) (a n : Int) (s : Nat) (w : World) (h : Tb p w v l) (hl : l.length ≤ 1000) (hs : Cut l a n s) :
    Calls Try.prog 46 #[v, .agg #[.int .u32 a, .int .i64 n], .func (.func 47) #[] #[]] w
      fun e w' => e = .returned (.tuple #[.int .i64 s, .bool (isAt l a n s)]) ∧ Gr w w' := by
  have HT := Lib.hid h
  obtain ⟨ad, cap, rfl, hlc, hcp⟩ := h.form
  obtain ⟨hsl, hcut⟩ := hs
  have HC := Lib.hid hcut
  clear h hcut
  generalize hln : l.length = len at *
  have HN := Lib.hid hln
  clear hln
  go_enter Try.func46, Try.ntmps46
  go_wp2_with fail
  have hGa : Gr w (w.alloc (.cells #[.int .u32 a, .int .i64 n] 28)) := (Gr.refl _).alloc _
  have k1 : CL (w.alloc (.cells #[.int .u32 a, .int .i64 n] 28)) w.heap.size [.int .u32 a, .int .i64 n] := CL.new _ _ _ _ rfl
  generalize w.alloc (.cells #[.int .u32 a, .int .i64 n] 28) = Wa at *
  go_loopw [9, 10] (fun i j wr => ∃ x y : Nat, i = .int .i64 x ∧ j = .int .i64 y ∧ x ≤ s ∧ s ≤ y ∧ y ≤ len ∧ Gr w wr ∧ CL wr w.heap.size [.int .u32 a, .int .i64 n])
    (fun i j _ => (intOf j).toNat - (intOf i).toNat)
  case atStart => exact ⟨0, len, rfl, rfl, by omega, by omega, by omega, hGa, k1⟩
  case round =>
    obtain ⟨x, y, rfl, rfl, hx, hy, hyl, hG, hC⟩ := hrel
    have HCL := Lib.hid hC
    obtain ⟨⟨m0, m1⟩, -⟩ := hC.two
    clear hC
    by_cases hlt : x < y
    · obtain ⟨m, hm⟩ : ∃ m, m = (x + y) / 2 := ⟨_, rfl⟩
      have hm1 : x ≤ m ∧ m < y := by omega
      have x0 : (x : Int) < (y : Int) := by omega
      obtain ⟨r, hr⟩ : ∃ r, l[m]? = some r := ⟨_, List.getElem?_eq_getElem (by have := HN.out; omega)⟩
      obtain ⟨b, off, nv, rfl, -, hcell, -, -⟩ := (HT.out.gr hG).at' hr
      have hj := HC.out m r hr
      have he : ((x : Int) + (y : Int)) / 2 = (m : Int) := by omega
      have hmI : (m : Int) < (len : Int) := by omega
      obtain ⟨c0, c1, c2, c3⟩ := hcell
      have C0 := fun d os => cell_regrown c0 d os
      have C1 := fun d os => cell_regrown c1 d os
      have C2 := fun d os => cell_regrown c2 d os
      have C3 := fun d os => cell_regrown c3 d os
      have M0 := fun d os => cell_regrown m0 d os
      have M1 := fun d os => cell_regrown m1 d os
      have hcc := fun w => less_any r nv a n w
      generalize cmpp r.a r.n a n = c at hj hcc
      have HM := Lib.hid hm
      clear c0 c1 c2 c3 m0 m1 hr hm
      go_wp2_with fail
      refine wp_region_quiet_below (by kernel_rfl) (by kernel_rfl) ?_
      repeat (any_goals (first | go_big_quiet_step (first | (go_at_call 47; exact Calls.gr_of (hcc _))) | quiet_step (first | (go_at_call 47; exact Calls.gr_of (hcc _)))))
      refine wpQuiet_nil ?_
      intro _ hw'
      obtain ⟨⟨dq, osq⟩, hw''⟩ := hw'
      subst hw''
      have hGb : Gr wr (grow (redrawn wr dq) osq) := (by repeat' (first | (with_reducible exact Gr.refl _) | (with_reducible assumption) | (with_reducible refine Gr.drewN ?_ _) | (with_reducible refine Gr.drew ?_) | (with_reducible refine Gr.alloc ?_ _) | (with_reducible refine Gr.setCell ?_ ?_ _) | (with_reducible refine Gr.grow ?_ _ _) | (refine Gr.step ?_ (by with_reducible assumption)) | go_size))
      generalize grow (redrawn wr dq) osq = w1 at *
      by_cases hneg : c < 0
      · have hd : decide (c < 0) = true := decide_eq_true hneg
        have hms := hj.2 hneg
        go_wp2_with fail
        case roundEnd =>
          exact ⟨⟨m + 1, y, rfl, rfl, by omega, hy, hyl, hG.step hGb, HCL.out.gr hGb⟩, by simp only [intOf]; omega⟩
      · have hd : decide (c < 0) = false := decide_eq_false hneg
        have hms : s ≤ m := Nat.le_of_not_lt fun h => hneg (hj.1 h)
        go_wp2_with fail
        case roundEnd =>
          exact ⟨⟨x, m, rfl, rfl, hx, hms, by omega, hG.step hGb, HCL.out.gr hGb⟩, by simp only [intOf]; omega⟩
    · obtain rfl : x = s := by omega
      obtain rfl : y = x := by omega
      have x0 : ¬ (y : Int) < (y : Int) := by omega
      by_cases hend : y < len
      · obtain ⟨r, hr⟩ : ∃ r, l[y]? = some r := ⟨_, List.getElem?_eq_getElem (by have := HN.out; omega)⟩
        obtain ⟨b, off, nv, rfl, -, hcell, -, -⟩ := (HT.out.gr hG).at' hr
        have hmI : (y : Int) < (len : Int) := by omega
        have hcc := fun w => less_any r nv a n w
        have hat : isAt l a n y = (cmpp r.a r.n a n == 0) := by unfold isAt; rw [hr]
        generalize cmpp r.a r.n a n = c at hcc hat
        obtain ⟨c0, c1, c2, c3⟩ := hcell
        have C0 := fun d os => cell_regrown c0 d os
        have C1 := fun d os => cell_regrown c1 d os
        have C2 := fun d os => cell_regrown c2 d os
        have C3 := fun d os => cell_regrown c3 d os
        have M0 := fun d os => cell_regrown m0 d os
        have M1 := fun d os => cell_regrown m1 d os
        have HA := Lib.hid hat
        clear c0 c1 c2 c3 m0 m1 hat
        go_wp2_with fail
        refine wp_region_quiet_below (by kernel_rfl) (by kernel_rfl) ?_
        repeat (any_goals (first | go_big_quiet_step (first | (go_at_call 47; exact Calls.gr_of (hcc _))) | quiet_step (first | (go_at_call 47; exact Calls.gr_of (hcc _)))))
        refine wpQuiet_nil ?_
        intro _ hw'
        obtain ⟨⟨dq, osq⟩, hw''⟩ := hw'
        subst hw''
        have hGb : Gr wr (grow (redrawn wr dq) osq) := (by repeat' (first | (with_reducible exact Gr.refl _) | (with_reducible assumption) | (with_reducible refine Gr.drewN ?_ _) | (with_reducible refine Gr.drew ?_) | (with_reducible refine Gr.alloc ?_ _) | (with_reducible refine Gr.setCell ?_ ?_ _) | (with_reducible refine Gr.grow ?_ _ _) | (refine Gr.step ?_ (by with_reducible assumption)) | go_size))
        generalize grow (redrawn wr dq) osq = w1 at *
        go_wp2_with fail
        refine bodyPost_ret (v := .tuple #[.int .i64 y, .bool (c == 0)]) (by simp [results, Try.results46, go_sem]) rfl ?_
        exact ⟨by rw [HA.out], hG.step hGb⟩
      · have hmI : ¬ (y : Int) < (len : Int) := by omega
        have hat : isAt l a n y = false := by
          unfold isAt
          rw [List.getElem?_eq_none (by have := HN.out; omega)]
        have HA := Lib.hid hat
        clear hat
        go_wp2_with fail
        refine wp_region_quiet_below (by kernel_rfl) (by kernel_rfl) ?_
        repeat (any_goals (first | go_big_quiet_step (fail) | quiet_step (fail)))
        refine wpQuiet_nil ?_
        intro _ hw'
        obtain ⟨⟨dq, osq⟩, hw''⟩ := hw'
        subst hw''
        have hGb : Gr wr (grow (redrawn wr dq) osq) := (by repeat' (first | (with_reducible exact Gr.refl _) | (with_reducible assumption) | (with_reducible refine Gr.drewN ?_ _) | (with_reducible refine Gr.drew ?_) | (with_reducible refine Gr.alloc ?_ _) | (with_reducible refine Gr.setCell ?_ ?_ _) | (with_reducible refine Gr.grow ?_ _ _) | (refine Gr.step ?_ (by with_reducible assumption)) | go_size))
        generalize grow (redrawn wr dq) osq = w1 at *
        go_wp2_with fail
        refine bodyPost_ret (v := .tuple #[.int .i64 y, .bool false]) (by simp [results, Try.results46, go_sem]) rfl ?_
        exact ⟨by rw [HA.out], hG.step hGb⟩
/-- where the part with a prefix starts and ends -/
theorem place_no {p : Nat → Prop} (v : Value) (l : List Rt) (a n : Int) (s : Nat) (w : World) (h : Tb p w v l) (hl : l.length ≤ 1000) (hs : Cut l a n s) (hq : isAt l a n s = false) :
    Calls Try.prog 34 #[v, .agg #[.int .u32 a, .int .i64 n]] w
      fun e w' => e = .returned (.tuple #[.int .i64 s, .int .i64 s]) ∧ Gr w w' := by
  have hsl := hs.1
  obtain ⟨b0, b1⟩ := two_cells w (.int .u32 a) (.int .i64 n) 28
  have HT := Lib.hid h
  have HS := Lib.hid hs
  have HQ := Lib.hid hq
  clear h hs hq
  go_enter Try.func34, Try.ntmps34
  go_wp2_with fail
  have hGa : Gr w (w.alloc (.cells #[.int .u32 a, .int .i64 n] 28)) := (Gr.refl _).alloc _
  refine (search_any v l a n s _ (HT.out.gr hGa) hl HS.out).mono ?_
  rintro e w1 ⟨rfl, hg⟩
  rw [HQ.out]
  have s0 : (s : Int) ≤ 1000 := by omega
  clear b0 b1
  go_wp2_with fail
  refine bodyPost_ret (v := .tuple #[.int .i64 s, .int .i64 s]) (by simp [results, Try.results34, go_sem]) rfl ?_
  exact ⟨rfl, hGa.step hg⟩
theorem place_yes {p : Nat → Prop} (v : Value) (l : List Rt) (a n : Int) (s : Nat) (w : World) (h : Tb p w v l) (hl : l.length ≤ 1000) (hs : Cut l a n s) (hq : isAt l a n s = true) :
    Calls Try.prog 34 #[v, .agg #[.int .u32 a, .int .i64 n]] w
      fun e w' => e = .returned (.tuple #[.int .i64 s, .int .i64 ((s : Int) + 1)]) ∧ Gr w w' := by
  have hsl := hs.1
  obtain ⟨b0, b1⟩ := two_cells w (.int .u32 a) (.int .i64 n) 28
  have HT := Lib.hid h
  have HS := Lib.hid hs
  have HQ := Lib.hid hq
  clear h hs hq
  go_enter Try.func34, Try.ntmps34
  go_wp2_with fail
  have hGa : Gr w (w.alloc (.cells #[.int .u32 a, .int .i64 n] 28)) := (Gr.refl _).alloc _
  refine (search_any v l a n s _ (HT.out.gr hGa) hl HS.out).mono ?_
  rintro e w1 ⟨rfl, hg⟩
  rw [HQ.out]
  have s0 : (s : Int) ≤ 1000 := by omega
  clear b0 b1
  go_wp2_with fail
  refine bodyPost_ret (v := .tuple #[.int .i64 s, .int .i64 ((s : Int) + 1)]) (by simp [results, Try.results34, go_sem]) rfl ?_
  exact ⟨rfl, hGa.step hg⟩
end Go.Proofs.Ytefocmcpeigfcaa
