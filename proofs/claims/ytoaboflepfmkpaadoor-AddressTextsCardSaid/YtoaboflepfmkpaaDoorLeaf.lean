/- Contracts of chapter 1's numbers: the landed functions and the document's. -/
import Derived.Test.YtoaboflepfmkpaaDoorProg
import Derived.Test.YtoaboflepfmkpaaDoorMath
import Derived.WalkKit
import Derived.WalkSpells
import Derived.WalkLawsBesides
import Derived.WalkSmall
import Derived.Handy
import Derived.BigQuiet
import Derived.Deep.QuietTactic
import Derived.Deep.RegionHeld3
import Derived.Deep.DeepFit
import Derived.Below
import Derived.Lib.Hide
import Derived.Lib.QuietBelow
namespace Go.Proofs.YtoaboflepfmkpaaDoor
open Go Go.RowKit Go.Sort
set_option maxRecDepth 100000
set_option linter.unusedVariables false

/-- The world has grown: all that was there is as it was. -/
def Gr (w w' : World) : Prop := Below w.heap.size w w'
theorem Gr.refl (w : World) : Gr w w := Below.refl _ _
theorem Gr.size {a b : World} (h : Gr a b) : a.heap.size ≤ b.heap.size := Below.size h
theorem Gr.step {a b c : World} (h : Gr a b) (k : Gr b c) : Gr a c := Below.trans h (Below.mono k (Below.size h))
theorem Gr.alloc {a b : World} (h : Gr a b) (o : Obj) : Gr a (b.alloc o) := Below.alloc h (Below.size h) o
theorem Gr.drew {a b : World} (h : Gr a b) : Gr a b.drew := Below.drew h
theorem Gr.drewN {a b : World} (h : Gr a b) (n : Nat) : Gr a (b.drewN n) := below_drewN h n
theorem Gr.setCell {a b : World} (h : Gr a b) {p : Addr} (hp : a.heap.size ≤ p.block) (u : Value) : Gr a (b.setCell p u) := Below.setCell h hp u
theorem Gr.grow {a b : World} (h : Gr a b) (d : Nat) (os : Array Obj) : Gr a (grow (redrawn b d) os) := Gr.step h (below_regrown b d os)
/-- A callee's contract that ends in 'Gr', met in a world of the class. -/
theorem Calls.gr_of {P : Program} {f : FuncId} {args : Array Value} {w : World} {d : Nat} {os : Array Obj} {v : Value}
    (h : Calls P f args (Sort.grow (redrawn w d) os) fun e w' => e = .returned v ∧ Gr (Sort.grow (redrawn w d) os) w') : Calls P f args (Sort.grow (redrawn w d) os) fun e w'' => e = .returned v ∧ ∃ p : Regrown, w'' = Sort.grow (redrawn w p.d) p.os := Calls.regrown_of h
theorem Calls.gr_same {P : Program} {f : FuncId} {args : Array Value} {w : World} {d : Nat} {os : Array Obj} {v : Value}
    (h : Calls P f args (Sort.grow (redrawn w d) os) fun e w' => e = .returned v ∧ Sort.grow (redrawn w d) os = w') : Calls P f args (Sort.grow (redrawn w d) os) fun e w'' => e = .returned v ∧ ∃ p : Regrown, w'' = Sort.grow (redrawn w p.d) p.os :=
  h.mono fun _ _ ⟨he, hb⟩ => ⟨he, ⟨d, os⟩, hb.symm⟩
theorem two_cells (w : World) (x y : Value) (T : TypeId) : (∀ d os, (Sort.grow (redrawn (w.alloc (.cells #[x, y] T)) d) os).cell? ⟨w.heap.size, 0, none⟩ = some x) ∧ (∀ d os, (Sort.grow (redrawn (w.alloc (.cells #[x, y] T)) d) os).cell? ⟨w.heap.size, 1, none⟩ = some y) :=
  ⟨fun d os => cell_regrown (by simp) d os, fun d os => cell_regrown (by simp) d os⟩
theorem Gr.cells {W w1 : World} (hb : Gr W w1) : (∀ b o, b < W.heap.size → w1.cell? ⟨b, o, none⟩ = W.cell? ⟨b, o, none⟩) ∧ (∀ b o, b < W.heap.size → w1.frozen? ⟨b, o, none⟩ = W.frozen? ⟨b, o, none⟩) :=
  ⟨fun b o h => Below.cell hb (p := ⟨b, o, none⟩) h, fun b o h => Below.frozen hb (p := ⟨b, o, none⟩) h⟩
theorem ret_int {k : IntKind} {a b : Int} (h : a = b) : Ending.returned (.int k a) = .returned (.int k b) := by rw [h]
theorem ret_bool {a b : Bool} (h : a = b) : Ending.returned (.bool a) = .returned (.bool b) := by rw [h]

theorem after_any (n : Int) (w : World) (h0 : 0 ≤ n) (h1 : n ≤ 32) :
    Calls Tryd.prog 62 #[.int .i64 n] w fun e w' => e = .returned (.int .u32 (sz n - 1)) ∧ w = w' := by
  go_enter Tryd.func62, Tryd.ntmps62
  go_wp2
  go_ret
  exact ⟨ret_int (after_eq n h0 h1), rfl⟩

theorem size_any (n : Int) (w : World) (h0 : 0 ≤ n) (h1 : n ≤ 32) :
    Calls Tryd.prog 59 #[.int .i64 n] w fun e w' => e = .returned (.int .i64 (sz n)) ∧ w = w' := by
  go_enter Tryd.func59, Tryd.ntmps59
  go_wp2
  go_ret
  exact ⟨ret_int (by have e := size_eq n h0 h1; have := sz_le n; have := sz_pos n; rw [Int.one_mul] at e; rw [e]; exact IntWalk.wrap64_in _ ⟨by omega, by omega⟩), rfl⟩

/-- Valid, the landed one and the document's. -/
theorem valid_any (a n : Int) (w : World) (h0 : 0 ≤ a) (h1 : a < 4294967296) :
    Calls Tryd.prog 44 #[.agg #[.int .u32 a, .int .i64 n]] w fun e w' => e = .returned (.bool (vld a n)) ∧ Gr w w' := by
  by_cases hlo : n < 0
  · have hd : decide (0 ≤ n) = false := by simpa using hlo
    have hv := Lib.hid (vld_no (a := a) (Or.inl hlo))
    go_enter Tryd.func44, Tryd.ntmps44
    go_wp2
    go_quiet (fail)
    go_wp2
    go_ret
    exact ⟨ret_bool hv.out.symm, (by repeat' (first | (with_reducible exact Gr.refl _) | (with_reducible assumption) | (with_reducible refine Gr.drewN ?_ _) | (with_reducible refine Gr.drew ?_) | (with_reducible refine Gr.alloc ?_ _) | (with_reducible refine Gr.setCell ?_ ?_ _) | (with_reducible refine Gr.grow ?_ _ _) | (refine Gr.step ?_ (by with_reducible assumption)) | go_size))⟩
  by_cases hhi : 32 < n
  · have hd : decide (0 ≤ n) = true := by simpa using hlo
    have hd2 : decide (n ≤ 32) = false := by simpa using hhi
    have hv := Lib.hid (vld_no (a := a) (Or.inr hhi))
    go_enter Tryd.func44, Tryd.ntmps44
    go_wp2
    go_quiet (fail)
    go_wp2
    go_ret
    exact ⟨ret_bool hv.out.symm, (by repeat' (first | (with_reducible exact Gr.refl _) | (with_reducible assumption) | (with_reducible refine Gr.drewN ?_ _) | (with_reducible refine Gr.drew ?_) | (with_reducible refine Gr.alloc ?_ _) | (with_reducible refine Gr.setCell ?_ ?_ _) | (with_reducible refine Gr.grow ?_ _ _) | (refine Gr.step ?_ (by with_reducible assumption)) | go_size))⟩
  · have g0 : 0 ≤ n := by omega
    have g1 : n ≤ 32 := by omega
    have hd : decide (0 ≤ n) = true := by simpa using hlo
    have hd2 : decide (n ≤ 32) = true := by simpa using hhi
    have hv : (bits .and .u32 a (sz n - 1) == 0) = vld a n := by
      rw [and_after a n h0 h1, Bool.eq_iff_iff, vld_iff, beq_iff_eq]; omega
    have Hv := Lib.hid hv; clear hv
    go_enter Tryd.func44, Tryd.ntmps44
    go_wp2
    go_quiet ((go_at_call 62; exact Calls.quiet_of_same ((after_any n _ g0 g1).mono fun e w' ⟨he, hw⟩ => ⟨he, hw.symm⟩)))
    go_wp2
    go_ret
    exact ⟨ret_bool Hv.out, (by repeat' (first | (with_reducible exact Gr.refl _) | (with_reducible assumption) | (with_reducible refine Gr.drewN ?_ _) | (with_reducible refine Gr.drew ?_) | (with_reducible refine Gr.alloc ?_ _) | (with_reducible refine Gr.setCell ?_ ?_ _) | (with_reducible refine Gr.grow ?_ _ _) | (refine Gr.step ?_ (by with_reducible assumption)) | go_size))⟩

theorem valid_yes (a n : Int) (w : World) (h0 : 0 ≤ a) (h1 : a < 4294967296) (hv : vld a n = true) :
    Calls Tryd.prog 44 #[.agg #[.int .u32 a, .int .i64 n]] w fun e w' => e = .returned (.bool true) ∧ Gr w w' := by
  rw [← hv]; exact valid_any a n w h0 h1
theorem valid_no (a n : Int) (w : World) (h0 : 0 ≤ a) (h1 : a < 4294967296) (hv : vld a n = false) :
    Calls Tryd.prog 44 #[.agg #[.int .u32 a, .int .i64 n]] w fun e w' => e = .returned (.bool false) ∧ Gr w w' := by
  rw [← hv]; exact valid_any a n w h0 h1


end Go.Proofs.YtoaboflepfmkpaaDoor
