/- The document's Format and FormatPrefix. -/
import Derived.Test.YtoaboflepfmkpaaDoorRefText
import Derived.Test.YtoaboflepfmkpaaDoorPrefix
import Derived.Test.YtoaboflepfmkpaaDoorNumsB
import Derived.Test.YtoaboflepfmkpaaDoorSpecial
import Derived.WalkKit
import Derived.WalkSpells
import Derived.WalkLawsBesides
import Derived.WalkSmall
import Derived.Handy
import Derived.BigQuiet
import Derived.Deep.QuietTactic
import Derived.Deep.RegionHeld3
import Derived.Deep.DeepFit
import Derived.Below
import Derived.Lib.Hide
import Derived.Lib.QuietBelow
import Derived.Laws.BytesArg
namespace Go.Proofs.YtoaboflepfmkpaaDoor
open Go Go.RowKit Go.Sort
set_option maxRecDepth 100000
set_option linter.unusedVariables false

theorem dd_one : ∀ k : Nat, k < 10 → dd k = [UInt8.ofNat (48 + k)] := by decide +kernel
theorem dd_step : ∀ k : Nat, k ≤ 255 → 10 ≤ k → dd k = dd ((k / 10 : Nat) : Int) ++ [UInt8.ofNat (48 + k % 10)] := by decide +kernel
theorem conv_one (k : Nat) (w : World) : (convert 37 9 (.slice (some ⟨w.heap.size, 0, none⟩) 1 1)).run Tryd.prog (w.alloc (.cells #[.int .u8 (48 + (k : Int) % 10)] 5)) = .ok (.string (str [UInt8.ofNat (48 + k % 10)])) (w.alloc (.cells #[.int .u8 (48 + (k : Int) % 10)] 5)) := by
  have h := run_convert_bytes_arg (P := Tryd.prog) (w.alloc (.cells #[.int .u8 (48 + (k : Int) % 10)] 5)) 37 5 Tryd.underlying37 Tryd.underlying5 w.heap.size 0 1 1 [48 + (k : Int) % 10] rfl (by
    intro i hi
    obtain rfl : i = 0 := by omega
    simp) 9 Tryd.underlying9
  rw [h]
  have e : strOfNums [48 + (k : Int) % 10] = str [UInt8.ofNat (48 + k % 10)] := by
    have : (48 + (k : Int) % 10).toNat = 48 + k % 10 := by omega
    simp [strOfNums, str, this]
  rw [e]
set_option maxHeartbeats 1000000 in
theorem dec_one (k : Nat) (w : World) (h : k < 10) :
    Calls Tryd.prog 39 #[.int .i64 k] w fun e w' => e = .returned (.string (str (dd k))) ∧ Gr w w' := by
  have E := dd_one k h
  have h3 : k % 10 = k := by omega
  have C := conv_one k w
  rw [h3, ← E] at C
  have h0 : (0 : Int) ≤ k := by omega
  have h1 : (k : Int) < 10 := by omega
  have h2 : ¬ (10 : Int) ≤ k := by omega
  generalize dd k = d at *
  clear E
  go_enter Tryd.func39, Tryd.ntmps39
  go_wp2
  go_ret
  exact ⟨rfl, (by repeat' (first | (with_reducible exact Gr.refl _) | (with_reducible assumption) | (with_reducible refine Gr.drewN ?_ _) | (with_reducible refine Gr.drew ?_) | (with_reducible refine Gr.alloc ?_ _) | (with_reducible refine Gr.setCell ?_ ?_ _) | (with_reducible refine Gr.grow ?_ _ _) | (refine Gr.step ?_ (by with_reducible assumption)) | go_size))⟩
set_option maxHeartbeats 1000000 in
theorem dec_more (k : Nat) (w : World) (h : 10 ≤ k) (hk : k ≤ 255) (ih : ∀ w, Calls Tryd.prog 39 #[.int .i64 ((k / 10 : Nat) : Int)] w fun e w' => e = .returned (.string (str (dd ((k / 10 : Nat) : Int)))) ∧ Gr w w') :
    Calls Tryd.prog 39 #[.int .i64 k] w fun e w' => e = .returned (.string (str (dd k))) ∧ Gr w w' := by
  have E := dd_step k hk h
  have C := conv_one k w
  have hl := dd_len ((k / 10 : Nat) : Int) (by omega) (by omega)
  have S := add_str (dd ((k / 10 : Nat) : Int)) [UInt8.ofNat (48 + k % 10)] (by rw [List.length_singleton]; omega)
  rw [← E] at S
  rw [show ((k / 10 : Nat) : Int) = (k : Int) / 10 by omega] at ih S
  have h0 : (0 : Int) ≤ k := by omega
  have h1 : (k : Int) ≤ 255 := by omega
  have h2 : (10 : Int) ≤ k := by omega
  generalize dd k = d at *
  generalize dd ((k : Int) / 10) = d1 at *
  generalize [UInt8.ofNat (48 + k % 10)] = d2 at *
  have IH := Lib.hid ih
  clear E ih hl
  go_enter Tryd.func39, Tryd.ntmps39
  go_wp2_with (go_at_call 39; refine (IH.out _).mono ?_; rintro e w1 ⟨rfl, hg1⟩)
  go_ret
  exact ⟨rfl, (by repeat' (first | (with_reducible exact Gr.refl _) | (with_reducible assumption) | (with_reducible refine Gr.drewN ?_ _) | (with_reducible refine Gr.drew ?_) | (with_reducible refine Gr.alloc ?_ _) | (with_reducible refine Gr.setCell ?_ ?_ _) | (with_reducible refine Gr.grow ?_ _ _) | (refine Gr.step ?_ (by with_reducible assumption)) | go_size))⟩
theorem dec_any (n : Int) (w : World) (h0 : 0 ≤ n) (h1 : n ≤ 255) :
    Calls Tryd.prog 39 #[.int .i64 n] w fun e w' => e = .returned (.string (str (dd n))) ∧ Gr w w' := by
  obtain ⟨k, rfl⟩ := Int.eq_ofNat_of_zero_le h0
  by_cases k10 : k < 10
  · exact dec_one k w k10
  by_cases k100 : k < 100
  · exact dec_more k w (by omega) (by omega) fun w => dec_one _ w (by omega)
  · exact dec_more k w (by omega) (by omega) fun w => dec_more _ w (by omega) (by omega) fun w => dec_one _ w (by omega)
theorem dec_is (n : Int) (d : List UInt8) (w : World) (h0 : 0 ≤ n) (h1 : n ≤ 255) (h : dd n = d) :
    Calls Tryd.prog 39 #[.int .i64 n] w fun e w' => e = .returned (.string (str d)) ∧ Gr w w' := by
  rw [← h]; exact dec_any n w h0 h1
theorem add_dot (x : List UInt8) (c : UInt8) (h : x.length ≤ 1000000) (w : World) : (Op.stringOp .add (str x) ⟨#[c]⟩).run Tryd.prog w = .ok (.string (str (x ++ [c]))) w :=
  add_str x [c] (by simp; omega) w
set_option maxHeartbeats 1000000 in
theorem rformat_any (a : Int) (w : World) (h0 : 0 ≤ a) (h1 : a < 4294967296) :
    Calls Tryd.prog 22 #[.int .u32 a] w fun e w' => e = .returned (.string (str (fmtA a))) ∧ Gr w w' := by
  have l1 := dd_len (a / 16777216) (by omega) (by omega)
  have l2 := dd_len (a / 65536 % 256) (by omega) (by omega)
  have l3 := dd_len (a / 256 % 256) (by omega) (by omega)
  have l4 := dd_len (a % 256) (by omega) (by omega)
  have HF : fmtA a = dd (a / 16777216) ++ (46 :: dd (a / 65536 % 256)) ++ (46 :: dd (a / 256 % 256)) ++ (46 :: dd (a % 256)) := rfl
  have D1 := Lib.hid (fun w => dec_any (a / 16777216) w (by omega) (by omega))
  have D2 := Lib.hid (fun w => dec_any (a / 65536 % 256) w (by omega) (by omega))
  have D3 := Lib.hid (fun w => dec_any (a / 256 % 256) w (by omega) (by omega))
  have D4 := Lib.hid (fun w => dec_any (a % 256) w (by omega) (by omega))
  generalize dd (a / 16777216) = d1 at *
  generalize dd (a / 65536 % 256) = d2 at *
  generalize dd (a / 256 % 256) = d3 at *
  generalize dd (a % 256) = d4 at *
  have r1 := add_dot d1 46 (by omega)
  have r2 := add_str (d1 ++ [46]) d2 (by rw [List.length_append, List.length_singleton]; omega)
  have r3 := add_dot (d1 ++ [46] ++ d2) 46 (by simp only [List.length_append, List.length_singleton]; omega)
  have r4 := add_str (d1 ++ [46] ++ d2 ++ [46]) d3 (by simp only [List.length_append, List.length_singleton]; omega)
  have r5 := add_dot (d1 ++ [46] ++ d2 ++ [46] ++ d3) 46 (by simp only [List.length_append, List.length_singleton]; omega)
  have r6 := add_str (d1 ++ [46] ++ d2 ++ [46] ++ d3 ++ [46]) d4 (by simp only [List.length_append, List.length_singleton]; omega)
  have HE := Lib.hid (show fmtA a = d1 ++ [46] ++ d2 ++ [46] ++ d3 ++ [46] ++ d4 by rw [HF]; simp)
  have e1 := i64_and255 (a / 65536)
  have e2 := i64_and255 (a / 256)
  have e3 := i64_and255 a
  generalize d1 ++ [46] = x1 at *
  generalize x1 ++ d2 = x2 at *
  generalize x2 ++ [46] = x3 at *
  generalize x3 ++ d3 = x4 at *
  generalize x4 ++ [46] = x5 at *
  generalize x5 ++ d4 = x6 at *
  clear HF l1 l2 l3 l4
  go_enter Tryd.func22, Tryd.ntmps22
  go_wp2_with fail
  refine (D1.out _).mono ?_
  rintro e w1 ⟨rfl, hg1⟩
  go_wp2_with fail
  refine (D2.out _).mono ?_
  rintro e w2 ⟨rfl, hg2⟩
  go_wp2_with fail
  refine (D3.out _).mono ?_
  rintro e w3 ⟨rfl, hg3⟩
  go_wp2_with fail
  refine (D4.out _).mono ?_
  rintro e w4 ⟨rfl, hg4⟩
  go_wp2_with fail
  go_ret
  exact ⟨by rw [HE.out]; rfl, (by repeat' (first | (with_reducible exact Gr.refl _) | (with_reducible assumption) | (with_reducible refine Gr.drewN ?_ _) | (with_reducible refine Gr.drew ?_) | (with_reducible refine Gr.alloc ?_ _) | (with_reducible refine Gr.setCell ?_ ?_ _) | (with_reducible refine Gr.grow ?_ _ _) | (refine Gr.step ?_ (by with_reducible assumption)) | go_size))⟩
theorem rformat_is (a : Int) (d : List UInt8) (w : World) (h0 : 0 ≤ a) (h1 : a < 4294967296) (h : fmtA a = d) :
    Calls Tryd.prog 22 #[.int .u32 a] w fun e w' => e = .returned (.string (str d)) ∧ Gr w w' := by
  rw [← h]; exact rformat_any a w h0 h1
set_option maxHeartbeats 1000000 in
theorem rfmtp_any (a n : Int) (w : World) (h0 : 0 ≤ a) (h1 : a < 4294967296) :
    Calls Tryd.prog 16 #[.agg #[.int .u32 a, .int .i64 n]] w fun e w' => e = .returned (.string (str (fmtP a n))) ∧ Gr w w' := by
  cases hv : vld a n
  · have E := Lib.hid (show fmtP a n = [] by simp [fmtP, hv])
    have V := Lib.hid hv
    clear hv
    go_enter Tryd.func16, Tryd.ntmps16
    go_wp2_with (go_at_call 38; refine (rvalid_no a n _ h0 h1 V.out).mono ?_; rintro e w1 ⟨rfl, hg1⟩)
    go_ret
    exact ⟨by rw [E.out]; rfl, (by repeat' (first | (with_reducible exact Gr.refl _) | (with_reducible assumption) | (with_reducible refine Gr.drewN ?_ _) | (with_reducible refine Gr.drew ?_) | (with_reducible refine Gr.alloc ?_ _) | (with_reducible refine Gr.setCell ?_ ?_ _) | (with_reducible refine Gr.grow ?_ _ _) | (refine Gr.step ?_ (by with_reducible assumption)) | go_size))⟩
  · have ⟨n0, n1, _⟩ := vld_iff.1 hv
    have hla := fmtA_len a h0 h1
    have hln := dd_len n n0 (by omega)
    have E := Lib.hid (show fmtP a n = fmtA a ++ [47] ++ dd n by simp [fmtP, hv])
    have V := Lib.hid hv
    have D1 := Lib.hid (fun w => rformat_any a w h0 h1)
    have D2 := Lib.hid (fun w => dec_any n w n0 (by omega))
    generalize fmtA a = d1 at *
    generalize dd n = d2 at *
    have r1 := add_dot d1 47 (by omega)
    have r2 := add_str (d1 ++ [47]) d2 (by simp only [List.length_append, List.length_singleton]; omega)
    generalize d1 ++ [47] = x1 at *
    generalize x1 ++ d2 = x2 at *
    clear hv hla hln
    go_enter Tryd.func16, Tryd.ntmps16
    go_wp2_with (go_at_call 38; refine (rvalid_yes a n _ h0 h1 V.out).mono ?_; rintro e w1 ⟨rfl, hg1⟩)
    have q0 : ∀ d os, (grow (redrawn w1 d) os).cell? ⟨w.heap.size, 0, none⟩ = some (.int .u32 a) := fun d os => cell_regrown (by rw [(Gr.cells hg1).1 _ _ (by simp)]; simp) d os
    have q1 : ∀ d os, (grow (redrawn w1 d) os).cell? ⟨w.heap.size, 1, none⟩ = some (.int .i64 n) := fun d os => cell_regrown (by rw [(Gr.cells hg1).1 _ _ (by simp)]; simp) d os
    refine wp_region_quiet_below (by kernel_rfl) (by kernel_rfl) ?_
    repeat (any_goals (first | go_big_quiet_step (first | (go_at_call 22; exact Calls.gr_of (D1.out _)) | (go_at_call 39; exact Calls.gr_of (D2.out _))) | quiet_step (first | (go_at_call 22; exact Calls.gr_of (D1.out _)) | (go_at_call 39; exact Calls.gr_of (D2.out _)))))
    refine wpQuiet_nil ?_
    intro _ hw'
    obtain ⟨⟨dq, osq⟩, hw''⟩ := hw'
    subst hw''
    go_wp2_with fail
    go_ret
    exact ⟨by rw [E.out]; rfl, (by repeat' (first | (with_reducible exact Gr.refl _) | (with_reducible assumption) | (with_reducible refine Gr.drewN ?_ _) | (with_reducible refine Gr.drew ?_) | (with_reducible refine Gr.alloc ?_ _) | (with_reducible refine Gr.setCell ?_ ?_ _) | (with_reducible refine Gr.grow ?_ _ _) | (refine Gr.step ?_ (by with_reducible assumption)) | go_size))⟩
end Go.Proofs.YtoaboflepfmkpaaDoor
