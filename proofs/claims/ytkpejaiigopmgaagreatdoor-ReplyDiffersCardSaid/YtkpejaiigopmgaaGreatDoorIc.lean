/- The package ipv4: Check. -/
import Derived.Test.YtkpejaiigopmgaaGreatDoorGr
import Derived.WalkKit
import Derived.WalkSpells
import Derived.WalkLawsBesides
import Derived.WalkSmall
import Derived.Handy
import Derived.BigQuiet
import Derived.Deep.QuietTactic
import Derived.Deep.RegionHeld3
import Derived.Deep.DeepFit
import Derived.Below
import Derived.Lib.Hide
import Derived.Lib.QuietBelow
namespace Go.Proofs.YtkpejaiigopmgaaGreatDoor
open Go Go.RowKit Go.Sort
set_option maxRecDepth 100000
set_option linter.unusedVariables false
/-- a header as a value -/
def hdV (tos id ttl proto : Int) (keep : Bool) (src dst : Int) : Value := .agg #[.int .i64 tos, .int .i64 id, .int .i64 ttl, .int .i64 proto, .bool keep, .int .u32 src, .int .u32 dst]
def inB (n : Int) : Prop := 0 ≤ n ∧ n ≤ 255
instance (n : Int) : Decidable (inB n) := inferInstanceAs (Decidable (_ ∧ _))
def ckOk (tos id ttl proto : Int) : Prop := inB tos ∧ inB ttl ∧ inB proto ∧ 0 ≤ id ∧ id ≤ 65535
instance (a b c d : Int) : Decidable (ckOk a b c d) := inferInstanceAs (Decidable (_ ∧ _))
def ckE (tos id ttl proto : Int) : Int := if ckOk tos id ttl proto then 0 else 1
theorem ckE_yes {a b c d : Int} (h : ckOk a b c d) : ckE a b c d = 0 := if_pos h
theorem ckE_no {a b c d : Int} (h : ¬ ckOk a b c d) : ckE a b c d = 1 := if_neg h
theorem inByte_any (n : Int) (w : World) (c : Bool) (hc : c = decide (inB n)) :
    Calls Tryz.prog 44 #[.int .i64 n] w fun e w' => e = .returned (.bool c) ∧ w = w' := by
  have HC := Lib.hid hc
  clear hc
  by_cases h0 : 0 ≤ n
  · have d1 : decide (0 ≤ n) = true := by simpa using h0
    by_cases h1 : n ≤ 255
    · have d2 : decide (n ≤ 255) = true := by simpa using h1
      have H := Lib.hid (show c = true from HC.out.trans (decide_eq_true ⟨h0, h1⟩))
      go_enter Tryz.func44, Tryz.ntmps44
      go_wp2
      go_ret
      first | exact ⟨ret_bool H.out.symm, rfl⟩ | (rw [H.out]; exact ⟨rfl, rfl⟩)
    · have d2 : decide (n ≤ 255) = false := by simpa using h1
      have H := Lib.hid (show c = false from HC.out.trans (decide_eq_false fun h => h1 h.2))
      go_enter Tryz.func44, Tryz.ntmps44
      go_wp2
      go_ret
      first | exact ⟨ret_bool H.out.symm, rfl⟩ | (rw [H.out]; exact ⟨rfl, rfl⟩)
  · have d1 : decide (0 ≤ n) = false := by simpa using h0
    have H := Lib.hid (show c = false from HC.out.trans (decide_eq_false fun h => h0 h.1))
    go_enter Tryz.func44, Tryz.ntmps44
    go_wp2
    go_ret
    first | exact ⟨ret_bool H.out.symm, rfl⟩ | (rw [H.out]; exact ⟨rfl, rfl⟩)
theorem inByte_yes (n : Int) (w : World) (h : inB n) : Calls Tryz.prog 44 #[.int .i64 n] w fun e w' => e = .returned (.bool true) ∧ w = w' := inByte_any n w true (by simpa using h)
theorem inByte_no (n : Int) (w : World) (h : ¬ inB n) : Calls Tryz.prog 44 #[.int .i64 n] w fun e w' => e = .returned (.bool false) ∧ w = w' := inByte_any n w false (by simpa using h)
set_option maxHeartbeats 4000000 in
theorem check_any (tos id ttl proto : Int) (keep : Bool) (src dst : Int) (w : World) :
    Calls Tryz.prog 21 #[hdV tos id ttl proto keep src dst] w fun e w' => e = .returned (.int .i64 (ckE tos id ttl proto)) ∧ Gr w w' := by
  by_cases h1 : inB tos
  · have H1 := Lib.hid (fun w => inByte_yes tos w h1)
    by_cases h2 : inB ttl
    · have H2 := Lib.hid (fun w => inByte_yes ttl w h2)
      by_cases h3 : inB proto
      · have H3 := Lib.hid (fun w => inByte_yes proto w h3)
        by_cases h4 : id < 0
        · have d4 : decide (id < 0) = true := by simpa using h4
          have H := Lib.hid (ckE_no (a := tos) (b := id) (c := ttl) (d := proto) (fun h => by have := h.2.2.2; omega))
          clear h1 h2 h3 h4
          unfold hdV
          go_enter Tryz.func21, Tryz.ntmps21
          go_wp2_with fail
          refine (H1.out _).mono ?_
          rintro e w1 ⟨rfl, rfl⟩
          go_wp2_with fail
          refine (H2.out _).mono ?_
          rintro e w1 ⟨rfl, rfl⟩
          go_wp2_with fail
          refine (H3.out _).mono ?_
          rintro e w1 ⟨rfl, rfl⟩
          go_wp2_with fail
          go_ret
          exact ⟨ret_int H.out.symm, Gr.alloc (Gr.refl _) _⟩
        · have d4 : decide (id < 0) = false := by simpa using h4
          by_cases h5 : 65535 < id
          · have d5 : decide (65535 < id) = true := by simpa using h5
            have H := Lib.hid (ckE_no (a := tos) (b := id) (c := ttl) (d := proto) (fun h => by have := h.2.2.2; omega))
            clear h1 h2 h3 h4 h5
            unfold hdV
            go_enter Tryz.func21, Tryz.ntmps21
            go_wp2_with fail
            refine (H1.out _).mono ?_
            rintro e w1 ⟨rfl, rfl⟩
            go_wp2_with fail
            refine (H2.out _).mono ?_
            rintro e w1 ⟨rfl, rfl⟩
            go_wp2_with fail
            refine (H3.out _).mono ?_
            rintro e w1 ⟨rfl, rfl⟩
            go_wp2_with fail
            go_ret
            exact ⟨ret_int H.out.symm, Gr.alloc (Gr.refl _) _⟩
          · have d5 : decide (65535 < id) = false := by simpa using h5
            have H := Lib.hid (ckE_yes (a := tos) (b := id) (c := ttl) (d := proto) ⟨h1, h2, h3, by omega, by omega⟩)
            clear h1 h2 h3 h4 h5
            unfold hdV
            go_enter Tryz.func21, Tryz.ntmps21
            go_wp2_with fail
            refine (H1.out _).mono ?_
            rintro e w1 ⟨rfl, rfl⟩
            go_wp2_with fail
            refine (H2.out _).mono ?_
            rintro e w1 ⟨rfl, rfl⟩
            go_wp2_with fail
            refine (H3.out _).mono ?_
            rintro e w1 ⟨rfl, rfl⟩
            go_wp2_with fail
            go_ret
            exact ⟨ret_int H.out.symm, Gr.alloc (Gr.refl _) _⟩
      · have H3 := Lib.hid (fun w => inByte_no proto w h3)
        have H := Lib.hid (ckE_no (a := tos) (b := id) (c := ttl) (d := proto) (fun h => h3 h.2.2.1))
        clear h1 h2 h3
        unfold hdV
        go_enter Tryz.func21, Tryz.ntmps21
        go_wp2_with fail
        refine (H1.out _).mono ?_
        rintro e w1 ⟨rfl, rfl⟩
        go_wp2_with fail
        refine (H2.out _).mono ?_
        rintro e w1 ⟨rfl, rfl⟩
        go_wp2_with fail
        refine (H3.out _).mono ?_
        rintro e w1 ⟨rfl, rfl⟩
        go_wp2_with fail
        go_ret
        exact ⟨ret_int H.out.symm, Gr.alloc (Gr.refl _) _⟩
    · have H2 := Lib.hid (fun w => inByte_no ttl w h2)
      have H := Lib.hid (ckE_no (a := tos) (b := id) (c := ttl) (d := proto) (fun h => h2 h.2.1))
      clear h1 h2
      unfold hdV
      go_enter Tryz.func21, Tryz.ntmps21
      go_wp2_with fail
      refine (H1.out _).mono ?_
      rintro e w1 ⟨rfl, rfl⟩
      go_wp2_with fail
      refine (H2.out _).mono ?_
      rintro e w1 ⟨rfl, rfl⟩
      go_wp2_with fail
      go_ret
      exact ⟨ret_int H.out.symm, Gr.alloc (Gr.refl _) _⟩
  · have H1 := Lib.hid (fun w => inByte_no tos w h1)
    have H := Lib.hid (ckE_no (a := tos) (b := id) (c := ttl) (d := proto) (fun h => h1 h.1))
    clear h1
    unfold hdV
    go_enter Tryz.func21, Tryz.ntmps21
    go_wp2_with fail
    refine (H1.out _).mono ?_
    rintro e w1 ⟨rfl, rfl⟩
    go_wp2_with fail
    go_ret
    exact ⟨ret_int H.out.symm, Gr.alloc (Gr.refl _) _⟩
end Go.Proofs.YtkpejaiigopmgaaGreatDoor
