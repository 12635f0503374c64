/- The package ipv4: Lower. -/
import Derived.Test.YtlkhdbgknkjioaaId
import Derived.WalkKit
import Derived.WalkSpells
import Derived.WalkLawsBesides
import Derived.WalkSmall
import Derived.Handy
import Derived.BigQuiet
import Derived.Deep.QuietTactic
import Derived.Deep.RegionHeld3
import Derived.Deep.DeepFit
import Derived.Below
import Derived.Lib.Hide
import Derived.Lib.QuietBelow
namespace Go.Proofs.Ytlkhdbgknkjioaa
open Go Go.RowKit Go.Sort
set_option maxRecDepth 100000
set_option linter.unusedVariables false
/-- what Lower answers -/
def lwE (l : List Nat) : Nat := if dcE l ≠ 0 then dcE l else if (hdAt l).ttl < 2 then 7 else 0
theorem lwE_bad {l : List Nat} (h : dcE l ≠ 0) : lwE l = dcE l := if_pos h
theorem lwE_state {l : List Nat} (h : dcE l = 0) (h2 : (hdAt l).ttl < 2) : lwE l = 7 := (if_neg (fun k => k h)).trans (if_pos h2)
theorem lwE_ok {l : List Nat} (h : dcE l = 0) (h2 : ¬ (hdAt l).ttl < 2) : lwE l = 0 := (if_neg (fun k => k h)).trans (if_neg h2)
theorem pkE_le (l : List Nat) : pkE l ≤ 4 := by unfold pkE; split <;> (try split) <;> (try split) <;> omega
theorem dcE_le (l : List Nat) : dcE l ≤ 5 := by have := pkE_le l; unfold dcE; split <;> (try split) <;> (try split) <;> omega
theorem dcE_facts {l : List Nat} (hn : dcE l = 0) : pkE l = 0 ∧ gN l 2 2 = l.length ∧ 20 ≤ l.length ∧ l.length ≤ 1500 := by
  have h0 : pkE l = 0 := by
    by_cases h : pkE l = 0
    · exact h
    · rw [dcE_bad h] at hn; exact hn
  have h2 : gN l 2 2 = l.length := by
    by_cases h : gN l 2 2 = l.length
    · exact h
    · rw [dcE_form h0 h] at hn; omega
  have h3 : ¬ 1500 < gN l 2 2 := by
    intro h
    rw [dcE_limit h0 h2 h] at hn; omega
  exact ⟨h0, h2, pkE_len h0, by omega⟩
set_option maxHeartbeats 1000000 in
theorem lower_err {p : Nat → Prop} {v : Value} {l : List Nat} (w : World) (hr : Rb p w v l) (hl : l.length ≤ 90000) (hn : lwE l ≠ 0) :
    Calls Try.prog 43 #[v] w fun e w' => e = .returned (.tuple #[.slice none 0 0, .int .i64 (lwE l : Nat)]) ∧ Gr w w' := by
  by_cases h0 : dcE l = 0
  · by_cases h1 : (hdAt l).ttl < 2
    · rw [lwE_state h0 h1]
      have HD := Lib.hid (decode_ok w hr hl h0)
      unfold Hd.p pkV at HD
      clear hn h0
      generalize hdAt l = h at *
      have d1 : decide ((h.ttl : Int) < 2) = true := by rw [decide_eq_true_eq]; omega
      obtain ⟨a, cap, rfl, hcap, hmx⟩ := hr.form
      go_enter Try.func43, Try.ntmps43
      go_wp2_with fail
      refine HD.out.mono ?_
      rintro e w1 ⟨v1, rfl, ho, hg⟩
      obtain ⟨a1, c1, rfl, -, -⟩ := ho.rb.form
      clear ho
      go_wp2_with fail
      go_ret2
      exact ⟨rfl, hg.alloc _⟩
    · exact absurd (lwE_ok h0 h1) hn
  · rw [lwE_bad h0]
    have HD := Lib.hid (decode_err w hr hl h0)
    unfold DcErr pkV at HD
    have d1 : ((dcE l : Int) == 0) = false := by rw [beq_eq_false_iff_ne]; omega
    clear hn h0
    generalize dcE l = E at *
    obtain ⟨a, cap, rfl, hcap, hmx⟩ := hr.form
    go_enter Try.func43, Try.ntmps43
    go_wp2_with fail
    refine HD.out.mono ?_
    rintro e w1 ⟨rfl, hg⟩
    go_wp2_with fail
    go_ret2
    exact ⟨rfl, hg.alloc _⟩
set_option maxHeartbeats 1000000 in
theorem lower_ok {p : Nat → Prop} {v : Value} {l : List Nat} (w : World) (hr : Rb p w v l) (hl : l.length ≤ 90000) (hn : lwE l = 0) :
    Calls Try.prog 43 #[v] w fun e w' => ∃ v', e = .returned (.tuple #[v', .int .i64 0]) ∧ OwB w.heap.size w' v' (hbytes (hdAt l).low l.length ++ l.drop 20) ∧ Gr w w' := by
  have h0 : dcE l = 0 := by
    by_cases h : dcE l = 0
    · exact h
    · rw [lwE_bad h] at hn; exact hn
  have h1 : ¬ (hdAt l).ttl < 2 := by
    intro h; rw [lwE_state h0 h] at hn; omega
  obtain ⟨-, -, h20, h15⟩ := dcE_facts h0
  have htt := (hdAt_ok hr.bytes).ttl
  have hk := Hd.low_ok (hdAt_ok hr.bytes)
  have HD := Lib.hid (decode_ok w hr hl h0)
  have HE := Lib.hid (fun (v : Value) (w : World) (hv : Rb (fun _ => True) w v (l.drop 20)) => encode_ok (hdAt l).low hk w hv (by rw [List.length_drop]; omega))
  have e20 : 20 + (l.drop 20).length = l.length := by rw [List.length_drop]; omega
  rw [e20] at HE
  unfold Hd.low Hd.p pkV at HE
  unfold Hd.p pkV at HD
  unfold Hd.low
  clear hn h0 hk e20
  generalize hdAt l = h at *
  simp only at HE
  obtain ⟨T, hT⟩ : ∃ T, T = h.ttl - 1 := ⟨_, rfl⟩
  rw [← hT] at HE ⊢
  have e1 : (h.ttl : Int) - 1 = (T : Int) := by omega
  have hT2 : T ≤ 255 := by omega
  have d1 : decide ((h.ttl : Int) < 2) = false := by rw [decide_eq_false_iff_not]; omega
  clear hT h1
  obtain ⟨a, cap, rfl, hcap, hmx⟩ := hr.form
  go_enter Try.func43, Try.ntmps43
  go_wp2_with fail
  refine HD.out.mono ?_
  rintro e w1 ⟨v1, rfl, ho, hg⟩
  have HO := Lib.hid ho.rb.any
  obtain ⟨a1, c1, rfl, -, -⟩ := ho.rb.form
  generalize (l.drop 20).length = M at *
  clear ho
  have hg2 := Gr.alloc (Gr.refl w1) (.cells #[.int .i64 h.tos, .int .i64 h.id, .int .i64 T, .int .i64 h.proto, .bool h.keep, .int .u32 h.src, .int .u32 h.dst, .slice a1 M c1] 85)
  go_wp2_with fail
  refine (HE.out _ _ (HO.out.gr hg2)).mono ?_
  rintro e w3 ⟨v3, rfl, ho3, hg3⟩
  have HO3 := Lib.hid (ho3.base (b := w.heap.size) (by have := Gr.size hg; simp; omega))
  have hgg := (hg.step hg2).step hg3
  clear ho3 hg2 hg3
  go_wp2_with fail
  go_ret2
  exact ⟨_, rfl, HO3.out, hgg⟩
end Go.Proofs.Ytlkhdbgknkjioaa
