/- The document's numbers: half. -/
import Derived.Test.YtikkobmccagdlaaGreatDoorRt
import Derived.WalkKit
import Derived.WalkSpells
import Derived.WalkLawsBesides
import Derived.WalkSmall
import Derived.Handy
import Derived.BigQuiet
import Derived.Deep.QuietTactic
import Derived.Deep.RegionHeld3
import Derived.Deep.DeepFit
import Derived.Below
import Derived.Lib.Hide
import Derived.Lib.QuietBelow
import Derived.Deep.DeepCutAuto
namespace Go.Proofs.YtikkobmccagdlaaGreatDoor
open Go Go.RowKit Go.Sort
set_option maxRecDepth 100000
set_option linter.unusedVariables false
/-- what the loop of half keeps -/
def HfRel (N r : Nat) (w1 : World) (cv s : Value) (wr : World) : Prop :=
  ∃ (k c : Nat) (Q : List Nat), s = .int .i64 ((k : Int) - 1) ∧ cv = .int .i64 c ∧ c ≤ 1 ∧ k ≤ (nd N).length ∧ Q.length = (nd N).length ∧ Lim Q ∧ nv ((nd N).drop k) = nv (Q.drop k) * 2 + c ∧ Arr wr r 0 Q ∧ Ex r w1 wr
set_option maxHeartbeats 2000000 in
theorem half_any {N : Nat} (v : Value) (w : World) (h : Num w v N) (lN : (nd N).length ≤ 10000) :
    Calls Tryz.prog 78 #[v] w (OneNum w (N / 2)) := by
  have hN0 := h
  obtain ⟨aa, acap, rfl, -, -, -⟩ := h
  have hN := Lib.hid hN0
  clear hN0
  obtain ⟨ti, hi1, hi2, hi3, hi4⟩ := intInfo
  go_enter Tryz.func78, Tryz.ntmps78
  go_wp2_with (refine wpList_make_full _ rfl _ _ 24 rfl w.heap.size 3 ti (.int .i64 0) 1 Tryz.underlying24 hi1 hi2 hi3 .i64 .i64 _ _ ((nd N).length) rfl rfl (by simp) (by simp) (by rw [hi4]; omega) (by unfold maxLen; omega) (Nat.le_refl _) ?_; intro w1 hown1 hgrow1)
  obtain ⟨hn, harr, hlt, hcap, hcap2⟩ := (own_made hown1).arr
  have hG1 : Gr w w1 := Gr.grown (Gr.refl _) hgrow1 (fun k hk => by cases hk)
  have hGr := Lib.hid hG1
  obtain ⟨r, hr⟩ : ∃ r, r = w.heap.size := ⟨_, rfl⟩
  have hA1 : Rd (· ≠ r) w1 (.slice aa (nd N).length acap) (nd N) := Rd.gr (hN.out.off (by omega)) hG1
  rw [← hr] at harr hlt ⊢
  have HR := Lib.hid hr
  have HA1 := Lib.hid hA1
  clear hA1 hr hG1 hown1 hgrow1 hn hi1 hi2 hi3 hi4
  go_loopw [4, 5] (fun cv s wr => HfRel N r w1 cv s wr) (fun _ s _ => (intOf s + 1).toNat)
  case atStart => exact ⟨(nd N).length, 0, _, rfl, rfl, by omega, Nat.le_refl _, List.length_replicate, lim_replicate _, by rw [List.drop_of_length_le (Nat.le_refl _), List.drop_of_length_le (by rw [List.length_replicate]; exact Nat.le_refl _)]; rfl, harr, Ex.refl _ _⟩
  case round =>
    obtain ⟨k, c, Q, rfl, rfl, hc, hk, hQl, hQL, hQv, hQa, hex⟩ := hrel
    have HQL := Lib.hid hQl
    have HLQ := Lib.hid hQL
    have HQV := Lib.hid hQv
    have HQA := Lib.hid hQa
    clear hQl hQL hQv hQa
    by_cases hk0 : 0 < k
    · obtain ⟨k, rfl⟩ : ∃ j, k = j + 1 := ⟨k - 1, by omega⟩
      have e1 : ((k + 1 : Nat) : Int) - 1 = (k : Int) := by omega
      rw [e1]
      obtain ⟨ba, oa, rfl, hba, hca⟩ := (HA1.out.ex hex).at' (i := k) (by omega)
      obtain ⟨hcl, hfr⟩ := HQA.out k (by rw [HQL.out]; omega)
      rw [Nat.zero_add] at hcl hfr
      have hxl := lim_getD (lim_nd N) k
      have HDN := Lib.hid (nv_drop (l := nd N) (i := k) (by omega))
      generalize hxx : (nd N).getD k 0 = x at *
      obtain ⟨h, hh⟩ : ∃ h : Nat, h = (x + c * 1073741824) / 2 := ⟨_, rfl⟩
      obtain ⟨r', hr'⟩ : ∃ r' : Nat, r' = (x + c * 1073741824) % 2 := ⟨_, rfl⟩
      have hh0 : ((x : Int) + (c : Int) * 1073741824) / 2 = (h : Int) := by omega
      have hr0 : ((x : Int) + (c : Int) * 1073741824) % 2 = (r' : Int) := by omega
      have HST := Lib.hid (half_step (h := h) (r := r') (x := x) HQV.out (by omega))
      have HH : Hid (h < 1073741824) := Lib.hid (by omega)
      have x1 : (x : Int) < 1073741824 := by omega
      have c1 : (c : Int) ≤ 1 := by omega
      have k0 : (0 : Int) ≤ (k : Int) := by omega
      have k1 : (k : Int) < ((nd N).length : Int) := by omega
      have HEX := Lib.hid hex
      have hrr : r' ≤ 1 := by omega
      clear hxx hh hr' e1 hex
      go_wp2_with fail
      refine ⟨⟨k, r', Q.set k h, rfl, iv hr0, hrr, by omega, by rw [List.length_set]; exact HQL.out, lim_set HLQ.out _ HH.out, ?_, ?_, HEX.out.trans (Ex.set (Ex.refl _ _) _ _)⟩, ?_⟩
      · rw [HDN.out, drop_set (by rw [HQL.out]; omega), nv]
        exact HST.out
      · have := HQA.out.set (i := k) (by rw [HQL.out]; omega) h
        rwa [Nat.zero_add] at this
      · simp only [intOf]; omega
    · obtain rfl : k = 0 := by omega
      have hrd : Rd (fun _ => True) wr (.slice (some ⟨r, 0, none⟩) (nd N).length (nd N).length) Q := by
        have := HQA.out.rd (p := fun _ => True) (cap := (nd N).length) (by rw [HQL.out]; exact Nat.le_refl _) (by omega) trivial
        rwa [HQL.out] at this
      have hnv : nv Q = N / 2 := by
        have h := HQV.out
        rw [List.drop_zero, List.drop_zero, nv_nd] at h
        omega
      have HT := Lib.hid (rtrim_any wr hrd HLQ.out)
      have HN := Lib.hid hnv
      have hG : Gr w wr := Ex.gr hGr.out (by rw [← HR.out]; exact Nat.le_refl _) hex
      have e0 : ((0 : Nat) : Int) - 1 = -1 := by omega
      rw [e0]
      clear hnv hrd
      go_wp2_with fail
      refine HT.out.mono ?_
      rintro e w' ⟨v, rfl, hv, rfl⟩
      rw [HN.out] at hv
      have HF := Lib.hid hv
      clear hv
      go_wp2_with fail
      go_ret
      exact ⟨v, rfl, HF.out.any, hG⟩
end Go.Proofs.YtikkobmccagdlaaGreatDoor
