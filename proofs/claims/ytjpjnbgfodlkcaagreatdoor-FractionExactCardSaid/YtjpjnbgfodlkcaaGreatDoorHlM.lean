/- The document's Cut of strings. -/
import Derived.Test.YtjpjnbgfodlkcaaGreatDoorHgM
import Derived.WalkKit
import Derived.WalkSpells
import Derived.WalkLawsBesides
import Derived.WalkSmall
import Derived.Handy
import Derived.BigQuiet
import Derived.Deep.QuietTactic
import Derived.Deep.RegionHeld3
import Derived.Deep.DeepFit
import Derived.Below
import Derived.Lib.Hide
import Derived.Lib.QuietBelow
import Derived.Maps.AppendAt
import Derived.Deep.DeepCutAuto
namespace Go.Proofs.YtjpjnbgfodlkcaaGreatDoor
open Go Go.RowKit Go.Sort
set_option maxRecDepth 100000
set_option linter.unusedVariables false
theorem data_len (s : ByteArray) : s.data.toList.length = s.size := (Lib.size_eq s).symm
theorem getEl (s : ByteArray) (k : Nat) (h : k < s.size) : s.data.toList[k]'(by rw [data_len]; exact h) = s[k] := rfl
theorem cutAt_app (c : UInt8) (r : List UInt8) : ∀ x : List UInt8, (∀ y ∈ x, (y == c) = false) → cutAt c (x ++ c :: r) = (x, r, true)
  | [], _ => by rw [List.nil_append, cutAt_yes r (by simp)]
  | y :: x, h => by
    have hy := h y (List.mem_cons_self ..)
    rw [List.cons_append, cutAt_not _ (by rw [hy]; exact Bool.false_ne_true), cutAt_app c r x fun z hz => h z (List.mem_cons_of_mem _ hz)]
theorem cutAt_none (c : UInt8) : ∀ x : List UInt8, (∀ y ∈ x, (y == c) = false) → cutAt c x = (x, [], false)
  | [], _ => rfl
  | y :: x, h => by
    have hy := h y (List.mem_cons_self ..)
    rw [cutAt_not _ (by rw [hy]; exact Bool.false_ne_true), cutAt_none c x fun z hz => h z (List.mem_cons_of_mem _ hz)]
theorem parts_app (c : UInt8) (x r : List UInt8) (h : ∀ y ∈ x, (y == c) = false) : parts c (x ++ c :: r) = x :: parts c r := by
  rw [parts_cut, cutAt_app c r x h]; rfl
theorem parts_none (c : UInt8) (x : List UInt8) (h : ∀ y ∈ x, (y == c) = false) : parts c x = [x] := by
  rw [parts_cut, cutAt_none c x h]; rfl
def CutRel (s : ByteArray) (c : UInt8) (w : World) (l f i : Value) (wr : World) : Prop := ∃ (pre : List (List UInt8)) (fr k : Nat), i = .int .i64 k ∧ f = .int .i64 fr ∧ fr ≤ k ∧ k ≤ s.size ∧ pre.length ≤ fr ∧
  parts c s.data.toList = pre ++ parts c (s.data.toList.drop fr) ∧ (∀ y ∈ (s.data.toList.drop fr).take (k - fr), (y == c) = false) ∧ wr.ownsRow w.heap.size 9 1 l pre.length (pre.map sv) ∧ Gr w wr
theorem at_k (s : ByteArray) (k : Nat) (h : k < s.size) : s.data.toList[k]? = some s[k] := by
  rw [List.getElem?_eq_getElem (by rw [data_len]; exact h), getEl s k h]
theorem seg_next (s : ByteArray) (fr k : Nat) (hf : fr ≤ k) (h : k < s.size) : (s.data.toList.drop fr).take (k + 1 - fr) = (s.data.toList.drop fr).take (k - fr) ++ [s[k]] := by
  have e : k + 1 - fr = (k - fr) + 1 := by omega
  have e2 : fr + (k - fr) = k := by omega
  rw [e, List.take_add_one, List.getElem?_drop, e2, at_k s k h]
  rfl
theorem seg_cut (s : ByteArray) (fr k : Nat) (hf : fr ≤ k) (h : k < s.size) : s.data.toList.drop fr = (s.data.toList.drop fr).take (k - fr) ++ s[k] :: s.data.toList.drop (k + 1) := by
  have e2 : fr + (k - fr) = k := by omega
  have h1 := (List.take_append_drop (k - fr) (s.data.toList.drop fr)).symm
  have h2 := List.drop_eq_getElem_cons (l := s.data.toList) (i := k) (by rw [data_len]; exact h)
  rw [getEl s k h] at h2
  rw [List.drop_drop, e2, h2] at h1
  exact h1
set_option maxHeartbeats 1000000 in
theorem rcut_any (s : ByteArray) (c : UInt8) (w : World) (hs : s.size ≤ 1000000) :
    Calls Tryz.prog 65 #[.string s, .int .u8 c.toNat] w fun e w' => ∃ v, e = .returned v ∧ w'.ownsRow w.heap.size 9 1 v (parts c s.data.toList).length ((parts c s.data.toList).map sv) ∧ Gr w w' := by
  have hsI : (s.size : Int) ≤ 1000000 := by omega
  go_enter Tryz.func65, Tryz.ntmps65
  go_wp2_with fail
  go_loopw [5, 6, 7] (fun l f i wr => CutRel s c w l f i wr) (fun _ _ i _ => s.size - (intOf i).toNat)
  case atStart => exact ⟨[], 0, 0, rfl, rfl, by omega, by omega, by simp, rfl, by simp, World.ownsRow_nil _ _ _ _, Gr.refl _⟩
  case round =>
    obtain ⟨pre, fr, k, rfl, rfl, hfk, hks, hpl, hparts, hseg, hown, hgr⟩ := hrel
    have HP := Lib.hid hparts
    have HS := Lib.hid hseg
    clear hparts hseg
    obtain ⟨ti, tz, hi1, hi2, hi3, hi4, hi5⟩ := strInfo
    have q1 : (0 : Int) ≤ (fr : Int) := by omega
    have q2 : (fr : Int) ≤ (k : Int) := by omega
    have q3 : (k : Int) ≤ (s.size : Int) := by omega
    by_cases hlt : k < s.size
    · by_cases hc : s[k] = c
      · have hcmp : ((s[k].toNat : Int) == (c.toNat : Int)) = true := by rw [hc]; simp
        have hnews : ∀ j u, [Value.string (s.extract fr k)][j]? = some u → (wr.alloc (.cells #[.string (s.extract fr k)] 9)).cell? ((⟨wr.heap.size, 0, none⟩ : Addr).add j) = some u := by
          intro j u hj
          match j, hj with
          | 0, hj => simp at hj; subst hj; simp [Addr.add]
        have hbase : w.heap.size ≤ (wr.alloc (.cells #[.string (s.extract fr k)] 9)).heap.size := by have := Gr.size hgr; simp; omega
        have h62 : pre.length + 1 ≤ maxLen := by unfold maxLen; omega
        have h63 : (pre.length + 1) * 16 ≤ 140737488355328 := by omega
        have hown3 := hown.alloc (.cells #[.string (s.extract fr k)] 9)
        go_wp2_with (at_builtin; refine wpList_append_own_at _ rfl _ _ 44 rfl w.heap.size 9 ti tz 1 16 Tryz.underlying44 hi1 hi2 hi3 hi4 (by rw [hi5]; rfl) (by decide) _ _ _ rfl hown3 ⟨wr.heap.size, 0, none⟩ 1 1 [.string (s.extract fr k)] rfl rfl hnews (by intro u hu; simp at hu; subst hu; rfl) h62 h63 hbase ?_; intro v' w2 hown2 hgrow hnil hloc)
        case roundEnd =>
          refine ⟨⟨pre ++ [(s.data.toList.drop fr).take (k - fr)], k + 1, k + 1, by simp, by simp, by omega, by omega, by simp; omega, ?_, by simp, ?_, ?_⟩, by simp [intOf]; omega⟩
          · have hcut := seg_cut s fr k hfk hlt
            rw [hc] at hcut
            have hpa := parts_app c ((s.data.toList.drop fr).take (k - fr)) (s.data.toList.drop (k + 1)) HS.out
            rw [← hcut] at hpa
            rw [HP.out, hpa, List.append_assoc]; rfl
          · rw [List.length_append, List.map_append]
            rw [str_ext] at hown2
            simpa [sv] using hown2
          · exact Gr.grown (by repeat' (first | (with_reducible exact Gr.refl _) | (with_reducible assumption) | (with_reducible refine Gr.drewN ?_ _) | (with_reducible refine Gr.drew ?_) | (with_reducible refine Gr.alloc ?_ _) | (with_reducible refine Gr.setCell ?_ ?_ _) | (with_reducible refine Gr.grow ?_ _ _) | (refine Gr.step ?_ (by with_reducible assumption)) | go_size)) hgrow (fun k hk => (hown.lt k hk).1)
      · have hcmp : ((s[k].toNat : Int) == (c.toNat : Int)) = false := by
          rw [beq_eq_false_iff_ne]; intro h; exact hc (UInt8.toNat_inj.1 (by omega))
        go_wp2_with fail
        case roundEnd =>
          refine ⟨⟨pre, fr, k + 1, by simp, rfl, by omega, by omega, hpl, HP.out, ?_, hown, hgr⟩, by simp [intOf]; omega⟩
          rw [seg_next s fr k hfk hlt]
          intro y hy
          rcases List.mem_append.1 hy with hy | hy
          · exact HS.out y hy
          · simp at hy; subst hy; simpa using hc
    · obtain rfl : k = s.size := by omega
      have hnews : ∀ j u, [Value.string (s.extract fr s.size)][j]? = some u → (wr.alloc (.cells #[.string (s.extract fr s.size)] 9)).cell? ((⟨wr.heap.size, 0, none⟩ : Addr).add j) = some u := by
        intro j u hj
        match j, hj with
        | 0, hj => simp at hj; subst hj; simp [Addr.add]
      have hbase : w.heap.size ≤ (wr.alloc (.cells #[.string (s.extract fr s.size)] 9)).heap.size := by have := Gr.size hgr; simp; omega
      have h62 : pre.length + 1 ≤ maxLen := by unfold maxLen; omega
      have h63 : (pre.length + 1) * 16 ≤ 140737488355328 := by omega
      have hown3 := hown.alloc (.cells #[.string (s.extract fr s.size)] 9)
      go_wp2_with (at_builtin; refine wpList_append_own_at _ rfl _ _ 44 rfl w.heap.size 9 ti tz 1 16 Tryz.underlying44 hi1 hi2 hi3 hi4 (by rw [hi5]; rfl) (by decide) _ _ _ rfl hown3 ⟨wr.heap.size, 0, none⟩ 1 1 [.string (s.extract fr s.size)] rfl rfl hnews (by intro u hu; simp at hu; subst hu; rfl) h62 h63 hbase ?_; intro v' w2 hown2 hgrow hnil hloc)
      have hsg := HS.out
      rw [List.take_of_length_le (by rw [List.length_drop, data_len]; omega)] at hsg
      have hpn := parts_none c (s.data.toList.drop fr) hsg
      have hP := HP.out
      rw [hpn] at hP
      go_ret
      refine ⟨v', rfl, ?_, ?_⟩
      · rw [hP, List.length_append, List.map_append]
        rw [str_ext, List.take_of_length_le (by rw [List.length_drop, data_len]; omega)] at hown2
        simpa [sv] using hown2
      · exact Gr.grown (by repeat' (first | (with_reducible exact Gr.refl _) | (with_reducible assumption) | (with_reducible refine Gr.drewN ?_ _) | (with_reducible refine Gr.drew ?_) | (with_reducible refine Gr.alloc ?_ _) | (with_reducible refine Gr.setCell ?_ ?_ _) | (with_reducible refine Gr.grow ?_ _ _) | (refine Gr.step ?_ (by with_reducible assumption)) | go_size)) hgrow (fun k hk => (hown.lt k hk).1)
end Go.Proofs.YtjpjnbgfodlkcaaGreatDoor
