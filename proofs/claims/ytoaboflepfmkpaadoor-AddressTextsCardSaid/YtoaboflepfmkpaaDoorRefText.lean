/- The document's texts: digits and small numbers. -/
import Derived.Test.YtoaboflepfmkpaaDoorNumber
import Derived.Test.YtoaboflepfmkpaaDoorLeaf
import Derived.WalkKit
import Derived.WalkSpells
import Derived.WalkLawsBesides
import Derived.WalkSmall
import Derived.Handy
import Derived.BigQuiet
import Derived.Deep.QuietTactic
import Derived.Deep.RegionHeld3
import Derived.Deep.DeepFit
import Derived.Below
import Derived.Lib.Hide
import Derived.Lib.QuietBelow
namespace Go.Proofs.YtoaboflepfmkpaaDoor
open Go Go.RowKit
set_option maxRecDepth 100000
set_option linter.unusedVariables false

def digs (l : List UInt8) : Bool := l.all isDig && lead l
theorem digs_bad {l : List UInt8} (k : Nat) (hk : k < l.length) (h : isDig l[k] = false) : digs l = false := by
  unfold digs
  have : l.all isDig = false := by
    rw [Bool.eq_false_iff]; intro hc
    have := List.all_eq_true.1 hc l[k] (List.getElem_mem _)
    rw [h] at this; cases this
  rw [this]; rfl
theorem lead_of (s : ByteArray) : lead s.data.toList = (decide (0 < (s.size : Int)) && (decide ((s.size : Int) = 1) || (if h : 0 < s.size then !(((s[0].toNat : Nat) : Int) == 48) else false))) := by
  by_cases h0 : s.size = 0
  · rw [lead_zero (by rw [data_len]; exact h0)]; simp [h0]
  · by_cases h1 : s.size = 1
    · rw [lead_one (by rw [data_len]; exact h1)]; simp [h1]
    · rw [lead_two (l := s.data.toList) (by rw [data_len]; omega)]
      have hg : s.data.toList[0]'(by rw [data_len]; omega) = s[0]'(by omega) := rfl
      rw [hg]
      have : decide ((s.size : Int) = 1) = false := by simp; omega
      rw [this, dif_pos (by omega)]
      simp; intro; omega
set_option maxHeartbeats 1000000 in
theorem digits_any (s : ByteArray) (w : World) (hs : s.size ≤ 9223372036854775807) :
    Calls Tryd.prog 61 #[.string s] w fun e w' => e = .returned (.bool (digs s.data.toList)) ∧ Gr w w' := by
  go_enter Tryd.func61, Tryd.ntmps61
  go_wp2
  go_loopw [3] (fun i wr => ∃ k : Nat, k ≤ s.size ∧ i = .int .i64 k ∧ (s.data.toList.take k).all isDig = true ∧ Gr w wr) (fun i _ => s.size - (intOf i).toNat)
  case atStart => exact ⟨0, Nat.zero_le _, rfl, by simp, Gr.refl _⟩
  case round =>
    obtain ⟨k, hk, rfl, ha, hgr⟩ := hrel
    by_cases hlt : k < s.size
    · have ⟨u0, u1⟩ := u8_range s[k]
      have Ha := Lib.hid ha
      clear ha
      by_cases c0 : (s[k].toNat : Int) < 48
      · have E := Lib.hid (digs_bad (l := s.data.toList) k (by rw [data_len]; exact hlt) (by rw [getEl s k hlt]; simp [isDig]; omega))
        go_wp2
        go_ret
        exact ⟨ret_bool E.out.symm, hgr⟩
      by_cases c1 : 57 < (s[k].toNat : Int)
      · have E := Lib.hid (digs_bad (l := s.data.toList) k (by rw [data_len]; exact hlt) (by rw [getEl s k hlt]; simp [isDig]; omega))
        go_wp2
        go_ret
        exact ⟨ret_bool E.out.symm, hgr⟩
      have c2 : 48 ≤ (s[k].toNat : Int) := by omega
      have c3 : (s[k].toNat : Int) ≤ 57 := by omega
      have Hd := Lib.hid (isDig_of c2 c3)
      go_wp2
      case roundEnd => exact ⟨⟨k + 1, by omega, by simp, all_take_succ s k hlt Ha.out Hd.out, hgr⟩, by simp [intOf]; omega⟩
    · have e : s.data.toList.take k = s.data.toList := List.take_of_length_le (by rw [data_len]; omega)
      rw [e] at ha
      have E := Lib.hid (show digs s.data.toList = lead s.data.toList by unfold digs; rw [ha]; rfl)
      clear ha e
      go_wp2
      all_goals (go_ret; refine ⟨ret_bool ?_, hgr⟩; rw [E.out, lead_of])
      · rename_i h1 h2; simp [h2]
      · rename_i h1 h2
        have h3 : decide (0 < (s.size : Int)) = true := by simp; omega
        rw [h3, dif_pos h1, Bool.true_and]
        simp only [bne]
        cases h4 : ((s.size : Int) == 1)
        · have : decide ((s.size : Int) = 1) = false := by simpa using h4
          rw [this]
        · exact absurd (by simpa using h4) h2
      · rename_i h1
        have h3 : decide (0 < (s.size : Int)) = false := by simp only [decide_eq_false_iff_not]; omega
        rw [h3]; rfl
theorem digits_is (s : ByteArray) (b : Bool) (w : World) (hs : s.size ≤ 9223372036854775807) (h : digs s.data.toList = b) :
    Calls Tryd.prog 61 #[.string s] w fun e w' => e = .returned (.bool b) ∧ Gr w w' := by
  rw [← h]; exact digits_any s w hs
/-- digits without a leading zero, more than three: at least 1000 -/
theorem dval_four (l : List UInt8) (h : digs l = true) (hl : 3 < l.length) : 1000 ≤ dval l := by
  simp only [digs, Bool.and_eq_true] at h
  obtain ⟨ha, hd⟩ := h
  have h4 : (l.take 4).all isDig = true := (all_split l 4 ha).1
  have hle := dval_append_le (l.drop 4) (l.take 4) h4 (all_split l 4 ha).2
  rw [List.take_append_drop] at hle
  match l, hl with
  | c0 :: c1 :: c2 :: c3 :: r, _ =>
    simp only [lead, Bool.not_eq_true', beq_eq_false_iff_ne, ne_eq] at hd
    simp [isDig] at h4
    have h5 : dval (List.take 4 (c0 :: c1 :: c2 :: c3 :: r)) = ((((0 * 10 + ((c0.toNat : Int) - 48)) * 10 + ((c1.toNat : Int) - 48)) * 10 + ((c2.toNat : Int) - 48)) * 10 + ((c3.toNat : Int) - 48)) := rfl
    rw [h5] at hle
    omega
theorem dig_at (s : ByteArray) (k : Nat) (h : k < s.size) (hd : s.data.toList.all isDig = true) : 48 ≤ (s[k].toNat : Int) ∧ (s[k].toNat : Int) ≤ 57 := by
  have := List.all_eq_true.1 hd (s.data.toList[k]'(by rw [data_len]; exact h)) (List.getElem_mem _)
  rw [getEl s k h] at this
  simpa [isDig] using this
theorem numOk_digs (l : List UInt8) (most : Int) : numOk l most = (digs l && decide (dval l ≤ most)) := by
  unfold numOk digs; cases lead l <;> simp
/-- what small returns: a value, and whether the text denotes a number of at most most -/
def SmallP (l : List UInt8) (most : Int) (w : World) (e : Ending) (w' : World) : Prop := ∃ v : Int, e = .returned (.tuple #[.int .i64 v, .bool (numOk l most)]) ∧ (numOk l most = true → v = dval l) ∧ Gr w w'
def SmRel (s : ByteArray) (w : World) (n i : Value) (wr : World) : Prop := ∃ k : Nat, k ≤ s.size ∧ i = .int .i64 k ∧ n = .int .i64 (dval (s.data.toList.take k)) ∧ dval (s.data.toList.take k) < 10 ^ k ∧ Gr w wr
set_option maxHeartbeats 1000000 in
theorem small_any (s : ByteArray) (most : Int) (w : World) (hs : s.size ≤ 9223372036854775807) (m0 : 0 ≤ most) (m1 : most ≤ 255) :
    Calls Tryd.prog 43 #[.string s, .int .i64 most] w (SmallP s.data.toList most w) := by
  cases hd : digs s.data.toList
  · have E := Lib.hid (show numOk s.data.toList most = false by rw [numOk_digs, hd]; rfl)
    have D := Lib.hid hd
    clear hd
    go_enter Tryd.func43, Tryd.ntmps43
    go_wp2_with (go_at_call 61; refine (digits_is s false _ hs D.out).mono ?_; rintro e w1 ⟨rfl, hg1⟩)
    go_ret2
    exact ⟨0, by rw [E.out]; rfl, (fun h => by rw [E.out] at h; cases h), (by repeat' (first | (with_reducible exact Gr.refl _) | (with_reducible assumption) | (with_reducible refine Gr.drewN ?_ _) | (with_reducible refine Gr.drew ?_) | (with_reducible refine Gr.alloc ?_ _) | (with_reducible refine Gr.setCell ?_ ?_ _) | (with_reducible refine Gr.grow ?_ _ _) | (refine Gr.step ?_ (by with_reducible assumption)) | go_size))⟩
  · have D := Lib.hid hd
    by_cases h3 : 3 < s.size
    · have h4 := dval_four _ hd (by rw [data_len]; exact h3)
      have E := Lib.hid (show numOk s.data.toList most = false by rw [numOk_digs, hd]; simp; omega)
      have h5 : (3 : Int) < (s.size : Int) := by omega
      clear hd h4 h3
      go_enter Tryd.func43, Tryd.ntmps43
      go_wp2_with (go_at_call 61; refine (digits_is s true _ hs D.out).mono ?_; rintro e w1 ⟨rfl, hg1⟩)
      go_ret2
      exact ⟨0, by rw [E.out]; rfl, (fun h => by rw [E.out] at h; cases h), (by repeat' (first | (with_reducible exact Gr.refl _) | (with_reducible assumption) | (with_reducible refine Gr.drewN ?_ _) | (with_reducible refine Gr.drew ?_) | (with_reducible refine Gr.alloc ?_ _) | (with_reducible refine Gr.setCell ?_ ?_ _) | (with_reducible refine Gr.grow ?_ _ _) | (refine Gr.step ?_ (by with_reducible assumption)) | go_size))⟩
    · have h5 : ¬ (3 : Int) < (s.size : Int) := by omega
      have ha : s.data.toList.all isDig = true := by unfold digs at hd; simp at hd; simpa using hd.1
      have HA := Lib.hid ha
      clear hd ha
      go_enter Tryd.func43, Tryd.ntmps43
      go_wp2_with (go_at_call 61; refine (digits_is s true _ hs D.out).mono ?_; rintro e w1 ⟨rfl, hg1⟩)
      have hG1 : Gr w w1 := (by repeat' (first | (with_reducible exact Gr.refl _) | (with_reducible assumption) | (with_reducible refine Gr.drewN ?_ _) | (with_reducible refine Gr.drew ?_) | (with_reducible refine Gr.alloc ?_ _) | (with_reducible refine Gr.setCell ?_ ?_ _) | (with_reducible refine Gr.grow ?_ _ _) | (refine Gr.step ?_ (by with_reducible assumption)) | go_size))
      go_loopw [6, 7] (fun n i wr => ∃ k : Nat, k ≤ s.size ∧ i = .int .i64 k ∧ n = .int .i64 (dval (s.data.toList.take k)) ∧ (0 ≤ dval (s.data.toList.take k) ∧ dval (s.data.toList.take k) < 10 ^ k) ∧ Gr w wr) (fun _ i _ => s.size - (intOf i).toNat)
      case atStart => exact ⟨0, Nat.zero_le _, rfl, rfl, by simp [dval], hG1⟩
      case round =>
        obtain ⟨k, hk, rfl, rfl, ⟨b0, b1⟩, hgr⟩ := hrel
        by_cases hlt : k < s.size
        · have hsn := Lib.hid (dval_snoc (s.data.toList.take k) s[k])
          have hts := Lib.hid (take_snoc s k hlt)
          have ⟨c2, c3⟩ := dig_at s k hlt HA.out
          have cw : IntKind.u8.wrap ((s[k].toNat : Int) - 48) = (s[k].toNat : Int) - 48 := by go_arith
          have hk3 : k = 0 ∨ k = 1 ∨ k = 2 := by omega
          have b9 : (10 : Int) ^ k ≤ 100 := by rcases hk3 with rfl | rfl | rfl <;> decide
          have b2 : dval (s.data.toList.take k) < 100 := by omega
          have b3 : dval (s.data.toList.take k) * 10 + ((s[k].toNat : Int) - 48) < 10 ^ (k + 1) := by rw [Int.pow_succ]; omega
          have B1 := Lib.hid b1
          clear b1 hk3 b9
          go_wp2
          case roundEnd =>
            have e10 : 10 * dval (s.data.toList.take k) + ((s[k].toNat : Int) - 48) = dval (s.data.toList.take k) * 10 + ((s[k].toNat : Int) - 48) := by omega
            refine ⟨⟨k + 1, by omega, by simp, by rw [hts.out, hsn.out, e10], ?_, hgr⟩, by simp [intOf]; omega⟩
            rw [hts.out, hsn.out]
            exact ⟨by omega, b3⟩
        · have e : s.data.toList.take k = s.data.toList := List.take_of_length_le (by rw [data_len]; omega)
          rw [e]
          rw [e] at b0
          have E := Lib.hid (show numOk s.data.toList most = decide (dval s.data.toList ≤ most) by rw [numOk_digs, D.out]; rfl)
          clear e b1
          go_wp2
          go_ret2
          exact ⟨dval s.data.toList, by rw [E.out]; rfl, fun _ => rfl, hgr⟩
end Go.Proofs.YtoaboflepfmkpaaDoor
