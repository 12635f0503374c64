/- Reading: strings.Cut at one byte, Parse. -/
import Derived.Test.YtoaboflepfmkpaaDoorNumber
import Derived.WalkKit
import Derived.WalkSpells
import Derived.WalkLawsBesides
import Derived.WalkSmall
import Derived.Handy
import Derived.BigQuiet
import Derived.Deep.QuietTactic
import Derived.Deep.RegionHeld3
import Derived.Deep.DeepFit
import Derived.Below
import Derived.Lib.Hide
import Derived.Lib.QuietBelow
namespace Go.Proofs.YtoaboflepfmkpaaDoor
open Go Go.RowKit Go.Sort
set_option maxRecDepth 100000
set_option linter.unusedVariables false

def str (l : List UInt8) : ByteArray := ⟨l.toArray⟩
theorem str_data (l : List UInt8) : (str l).data.toList = l := by simp [str]
theorem str_size (l : List UInt8) : (str l).size = l.length := by rw [Lib.size_eq, str_data]
theorem str_of (s : ByteArray) : str s.data.toList = s := Lib.mk_data s
theorem str_ext (s : ByteArray) (a b : Nat) : s.extract a b = str ((s.data.toList.drop a).take (b - a)) := Lib.extract_eq s a b
theorem ret_cut {l : List UInt8} {c : UInt8} {x y : ByteArray} {b : Bool} (h : (x, y, b) = (str (cutAt c l).1, str (cutAt c l).2.1, (cutAt c l).2.2)) : Ending.returned (.tuple #[.string x, .string y, .bool b]) = .returned (.tuple #[.string (str (cutAt c l).1), .string (str (cutAt c l).2.1), .bool (cutAt c l).2.2]) := by
  simp only [Prod.mk.injEq] at h; rw [h.1, h.2.1, h.2.2]

theorem lcut_any (s : ByteArray) (c : UInt8) (w : World) (hs : s.size ≤ 9223372036854775807) :
    Calls Tryd.prog 60 #[.string s, .string ⟨#[c]⟩] w fun e w' => e = .returned (.tuple #[.string (str (cutAt c s.data.toList).1), .string (str (cutAt c s.data.toList).2.1), .bool (cutAt c s.data.toList).2.2]) ∧ Gr w w' := by
  have hI := cutAt_index c s.data.toList
  have hlt := indexByte_lt c s.data.toList
  rw [data_len] at hlt
  by_cases h0 : 0 ≤ Lib.indexByte s.data.toList c
  · rw [if_pos h0] at hI
    obtain ⟨k, hk⟩ := Int.eq_ofNat_of_zero_le h0
    rw [hk] at hI hlt
    have HI := Lib.hid hI
    have Hk := Lib.hid hk
    clear hI hk h0
    have k1 : k < s.size := by omega
    have k2 : (k : Int) + 1 ≤ (s.size : Int) := by omega
    have k3 : 0 ≤ (k : Int) := by omega
    go_enter Tryd.func60, Tryd.ntmps60
    go_wp2_with (go_at_call 73; refine (Tryd.stringslite_Index_one s c _).mono ?_; rw [Hk.out]; rintro e w' ⟨rfl, rfl⟩)
    go_quiet (fail)
    go_wp2
    go_ret3
    refine ⟨ret_cut ?_, (by repeat' (first | (with_reducible exact Gr.refl _) | (with_reducible assumption) | (with_reducible refine Gr.drewN ?_ _) | (with_reducible refine Gr.drew ?_) | (with_reducible refine Gr.alloc ?_ _) | (with_reducible refine Gr.setCell ?_ ?_ _) | (with_reducible refine Gr.grow ?_ _ _) | (refine Gr.step ?_ (by with_reducible assumption)) | go_size))⟩
    rw [HI.out]
    simp [str_ext]
    rw [List.take_of_length_le (by rw [List.length_drop, data_len]; omega)]
  · rw [if_neg h0] at hI
    have HI := Lib.hid hI
    have h1 : Lib.indexByte s.data.toList c < 0 := by omega
    clear hI h0
    go_enter Tryd.func60, Tryd.ntmps60
    go_wp2_with (go_at_call 73; refine (Tryd.stringslite_Index_one s c _).mono ?_; rintro e w' ⟨rfl, rfl⟩)
    go_ret3
    refine ⟨ret_cut ?_, (by repeat' (first | (with_reducible exact Gr.refl _) | (with_reducible assumption) | (with_reducible refine Gr.drewN ?_ _) | (with_reducible refine Gr.drew ?_) | (with_reducible refine Gr.alloc ?_ _) | (with_reducible refine Gr.setCell ?_ ?_ _) | (with_reducible refine Gr.grow ?_ _ _) | (refine Gr.step ?_ (by with_reducible assumption)) | go_size))⟩
    rw [HI.out]
    simp [str_of]
    rfl
theorem cut_any (s : ByteArray) (c : UInt8) (w : World) (hs : s.size ≤ 9223372036854775807) :
    Calls Tryd.prog 40 #[.string s, .string ⟨#[c]⟩] w fun e w' => e = .returned (.tuple #[.string (str (cutAt c s.data.toList).1), .string (str (cutAt c s.data.toList).2.1), .bool (cutAt c s.data.toList).2.2]) ∧ Gr w w' := by
  go_enter Tryd.func40, Tryd.ntmps40
  go_wp2_with (go_at_call 60; refine (lcut_any s c _ hs).mono ?_; rintro e w1 ⟨rfl, hg1⟩)
  go_ret3
  exact ⟨rfl, (by repeat' (first | (with_reducible exact Gr.refl _) | (with_reducible assumption) | (with_reducible refine Gr.drewN ?_ _) | (with_reducible refine Gr.drew ?_) | (with_reducible refine Gr.alloc ?_ _) | (with_reducible refine Gr.setCell ?_ ?_ _) | (with_reducible refine Gr.grow ?_ _ _) | (refine Gr.step ?_ (by with_reducible assumption)) | go_size))⟩

/-- what holds at the head of Parse's loop -/
def ParRel (s : ByteArray) (w : World) (av rv iv : Value) (wr : World) : Prop :=
  ∃ (k : Nat) (a : Int) (r : ByteArray), k ≤ 4 ∧ iv = .int .i64 k ∧ av = .int .u32 a ∧ rv = .string r ∧ 0 ≤ a ∧ a < 256 ^ k ∧ r.size ≤ 9223372036854775807 ∧ ParP s.data.toList k a r.data.toList ∧ Gr w wr
theorem pow_bd {k : Nat} {a : Int} (hk : k < 4) (h : a < 256 ^ k) : a < 16777216 := by
  have h2 : (256 : Int) ^ k ≤ 16777216 := by
    have : k = 0 ∨ k = 1 ∨ k = 2 ∨ k = 3 := by omega
    rcases this with h | h | h | h <;> subst h <;> decide
  omega
theorem pow_next {k : Nat} {a n : Int} (h : a < 256 ^ k) (hn : n ≤ 255) : a * 256 + n < 256 ^ (k + 1) := by
  rw [Int.pow_succ]; omega
theorem numOk_le {l : List UInt8} {m : Int} (h : numOk l m = true) : 0 ≤ dval l ∧ dval l ≤ m := by
  simp only [numOk, Bool.and_eq_true, decide_eq_true_eq] at h
  exact ⟨dval_nonneg l h.2.1, h.2.2⟩
set_option maxHeartbeats 1000000 in
theorem parse_any (s : ByteArray) (w : World) (hs : s.size ≤ 9223372036854775807) :
    Calls Tryd.prog 18 #[.string s] w fun e w' => e = .returned (.tuple #[.int .u32 (parV s.data.toList), .int .i64 (parE s.data.toList)]) ∧ Gr w w' := by
  go_enter Tryd.func18, Tryd.ntmps18
  go_wp2
  go_loopw [4, 5, 13] (fun av rv iv wr => ParRel s w av rv iv wr) (fun _ _ iv _ => 4 - (intOf iv).toNat)
  case atStart => exact ⟨0, 0, s, by omega, rfl, rfl, rfl, by omega, by decide, hs, parP_start _, Gr.refl _⟩
  case round =>
    obtain ⟨k, a, r, hk, rfl, rfl, rfl, ha, hb, hr, hP, hgr⟩ := hrel
    by_cases hk4 : k < 4
    · have k1 : (k : Int) < 4 := by omega
      have HP := Lib.hid hP
      have hlen := cutAt_len 46 r.data.toList
      rw [data_len] at hlen
      have hl1 : (str (cutAt 46 r.data.toList).1).size ≤ 9223372036854775807 := by rw [str_size]; omega
      have hl2 : (str (cutAt 46 r.data.toList).2.1).size ≤ 9223372036854775807 := by rw [str_size]; omega
      clear hP hlen
      have ab := pow_bd hk4 hb
      have Hb := Lib.hid hb
      clear hb
      by_cases hn : numOk (cutAt 46 r.data.toList).1 255 = true
      · have Hn := Lib.hid hn
        have ⟨v0, v1⟩ := numOk_le hn
        have Ho := Lib.hid (or_low (a * 256) (dval (cutAt 46 r.data.toList).1) 256 (by omega) (by omega) (by omega) (by omega) 8 (by decide) (by omega) (by omega))
        clear hn
        go_wp2_with (first
          | (go_at_call 40; refine (cut_any r 46 _ hr).mono ?_; rintro e w1 ⟨rfl, hg1⟩)
          | (go_at_call 41; refine (number_any _ 255 _ hl1 (by omega) (by omega)).mono ?_; rw [str_data, Hn.out, numV_yes Hn.out]; rintro e w' ⟨rfl, rfl⟩))
        · rename_i hd
          have E := par_no (parP_dot hk4 HP.out (by simpa using hd))
          go_ret2
          exact ⟨by rw [E.1, E.2]; rfl, (by repeat' (first | (with_reducible exact Gr.refl _) | (with_reducible assumption) | (with_reducible refine Gr.drewN ?_ _) | (with_reducible refine Gr.drew ?_) | (with_reducible refine Gr.alloc ?_ _) | (with_reducible refine Gr.setCell ?_ ?_ _) | (with_reducible refine Gr.grow ?_ _ _) | (refine Gr.step ?_ (by with_reducible assumption)) | go_size))⟩
        · rename_i hd
          have hd2 : ((cutAt 46 r.data.toList).2.2 != decide ((k : Int) < 3)) = false := by simpa using hd
          refine ⟨⟨k + 1, a * 256 + dval (cutAt 46 r.data.toList).1, _, by omega, by go_num, by rw [Ho.out], rfl, by omega, pow_next Hb.out v1, hl2, ?_, (by repeat' (first | (with_reducible exact Gr.refl _) | (with_reducible assumption) | (with_reducible refine Gr.drewN ?_ _) | (with_reducible refine Gr.drew ?_) | (with_reducible refine Gr.alloc ?_ _) | (with_reducible refine Gr.setCell ?_ ?_ _) | (with_reducible refine Gr.grow ?_ _ _) | (refine Gr.step ?_ (by with_reducible assumption)) | go_size))⟩, by simp [intOf]; omega⟩
          rw [str_data]
          exact parP_next hk4 HP.out Hn.out hd2
      · have Hn := Lib.hid (show numOk (cutAt 46 r.data.toList).1 255 = false by simpa using hn)
        have E := Lib.hid (par_no (parP_num hk4 HP.out Hn.out))
        clear hn
        go_wp2_with (first
          | (go_at_call 40; refine (cut_any r 46 _ hr).mono ?_; rintro e w1 ⟨rfl, hg1⟩)
          | (go_at_call 41; refine (number_any _ 255 _ hl1 (by omega) (by omega)).mono ?_; rw [str_data, Hn.out, numV_no Hn.out]; rintro e w' ⟨rfl, rfl⟩))
        go_ret2
        exact ⟨by rw [E.out.1, E.out.2]; rfl, (by repeat' (first | (with_reducible exact Gr.refl _) | (with_reducible assumption) | (with_reducible refine Gr.drewN ?_ _) | (with_reducible refine Gr.drew ?_) | (with_reducible refine Gr.alloc ?_ _) | (with_reducible refine Gr.setCell ?_ ?_ _) | (with_reducible refine Gr.grow ?_ _ _) | (refine Gr.step ?_ (by with_reducible assumption)) | go_size))⟩
    · obtain rfl : k = 4 := by omega
      have E := Lib.hid (par_yes (parP_four hP))
      clear hP hb
      go_wp2
      go_ret2
      exact ⟨by rw [E.out.1, E.out.2]; rfl, (by repeat' (first | (with_reducible exact Gr.refl _) | (with_reducible assumption) | (with_reducible refine Gr.drewN ?_ _) | (with_reducible refine Gr.drew ?_) | (with_reducible refine Gr.alloc ?_ _) | (with_reducible refine Gr.setCell ?_ ?_ _) | (with_reducible refine Gr.grow ?_ _ _) | (refine Gr.step ?_ (by with_reducible assumption)) | go_size))⟩
end Go.Proofs.YtoaboflepfmkpaaDoor
