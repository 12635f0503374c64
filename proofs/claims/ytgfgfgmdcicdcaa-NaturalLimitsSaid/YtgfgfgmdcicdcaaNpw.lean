/- Pow. -/
import Derived.Test.YtgfgfgmdcicdcaaNmul
import Derived.Test.YtgfgfgmdcicdcaaNring
import Derived.Lib.ItoaNum
import Derived.WalkKit
import Derived.WalkSpells
import Derived.WalkLawsBesides
import Derived.WalkSmall
import Derived.Handy
import Derived.BigQuiet
import Derived.Deep.QuietTactic
import Derived.Deep.RegionHeld3
import Derived.Deep.DeepFit
import Derived.Below
import Derived.Lib.Hide
import Derived.Lib.QuietBelow
import Derived.Deep.DeepCutAuto
namespace Go.Proofs.Ytgfgfgmdcicdcaa
open Go Go.RowKit Go.Sort Go.Shelf
set_option maxRecDepth 100000
theorem num_lit1 (w : World) {x : Nat} (h0 : 0 < x) (h1 : x < 1073741824) : Num (w.alloc (.cells #[.int .i64 (x : Nat)] 3)) (.slice (some ⟨w.heap.size, 0, none⟩) 1 1) x := by
  unfold Num
  rw [nd_one h0 h1]
  refine ⟨_, 1, rfl, Nat.le_refl _, by omega, fun i hi => ⟨w.heap.size, 0, rfl, trivial, ?_⟩⟩
  obtain rfl : i = 0 := by simp at hi; omega
  simp
theorem half_up (K m : Nat) : K / 2 ^ m = 2 * (K / 2 ^ (m + 1)) + K / 2 ^ m % 2 := by
  rw [Nat.pow_succ, ← Nat.div_div_eq_div_mul]; omega
theorem pow_le {A a b : Nat} (hA : 0 < A) (h : a ≤ b) : A ^ a ≤ A ^ b := Nat.pow_le_pow_right hA h
theorem div_pow_le (K m : Nat) : K / 2 ^ m ≤ K := Nat.div_le_self _ _
theorem and1 (n : Nat) : bits .and .i64 ((n : Nat) : Int) 1 = (n : Int) % 2 := by
  have h30 : (BitVec.ofInt 64 1).toNat = 2 ^ 1 - 1 := by decide
  have key : (BitVec.ofInt 64 n &&& BitVec.ofInt 64 1).toNat = ((n : Int) % ((2 ^ 64 : Nat) : Int)).toNat % 2 ^ 1 := by
    rw [BitVec.toNat_and, BitVec.toNat_ofInt, h30, Nat.and_two_pow_sub_one_eq_mod]
  show IntKind.i64.wrap ((BitVec.ofInt 64 n &&& BitVec.ofInt 64 1).toNat : Nat) = (n : Int) % 2
  rw [key, IntKind.wrap_i64]
  omega
def PwRel (w : World) (A K : Nat) (v e i : Value) (wr : World) : Prop :=
  ∃ (j : Nat) (x : Int), i = .int .i64 x ∧ x + 1 = j ∧ j ≤ 64 ∧ Gr w wr ∧
    ((e = .int .i64 0 ∧ Num wr v (A ^ (K / 2 ^ j)) ∧ (nd (A ^ (K / 2 ^ j))).length ≤ 256) ∨ (e = .int .i64 5 ∧ v = .slice none 0 0 ∧ 256 < (nd (A ^ K)).length))
set_option maxHeartbeats 1000000 in
theorem pow_any {A K : Nat} (va : Value) (w : World) (hA : Num w va A) (hA0 : 0 < A) (lA : (nd A).length ≤ 256) (hK : K ≤ 65536) :
    Calls Try.prog 20 #[va, .int .i64 (K : Nat)] w (Res w (A ^ K)) := by
  have HA := Lib.hid hA
  have HA0 := Lib.hid hA0
  clear hA hA0
  have k0 : (0 : Int) ≤ (K : Int) := by omega
  have k1 : (K : Int) ≤ 65536 := by omega
  have hlen := fun w => Try.bits_Len (K : Int) w (by omega) (by omega)
  rw [Int.toNat_natCast] at hlen
  obtain ⟨hL0, hL1⟩ : Lib.bitLen K ≤ 64 ∧ K < 2 ^ Lib.bitLen K := by
    rcases Nat.eq_zero_or_pos K with h | h
    · subst h; exact ⟨by decide, by decide⟩
    · obtain ⟨-, b, c⟩ := Lib.bitLenAux_bounds 64 K (by omega) (by omega)
      refine ⟨?_, c⟩
      unfold Lib.bitLen
      apply Decidable.byContradiction; intro hc
      have : 2 ^ 64 ≤ 2 ^ (Lib.bitLenAux 64 K - 1) := Nat.pow_le_pow_right (by omega) (by omega)
      omega
  generalize Lib.bitLen K = L at *
  have HLEN := Lib.hid hlen
  have HL1 := Lib.hid hL1
  have l0 : (0 : Int) ≤ (L : Int) := by omega
  have l1 : (L : Int) ≤ 64 := by omega
  have HN1 := Lib.hid (num_lit1 w (x := 1) (by omega) (by omega))
  clear hlen hL1
  go_enter Try.func20, Try.ntmps20
  go_wp2_with fail
  refine (HLEN.out _).mono ?_
  rintro e w' ⟨rfl, rfl⟩
  go_wp2_with fail
  go_loopw [6, 7, 8] (fun v e i wr => PwRel w A K v e i wr) (fun _ _ i _ => (intOf i + 1).toNat)
  case atStart => exact ⟨L, _, rfl, by omega, hL0, Gr.alloc (Gr.refl _) _, .inl ⟨rfl, by rw [Nat.div_eq_of_lt HL1.out, Nat.pow_zero]; exact HN1.out, by rw [Nat.div_eq_of_lt HL1.out, Nat.pow_zero, nd_one (by omega) (by omega)]; simp⟩⟩
  case round =>
    obtain ⟨j, x, rfl, hx, hj, hg, ⟨rfl, hn, hl⟩ | ⟨rfl, rfl, hl⟩⟩ := hrel
    · have HN := Lib.hid hn
      have HLN := Lib.hid hl
      clear hn hl
      rcases j with _ | m
      · obtain rfl : x = -1 := by omega
        have d0 : decide ((0 : Int) ≤ -1) = false := by decide
        have hn := HN.out
        have hl := HLN.out
        rw [Nat.pow_zero, Nat.div_one] at hn hl
        have HN := Lib.hid hn
        have HLN := Lib.hid hl
        clear hn hl
        go_wp2_with fail
        go_ret2
        exact ⟨_, _, rfl, .inl ⟨HLN.out, rfl, HN.out⟩, hg⟩
      · obtain rfl : x = (m : Int) := by omega
        have m0 : (0 : Int) ≤ (m : Int) := by omega
        have m1 : (m : Int) ≤ 63 := by omega
        have d0 : decide ((0 : Int) ≤ (m : Int)) = true := by simp
        obtain ⟨q, hq⟩ : ∃ q, q = K / 2 ^ (m + 1) := ⟨_, rfl⟩
        rw [← hq] at HN HLN
        have hm := mul_any _ _ _ HN.out HN.out HLN.out HLN.out
        have HM := Lib.hid hm
        have HQ := Lib.hid hq
        have hup := half_up K m
        rw [← hq] at hup
        have HUP := Lib.hid hup
        have hcast : (K : Int) / 2 ^ m = ((K / 2 ^ m : Nat) : Int) := by simp
        have hand : bits .and .i64 ((K : Int) / 2 ^ m) 1 = ((K / 2 ^ m % 2 : Nat) : Int) := by rw [hcast, and1]; simp
        clear hm hq hup hcast
        rcases Nat.mod_two_eq_zero_or_one (K / 2 ^ m) with hb | hb
        · rw [hb] at hand
          have HB := Lib.hid hb
          clear hb
          go_wp2_with fail
          refine HM.out.mono ?_
          rintro e w2 ⟨v2, er, rfl, hres, hg2⟩
          have hpe : A ^ q * A ^ q = A ^ (K / 2 ^ m) := by rw [HUP.out, HB.out, Nat.add_zero, ← Nat.pow_add]; congr 1; omega
          rw [hpe] at hres
          clear hpe
          rcases hres with ⟨hl2, rfl, hn2⟩ | ⟨hl2, rfl, rfl⟩
          · have HN2 := Lib.hid hn2
            have HL2 := Lib.hid hl2
            clear hn2 hl2
            go_wp2_with fail
            refine ⟨⟨m, _, rfl, by omega, by omega, hg.step hg2, .inl ⟨rfl, HN2.out, HL2.out⟩⟩, by simp only [intOf]; omega⟩
          · have HL2 := Lib.hid hl2
            clear hl2
            go_wp2_with fail
            refine ⟨⟨m, _, rfl, by omega, by omega, hg.step hg2, .inr ⟨rfl, rfl, Nat.lt_of_lt_of_le HL2.out (nd_mono (pow_le HA0.out (div_pow_le K m)))⟩⟩, by simp only [intOf]; omega⟩
        · rw [hb] at hand
          have HB := Lib.hid hb
          clear hb
          go_wp2_with fail
          refine HM.out.mono ?_
          rintro e w2 ⟨v2, er, rfl, hres, hg2⟩
          have hpe : A ^ q * A ^ q * A = A ^ (K / 2 ^ m) := by rw [HUP.out, HB.out, ← Nat.pow_add, ← Nat.pow_succ]; congr 1; omega
          have HPE := Lib.hid hpe
          clear hpe
          rcases hres with ⟨hl2, rfl, hn2⟩ | ⟨hl2, rfl, rfl⟩
          · have hm2 := mul_any _ _ _ hn2 (HA.out.gr (hg.step hg2)) hl2 lA
            have HM2 := Lib.hid hm2
            clear hn2 hl2 hm2
            go_wp2_with fail
            refine HM2.out.mono ?_
            rintro e w3 ⟨v3, er, rfl, hres, hg3⟩
            rw [HPE.out] at hres
            rcases hres with ⟨hl3, rfl, hn3⟩ | ⟨hl3, rfl, rfl⟩
            · have HN3 := Lib.hid hn3
              have HL3 := Lib.hid hl3
              clear hn3 hl3
              go_wp2_with fail
              refine ⟨⟨m, _, rfl, by omega, by omega, (hg.step hg2).step hg3, .inl ⟨rfl, HN3.out, HL3.out⟩⟩, by simp only [intOf]; omega⟩
            · have HL3 := Lib.hid hl3
              clear hl3
              go_wp2_with fail
              refine ⟨⟨m, _, rfl, by omega, by omega, (hg.step hg2).step hg3, .inr ⟨rfl, rfl, Nat.lt_of_lt_of_le HL3.out (nd_mono (pow_le HA0.out (div_pow_le K m)))⟩⟩, by simp only [intOf]; omega⟩
          · have HL2 := Lib.hid hl2
            clear hl2
            go_wp2_with fail
            refine ⟨⟨m, _, rfl, by omega, by omega, hg.step hg2, .inr ⟨rfl, rfl, Nat.lt_of_lt_of_le HL2.out (nd_mono (Nat.le_trans ?_ (pow_le HA0.out (div_pow_le K m))))⟩⟩, by simp only [intOf]; omega⟩
            rw [← HPE.out]
            exact Nat.le_mul_of_pos_right _ HA0.out
    · have HLN := Lib.hid hl
      clear hl
      by_cases hx0 : x < 0
      · go_wp2_with fail
        go_ret2
        exact ⟨_, _, rfl, .inr ⟨HLN.out, rfl, rfl⟩, hg⟩
      · have d0 : decide ((0 : Int) ≤ x) = true := by simp; omega
        go_wp2_with fail
        go_ret2
        exact ⟨_, _, rfl, .inr ⟨HLN.out, rfl, rfl⟩, hg⟩
end Go.Proofs.Ytgfgfgmdcicdcaa
