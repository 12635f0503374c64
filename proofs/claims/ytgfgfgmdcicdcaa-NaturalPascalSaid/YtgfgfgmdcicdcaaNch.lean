/- Choose. -/
import Derived.Test.YtgfgfgmdcicdcaaNsh
import Derived.WalkKit
import Derived.WalkSpells
import Derived.WalkLawsBesides
import Derived.WalkSmall
import Derived.Handy
import Derived.BigQuiet
import Derived.Deep.QuietTactic
import Derived.Deep.RegionHeld3
import Derived.Deep.DeepFit
import Derived.Below
import Derived.Lib.Hide
import Derived.Lib.QuietBelow
import Derived.Deep.DeepCutAuto
namespace Go.Proofs.Ytgfgfgmdcicdcaa
open Go Go.RowKit Go.Sort
set_option maxRecDepth 100000

/-- the number of subsets -/
def bin : Nat → Nat → Nat
  | _, 0 => 1
  | 0, _ + 1 => 0
  | n + 1, k + 1 => bin n k + bin n (k + 1)
theorem bin_zero (n : Nat) : bin n 0 = 1 := by cases n <;> rfl
theorem bin_succ (n k : Nat) : bin (n + 1) (k + 1) = bin n k + bin n (k + 1) := rfl
theorem bin_gt {n k : Nat} (h : n < k) : bin n k = 0 := by
  induction n generalizing k with
  | zero => cases k with
    | zero => omega
    | succ k => rfl
  | succ n ih => cases k with
    | zero => omega
    | succ k => rw [bin_succ, ih (by omega), ih (by omega)]
theorem bin_self (n : Nat) : bin n n = 1 := by
  induction n with
  | zero => rfl
  | succ n ih => rw [bin_succ, ih, bin_gt (by omega)]
theorem bin_mul (n k : Nat) (h : k ≤ n) : bin n (k + 1) * (k + 1) = bin n k * (n - k) := by
  induction n generalizing k with
  | zero => obtain rfl : k = 0 := by omega
            rfl
  | succ n ih =>
    cases k with
    | zero =>
      have := ih 0 (Nat.zero_le _)
      rw [bin_zero, bin_succ, bin_zero] at *
      simp at this ⊢; omega
    | succ k =>
      by_cases hk : k + 1 ≤ n
      · have h1 := ih k (by omega)
        have h2 := ih (k + 1) hk
        rw [bin_succ, bin_succ n k]
        obtain ⟨c, rfl⟩ : ∃ c, n = k + 1 + c := ⟨n - (k + 1), by omega⟩
        rw [show k + 1 + c - k = c + 1 by omega] at h1
        rw [show k + 1 + c - (k + 1) = c by omega] at h2
        rw [show k + 1 + c + 1 - (k + 1) = c + 1 by omega]
        generalize bin (k + 1 + c) k = x at *
        generalize bin (k + 1 + c) (k + 1) = y at *
        generalize bin (k + 1 + c) (k + 1 + 1) = z at *
        grind
      · obtain rfl : k = n := by omega
        rw [bin_gt (by omega), Nat.sub_self]; simp
theorem bin_symm (n k : Nat) (h : k ≤ n) : bin n k = bin n (n - k) := by
  induction n generalizing k with
  | zero => obtain rfl : k = 0 := by omega
            rfl
  | succ n ih =>
    cases k with
    | zero => rw [bin_zero, Nat.sub_zero, bin_self]
    | succ k =>
      by_cases hk : k = n
      · subst hk; rw [Nat.sub_self, bin_zero, bin_self]
      · have h1 := ih k (by omega)
        have h2 := ih (k + 1) (by omega)
        obtain ⟨c, rfl⟩ : ∃ c, n = k + 1 + c := ⟨n - (k + 1), by omega⟩
        rw [show k + 1 + c - k = c + 1 by omega] at h1
        rw [show k + 1 + c - (k + 1) = c by omega] at h2
        rw [show k + 1 + c + 1 - (k + 1) = c + 1 by omega, bin_succ, bin_succ, h1, h2, Nat.add_comm]
theorem bin_pos {n k : Nat} (h : k ≤ n) : 0 < bin n k := by
  induction n generalizing k with
  | zero => obtain rfl : k = 0 := by omega
            exact Nat.one_pos
  | succ n ih => cases k with
    | zero => rw [bin_zero]; omega
    | succ k => rw [bin_succ]; have := ih (k := k) (by omega); omega
theorem bin_le (n k : Nat) : bin n k ≤ 2 ^ n := by
  induction n generalizing k with
  | zero => cases k <;> simp [bin]
  | succ n ih => cases k with
    | zero => rw [bin_zero]; exact Nat.pow_pos (by omega)
    | succ k => rw [bin_succ, Nat.pow_succ]; have := ih k; have := ih (k + 1); omega
theorem two_lt {n j : Nat} (h : n < 30 * j) : 2 ^ n < 1073741824 ^ j := by
  rw [show (1073741824 : Nat) = 2 ^ 30 from rfl, ← Nat.pow_mul]
  exact Nat.pow_lt_pow_right (by omega) h
theorem bin_len {n : Nat} (k : Nat) (h : n ≤ 1024) : (nd (bin n k)).length ≤ 35 := by
  rw [nd_len]
  refine Nat.lt_of_le_of_lt (bin_le n k) ?_
  exact two_lt (by omega)
theorem bin_next {n i : Nat} (h : i ≤ n) : (0 + (n - i) * bin n i) / (i + 1) = bin n (i + 1) := by
  rw [Nat.zero_add, Nat.mul_comm, ← bin_mul n i h, Nat.mul_div_cancel _ (by omega)]

def ChRel (w : World) (n m : Nat) (s v : Value) (wr : World) : Prop := ∃ i : Nat, s = .int .i64 i ∧ i ≤ m ∧ Num wr v (bin n i) ∧ Gr w wr
/-- a result without an error -/
def ChPost (w : World) (N : Nat) (e : Ending) (w' : World) : Prop := ∃ v, e = .returned (.tuple #[v, .int .i64 0]) ∧ Num w' v N ∧ Gr w w'
set_option maxHeartbeats 2000000 in
theorem choose_any (n k : Nat) (w : World) (hn1 : n ≤ 1024) (hk1 : k ≤ 1024) :
    Calls Try.prog 19 #[.int .i64 n, .int .i64 k] w (ChPost w (bin n k)) := by
  have n0 : (0 : Int) ≤ (n : Int) := by omega
  have n1 : (n : Int) ≤ 1024 := by omega
  have k0 : (0 : Int) ≤ (k : Int) := by omega
  have k1 : (k : Int) ≤ 1024 := by omega
  have hl1 : Num (w.alloc (.cells #[.int .i64 1] 3)) (.slice (some ⟨w.heap.size, 0, none⟩) 1 1) (bin n 0) := by
    rw [bin_zero]
    unfold Num
    rw [nd_pos (by omega), show (1 : Nat) / 1073741824 = 0 from rfl, nd_zero]
    refine ⟨_, 1, rfl, Nat.le_refl _, by omega, fun i hi => ⟨w.heap.size, 0, rfl, trivial, ?_⟩⟩
    obtain rfl : i = 0 := by simp at hi; omega
    simp
  have HL1 := Lib.hid hl1
  clear hl1
  by_cases hkn : n < k
  · have d : decide (n < k) = true := by simpa using hkn
    go_enter Try.func19, Try.ntmps19
    go_wp2
    go_ret2
    exact ⟨_, rfl, by rw [bin_gt hkn]; exact Num.nil _, Gr.refl _⟩
  · have d : decide (n < k) = false := by simpa using hkn
    by_cases hm : k ≤ n - k
    · have e2 : (k : Int) ≤ (n : Int) - (k : Int) := by omega
      go_enter Try.func19, Try.ntmps19
      go_wp2
      go_loopw [31, 6] (fun s v wr => ChRel w n k s v wr) (fun s _ _ => k - (intOf s).toNat)
      case atStart => exact ⟨0, rfl, Nat.zero_le _, HL1.out, Gr.alloc (Gr.refl _) _⟩
      case round =>
        obtain ⟨i, rfl, hi, hn, hg⟩ := hrel
        have HN := Lib.hid hn
        clear hn
        by_cases hlt : i < k
        · have hlen := bin_len (n := n) i hn1
          have hf : n - i < 1073741824 := by omega
          have hsc := scale_any _ _ (n - i) 0 wr HN.out (lim_nd _) (by omega) hf (by omega)
          rw [show ((n - i : Nat) : Int) = (n : Int) - (i : Int) by omega, nv_nd] at hsc
          have HSC := Lib.hid hsc
          have i1 : (i : Int) < (n : Int) := by omega
          clear hsc hf
          go_wp2_with fail
          refine HSC.out.mono ?_
          rintro e w2 ⟨v2, rfl, ⟨g, cap, rfl, hb, hc, hm, ha⟩, hg2⟩
          have hpos : 0 < 0 + (n - i) * bin n i := by rw [Nat.zero_add]; exact Nat.mul_pos (by omega) (bin_pos (by omega))
          have hl2 : (nd (0 + (n - i) * bin n i)).length ≤ 100 := by
            rw [Nat.zero_add]
            have h1 : (nd (n - i)).length ≤ 1 := by rw [nd_len]; omega
            have h2 : (nd (bin n i)).length ≤ 35 := hlen
            rw [nd_len] at h1 h2 ⊢
            have h3 : (n - i) * bin n i < 1073741824 ^ 1 * 1073741824 ^ 35 := Nat.mul_lt_mul_of_lt_of_le h1 (Nat.le_of_lt h2) (Nat.pow_pos (by omega))
            rw [← Nat.pow_add] at h3
            exact Nat.lt_of_lt_of_le h3 (bp_mono (by omega))
          have hne : 0 < (nd (0 + (n - i) * bin n i)).length := by rw [nd_pos hpos]; simp
          have hsh := shrink_any _ (i + 1) g cap w2 ha (lim_nd _) (by omega) hne (by omega) (by omega)
          have HSH := Lib.hid hsh
          have HE := Lib.hid (bin_next (n := n) (i := i) (by omega))
          generalize 0 + (n - i) * bin n i = T at *
          clear hsh ha
          go_wp2_with fail
          refine HSH.out.mono ?_
          rintro e w3 ⟨Q, rfl, hQl, hQL, hQv, hQa, hex⟩
          rw [nv_nd, HE.out] at hQv
          have hrd : Rd (fun _ => True) w3 (.slice (some ⟨g, 0, none⟩) (nd T).length cap) Q := by
            have := hQa.rd (p := fun _ => True) (cap := cap) (by rw [hQl]; exact hc) hm trivial
            rwa [hQl] at this
          have htr := trim_any w3 hrd hQL
          have HTR := Lib.hid htr
          have hG3 : Gr w w3 := hg.step (Ex.gr hg2 hb hex)
          have HQV := Lib.hid hQv
          clear htr hrd hQa hQv
          go_wp2_with fail
          refine HTR.out.mono ?_
          rintro e w4 ⟨v4, rfl, hv4, rfl⟩
          rw [HQV.out] at hv4
          have HV4 := Lib.hid hv4
          clear hv4
          go_wp2_with fail
          go_roundw
          case rel => exact ⟨i + 1, by go_num, by omega, HV4.out, hG3⟩
          case measure => simp only [intOf]; omega
        · obtain rfl : i = k := by omega
          go_wp2_with fail
          go_ret2
          exact ⟨_, rfl, HN.out, hg⟩
    · have e2 : ¬ (k : Int) ≤ (n : Int) - (k : Int) := by omega
      have e3 : (n : Int) - (k : Int) = ((n - k : Nat) : Int) := by omega
      have hsym := Lib.hid (bin_symm n k (by omega))
      go_enter Try.func19, Try.ntmps19
      go_wp2
      obtain ⟨m, hmm⟩ : ∃ m, m = n - k := ⟨_, rfl⟩
      rw [← hmm] at hsym ⊢
      have hmn : m ≤ n := by omega
      have hm2 : m ≤ 1024 := by omega
      have hmk : (m : Int) ≤ (k : Int) := by omega
      clear e3 hmm
      rw [show min (k : Int) (m : Int) = (m : Int) by omega]
      go_loopw [31, 6] (fun s v wr => ChRel w n m s v wr) (fun s _ _ => m - (intOf s).toNat)
      case atStart => exact ⟨0, rfl, Nat.zero_le _, HL1.out, Gr.alloc (Gr.refl _) _⟩
      case round =>
        obtain ⟨i, rfl, hi, hn, hg⟩ := hrel
        have HN := Lib.hid hn
        clear hn
        by_cases hlt : i < m
        · have hlen := bin_len (n := n) i hn1
          have hf : n - i < 1073741824 := by omega
          have hsc := scale_any _ _ (n - i) 0 wr HN.out (lim_nd _) (by omega) hf (by omega)
          rw [show ((n - i : Nat) : Int) = (n : Int) - (i : Int) by omega, nv_nd] at hsc
          have HSC := Lib.hid hsc
          have i1 : (i : Int) < (n : Int) := by omega
          clear hsc hf
          go_wp2_with fail
          refine HSC.out.mono ?_
          rintro e w2 ⟨v2, rfl, ⟨g, cap, rfl, hb, hc, hm, ha⟩, hg2⟩
          have hpos : 0 < 0 + (n - i) * bin n i := by rw [Nat.zero_add]; exact Nat.mul_pos (by omega) (bin_pos (by omega))
          have hl2 : (nd (0 + (n - i) * bin n i)).length ≤ 100 := by
            rw [Nat.zero_add]
            have h1 : (nd (n - i)).length ≤ 1 := by rw [nd_len]; omega
            have h2 : (nd (bin n i)).length ≤ 35 := hlen
            rw [nd_len] at h1 h2 ⊢
            have h3 : (n - i) * bin n i < 1073741824 ^ 1 * 1073741824 ^ 35 := Nat.mul_lt_mul_of_lt_of_le h1 (Nat.le_of_lt h2) (Nat.pow_pos (by omega))
            rw [← Nat.pow_add] at h3
            exact Nat.lt_of_lt_of_le h3 (bp_mono (by omega))
          have hne : 0 < (nd (0 + (n - i) * bin n i)).length := by rw [nd_pos hpos]; simp
          have hsh := shrink_any _ (i + 1) g cap w2 ha (lim_nd _) (by omega) hne (by omega) (by omega)
          have HSH := Lib.hid hsh
          have HE := Lib.hid (bin_next (n := n) (i := i) (by omega))
          generalize 0 + (n - i) * bin n i = T at *
          clear hsh ha
          go_wp2_with fail
          refine HSH.out.mono ?_
          rintro e w3 ⟨Q, rfl, hQl, hQL, hQv, hQa, hex⟩
          rw [nv_nd, HE.out] at hQv
          have hrd : Rd (fun _ => True) w3 (.slice (some ⟨g, 0, none⟩) (nd T).length cap) Q := by
            have := hQa.rd (p := fun _ => True) (cap := cap) (by rw [hQl]; exact hc) hm trivial
            rwa [hQl] at this
          have htr := trim_any w3 hrd hQL
          have HTR := Lib.hid htr
          have hG3 : Gr w w3 := hg.step (Ex.gr hg2 hb hex)
          have HQV := Lib.hid hQv
          clear htr hrd hQa hQv
          go_wp2_with fail
          refine HTR.out.mono ?_
          rintro e w4 ⟨v4, rfl, hv4, rfl⟩
          rw [HQV.out] at hv4
          have HV4 := Lib.hid hv4
          clear hv4
          go_wp2_with fail
          go_roundw
          case rel => exact ⟨i + 1, by go_num, by omega, HV4.out, hG3⟩
          case measure => simp only [intOf]; omega
        · obtain rfl : i = m := by omega
          go_wp2_with fail
          go_ret2
          exact ⟨_, rfl, (hsym.out ▸ HN.out), hg⟩
end Go.Proofs.Ytgfgfgmdcicdcaa
