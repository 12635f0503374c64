/- The kinds of addresses: the landed function reads the table of special prefixes, the document's looks at the first two bytes. -/
import Derived.Test.YtkpejaiigopmgaaGreatDoorGr
import Derived.WalkKit
import Derived.WalkSpells
import Derived.WalkLawsBesides
import Derived.WalkSmall
import Derived.Handy
import Derived.BigQuiet
import Derived.Deep.QuietTactic
import Derived.Deep.RegionHeld3
import Derived.Deep.DeepFit
import Derived.Below
import Derived.Lib.Hide
import Derived.Lib.QuietBelow
import Derived.Laws.Rows
import Derived.Laws.BitsAllLaws
import Derived.Lib.BitFns
import Derived.StillTailTactics
namespace Go.Proofs.YtkpejaiigopmgaaGreatDoor
open Go Go.RowKit Go.Sort
set_option maxRecDepth 100000
set_option linter.unusedVariables false
/-- The number of addresses of a prefix of n bits. -/
def sz (n : Int) : Int := ((2 ^ (32 - n.toNat) : Nat) : Int)
theorem sz_pos (n : Int) : 1 ≤ sz n := by unfold sz; have := Nat.pow_pos (n := 32 - n.toNat) (show 0 < 2 by omega); omega
theorem sz_le (n : Int) : sz n ≤ 4294967296 := by
  unfold sz
  have := Nat.pow_le_pow_right (show 0 < 2 by omega) (show 32 - n.toNat ≤ 32 by omega)
  omega
theorem after_eq (n : Int) (h0 : 0 ≤ n) (h1 : n ≤ 32) : (4294967295 : Int) / 2 ^ n.toNat = sz n - 1 := by
  obtain ⟨k, rfl⟩ := Int.eq_ofNat_of_zero_le h0
  have hk : k ≤ 32 := by omega
  have H : ∀ k : Nat, k ≤ 32 → (4294967295 : Int) / 2 ^ (k : Int).toNat = sz k - 1 := by decide +kernel
  exact H k hk
/-- a prefix of n bits that begins at a is valid. -/
def vld (a n : Int) : Bool := decide (0 ≤ n ∧ n ≤ 32 ∧ a % sz n = 0)
theorem vld_iff {a n : Int} : vld a n = true ↔ 0 ≤ n ∧ n ≤ 32 ∧ a % sz n = 0 := by simp [vld]
theorem vld_no {a n : Int} (h : n < 0 ∨ 32 < n) : vld a n = false := by
  simp only [vld, decide_eq_false_iff_not]; omega
theorem and_after (a n : Int) (ha : 0 ≤ a) (ha1 : a < 4294967296) : bits .and .u32 a (sz n - 1) = a % sz n := by
  have h1 := sz_pos n
  have h2 := sz_le n
  rw [u32_and a (sz n - 1) ha ha1 (by omega) (by omega)]
  have e : (sz n - 1).toNat = 2 ^ (32 - n.toNat) - 1 := by unfold sz; have := Nat.pow_pos (n := 32 - n.toNat) (show 0 < 2 by omega); omega
  rw [e, Nat.and_two_pow_sub_one_eq_mod]
  have : ((a.toNat % 2 ^ (32 - n.toNat) : Nat) : Int) = (a.toNat : Int) % ((2 ^ (32 - n.toNat) : Nat) : Int) := by simp
  rw [this, Int.toNat_of_nonneg ha]; rfl
theorem nat_andNot (x : Nat) : ∀ (k m : Nat), k ≤ m → x < 2 ^ m → x &&& (2 ^ m - 1 - (2 ^ k - 1)) = x - x % 2 ^ k := by
  intro k m hk hx
  apply Nat.eq_of_testBit_eq
  intro i
  have e : 2 ^ m - 1 - (2 ^ k - 1) = 2 ^ m - ((2 ^ k - 1) + 1) := by omega
  have hp := Nat.pow_pos (n := k) (show 0 < 2 by omega)
  have hle := Nat.pow_le_pow_right (show 0 < 2 by omega) hk
  have e2 : x - x % 2 ^ k = (x / 2 ^ k) * 2 ^ k := by have := Nat.div_add_mod x (2 ^ k); rw [Nat.mul_comm] at this; omega
  rw [e, e2, Nat.testBit_and, Nat.testBit_two_pow_sub_succ (by omega), Nat.testBit_two_pow_sub_one, Nat.testBit_mul_two_pow, Nat.testBit_div_two_pow]
  by_cases hik : k ≤ i
  · have : ¬ i < k := by omega
    have e3 : i - k + k = i := by omega
    simp only [hik, this, decide_true, decide_false, Bool.not_false, Bool.and_true, Bool.true_and]
    rw [e3]
    by_cases him : i < m
    · simp [him]
    · have hxi : x.testBit i = false := Nat.testBit_lt_two_pow (Nat.lt_of_lt_of_le hx (Nat.pow_le_pow_right (by omega) (by omega)))
      simp [hxi]
  · have : i < k := by omega
    simp [hik, this]
theorem andNot_after (a n : Int) (ha : 0 ≤ a) (ha1 : a < 4294967296) : bits .andNot .u32 a (sz n - 1) = a - a % sz n := by
  have h1 := sz_pos n
  have h2 := sz_le n
  rw [u32_andNot a (sz n - 1) ha ha1 (by omega) (by omega)]
  have e : (sz n - 1).toNat = 2 ^ (32 - n.toNat) - 1 := by unfold sz; have := Nat.pow_pos (n := 32 - n.toNat) (show 0 < 2 by omega); omega
  have := nat_andNot a.toNat (32 - n.toNat) 32 (by omega) (by omega)
  rw [e]
  simp only [show (2 : Nat) ^ 32 - 1 = 4294967295 by decide] at this
  rw [this]
  have hm : ((a.toNat % 2 ^ (32 - n.toNat) : Nat) : Int) = a % sz n := by
    have : ((a.toNat % 2 ^ (32 - n.toNat) : Nat) : Int) = (a.toNat : Int) % ((2 ^ (32 - n.toNat) : Nat) : Int) := by simp
    rw [this, Int.toNat_of_nonneg ha]; rfl
  have hl := Nat.mod_le a.toNat (2 ^ (32 - n.toNat))
  omega
/-- the prefix of n bits at a contains x. -/
def ctn (a n x : Int) : Bool := vld a n && decide (a ≤ x ∧ x < a + sz n)
theorem ctn_iff {a n x : Int} : ctn a n x = true ↔ vld a n = true ∧ a ≤ x ∧ x < a + sz n := by simp [ctn]
theorem ctn_no {a n x : Int} (h : vld a n = false) : ctn a n x = false := by simp [ctn, h]
theorem ctn_mask {a n x : Int} (h : vld a n = true) : (x - x % sz n == a) = ctn a n x := by
  rw [Bool.eq_iff_iff, ctn_iff, beq_iff_eq]
  have ⟨_, _, hm⟩ := vld_iff.1 h
  have h1 := sz_pos n
  have hq := Int.mul_ediv_add_emod a (sz n)
  have hqx := Int.mul_ediv_add_emod x (sz n)
  have hx0 := Int.emod_nonneg x (show sz n ≠ 0 by omega)
  have hx1 := Int.emod_lt_of_pos x (show 0 < sz n by omega)
  rw [hm] at hq
  constructor
  · intro e; exact ⟨h, by omega, by omega⟩
  · rintro ⟨_, h2, h3⟩
    generalize sz n = s at *
    generalize a / s = u at *
    generalize x / s = v at *
    have : u = v := by
      rcases Int.lt_trichotomy u v with hlt | he | hgt
      · have : s * (u + 1) ≤ s * v := Int.mul_le_mul_of_nonneg_left (by omega) (by omega)
        rw [Int.mul_add] at this; omega
      · exact he
      · have : s * (v + 1) ≤ s * u := Int.mul_le_mul_of_nonneg_left (by omega) (by omega)
        rw [Int.mul_add] at this; omega
    subst this; omega
/-- the kind of an address, by its first two bytes -/
def knd (x y : Int) : Int := if x = 0 then 1 else if x = 127 then 2 else if x = 10 ∨ (x = 172 ∧ 16 ≤ y ∧ y < 32) ∨ (x = 192 ∧ y = 168) then 3 else if x = 169 ∧ y = 254 then 4 else if 224 ≤ x ∧ x < 240 then 5 else if 240 ≤ x then 6 else 0
theorem after_any (n : Int) (w : World) (h0 : 0 ≤ n) (h1 : n ≤ 32) :
    Calls Tryz.prog 99 #[.int .i64 n] w fun e w' => e = .returned (.int .u32 (sz n - 1)) ∧ w = w' := by
  go_enter Tryz.func99, Tryz.ntmps99
  go_wp2
  go_ret
  exact ⟨ret_int (after_eq n h0 h1), rfl⟩
/-- Valid, the landed one and the document's. -/
theorem valid_any (a n : Int) (w : World) (h0 : 0 ≤ a) (h1 : a < 4294967296) :
    Calls Tryz.prog 98 #[.agg #[.int .u32 a, .int .i64 n]] w fun e w' => e = .returned (.bool (vld a n)) ∧ Gr w w' := by
  by_cases hlo : n < 0
  · have hd : decide (0 ≤ n) = false := by simpa using hlo
    have hv := Lib.hid (vld_no (a := a) (Or.inl hlo))
    go_enter Tryz.func98, Tryz.ntmps98
    go_wp2
    go_quiet (fail)
    go_wp2
    go_ret
    exact ⟨ret_bool hv.out.symm, (by repeat' (first | (with_reducible exact Gr.refl _) | (with_reducible assumption) | (with_reducible refine Gr.drewN ?_ _) | (with_reducible refine Gr.drew ?_) | (with_reducible refine Gr.alloc ?_ _) | (with_reducible refine Gr.setCell ?_ ?_ _) | (with_reducible refine Gr.grow ?_ _ _) | (refine Gr.step ?_ (by with_reducible assumption)) | go_size))⟩
  by_cases hhi : 32 < n
  · have hd : decide (0 ≤ n) = true := by simpa using hlo
    have hd2 : decide (n ≤ 32) = false := by simpa using hhi
    have hv := Lib.hid (vld_no (a := a) (Or.inr hhi))
    go_enter Tryz.func98, Tryz.ntmps98
    go_wp2
    go_quiet (fail)
    go_wp2
    go_ret
    exact ⟨ret_bool hv.out.symm, (by repeat' (first | (with_reducible exact Gr.refl _) | (with_reducible assumption) | (with_reducible refine Gr.drewN ?_ _) | (with_reducible refine Gr.drew ?_) | (with_reducible refine Gr.alloc ?_ _) | (with_reducible refine Gr.setCell ?_ ?_ _) | (with_reducible refine Gr.grow ?_ _ _) | (refine Gr.step ?_ (by with_reducible assumption)) | go_size))⟩
  · have g0 : 0 ≤ n := by omega
    have g1 : n ≤ 32 := by omega
    have hd : decide (0 ≤ n) = true := by simpa using hlo
    have hd2 : decide (n ≤ 32) = true := by simpa using hhi
    have hv : (bits .and .u32 a (sz n - 1) == 0) = vld a n := by
      rw [and_after a n h0 h1, Bool.eq_iff_iff, vld_iff, beq_iff_eq]; omega
    have Hv := Lib.hid hv; clear hv
    go_enter Tryz.func98, Tryz.ntmps98
    go_wp2
    go_quiet ((go_at_call 99; exact Calls.quiet_of_same ((after_any n _ g0 g1).mono fun e w' ⟨he, hw⟩ => ⟨he, hw.symm⟩)))
    go_wp2
    go_ret
    exact ⟨ret_bool Hv.out, (by repeat' (first | (with_reducible exact Gr.refl _) | (with_reducible assumption) | (with_reducible refine Gr.drewN ?_ _) | (with_reducible refine Gr.drew ?_) | (with_reducible refine Gr.alloc ?_ _) | (with_reducible refine Gr.setCell ?_ ?_ _) | (with_reducible refine Gr.grow ?_ _ _) | (refine Gr.step ?_ (by with_reducible assumption)) | go_size))⟩
theorem valid_yes (a n : Int) (w : World) (h0 : 0 ≤ a) (h1 : a < 4294967296) (hv : vld a n = true) :
    Calls Tryz.prog 98 #[.agg #[.int .u32 a, .int .i64 n]] w fun e w' => e = .returned (.bool true) ∧ Gr w w' := by
  rw [← hv]; exact valid_any a n w h0 h1
theorem valid_no (a n : Int) (w : World) (h0 : 0 ≤ a) (h1 : a < 4294967296) (hv : vld a n = false) :
    Calls Tryz.prog 98 #[.agg #[.int .u32 a, .int .i64 n]] w fun e w' => e = .returned (.bool false) ∧ Gr w w' := by
  rw [← hv]; exact valid_any a n w h0 h1
theorem ctn_any (a n x : Int) (w : World) (h0 : 0 ≤ a) (h1 : a < 4294967296) (x0 : 0 ≤ x) (x1 : x < 4294967296) :
    Calls Tryz.prog 81 #[.agg #[.int .u32 a, .int .i64 n], .int .u32 x] w fun e w' => e = .returned (.bool (ctn a n x)) ∧ Gr w w' := by
  obtain ⟨c0, c1⟩ := two_cells w (.int .u32 a) (.int .i64 n) 111
  by_cases hv : vld a n = true
  · have ⟨g0, g1, _⟩ := vld_iff.1 hv
    have E := Lib.hid (ctn_mask (x := x) hv)
    have A := Lib.hid (andNot_after x n x0 x1)
    have Hv := Lib.hid hv
    clear hv
    go_enter Tryz.func81, Tryz.ntmps81
    go_wp2_with fail
    refine wp_region_quiet_below (by kernel_rfl) (by kernel_rfl) ?_
    repeat (any_goals (first | go_big_quiet_step (first | (go_at_call 99; exact Calls.gr_same (after_any n _ g0 g1)) | (go_at_call 98; exact Calls.gr_of (valid_yes a n _ h0 h1 Hv.out))) | quiet_step (first | (go_at_call 99; exact Calls.gr_same (after_any n _ g0 g1)) | (go_at_call 98; exact Calls.gr_of (valid_yes a n _ h0 h1 Hv.out)))))
    refine wpQuiet_nil ?_
    intro _ hw'
    obtain ⟨⟨dq, osq⟩, hw''⟩ := hw'
    subst hw''
    go_wp2
    go_ret
    exact ⟨ret_bool (by rw [A.out]; exact E.out), (by repeat' (first | (with_reducible exact Gr.refl _) | (with_reducible assumption) | (with_reducible refine Gr.drewN ?_ _) | (with_reducible refine Gr.drew ?_) | (with_reducible refine Gr.alloc ?_ _) | (with_reducible refine Gr.setCell ?_ ?_ _) | (with_reducible refine Gr.grow ?_ _ _) | (refine Gr.step ?_ (by with_reducible assumption)) | go_size))⟩
  · have Hv := Lib.hid (show vld a n = false by simpa using hv)
    have E := Lib.hid (ctn_no (x := x) Hv.out)
    clear hv
    go_enter Tryz.func81, Tryz.ntmps81
    go_wp2_with fail
    refine wp_region_quiet_below (by kernel_rfl) (by kernel_rfl) ?_
    repeat (any_goals (first | go_big_quiet_step (first | (go_at_call 98; exact Calls.gr_of (valid_no a n _ h0 h1 Hv.out))) | quiet_step (first | (go_at_call 98; exact Calls.gr_of (valid_no a n _ h0 h1 Hv.out)))))
    refine wpQuiet_nil ?_
    intro _ hw'
    obtain ⟨⟨dq, osq⟩, hw''⟩ := hw'
    subst hw''
    go_wp2
    go_ret
    exact ⟨ret_bool E.out.symm, (by repeat' (first | (with_reducible exact Gr.refl _) | (with_reducible assumption) | (with_reducible refine Gr.drewN ?_ _) | (with_reducible refine Gr.drew ?_) | (with_reducible refine Gr.alloc ?_ _) | (with_reducible refine Gr.setCell ?_ ?_ _) | (with_reducible refine Gr.grow ?_ _ _) | (refine Gr.step ?_ (by with_reducible assumption)) | go_size))⟩
theorem ctn_is (a n x : Int) (v : Bool) (w : World) (h0 : 0 ≤ a) (h1 : a < 4294967296) (x0 : 0 ≤ x) (x1 : x < 4294967296) (h : ctn a n x = v) :
    Calls Tryz.prog 81 #[.agg #[.int .u32 a, .int .i64 n], .int .u32 x] w fun e w' => e = .returned (.bool v) ∧ Gr w w' := by
  rw [← h]; exact ctn_any a n x w h0 h1 x0 x1
def spCells : Array Value := #[.int .u32 0, .int .i64 8, .int .i64 1, .int .u32 2130706432, .int .i64 8, .int .i64 2, .int .u32 167772160, .int .i64 8, .int .i64 3, .int .u32 2886729728, .int .i64 12, .int .i64 3, .int .u32 3232235520, .int .i64 16, .int .i64 3, .int .u32 2851995648, .int .i64 16, .int .i64 4, .int .u32 3758096384, .int .i64 4, .int .i64 5, .int .u32 4026531840, .int .i64 4, .int .i64 6]
/-- the table of special prefixes is as it was laid -/
def SpTab (w : World) : Prop := ∃ t fr, w.heap[0]? = some (.cells spCells t fr)
theorem SpTab.gr {w w' : World} (h : SpTab w) (g : Gr w w') : SpTab w' := by
  obtain ⟨t, fr, h⟩ := h
  have hl : 0 < w.heap.size := by
    apply Decidable.byContradiction; intro hc
    rw [Array.getElem?_eq_none (by omega)] at h; cases h
  exact ⟨t, fr, by rw [Below.block g _ hl]; exact h⟩
theorem lit_yes (a n s x : Int) (hv : (vld a n && (sz n == s)) = true) (h : a ≤ x ∧ x < a + s) : ctn a n x = true := by
  simp only [Bool.and_eq_true, beq_iff_eq] at hv
  rw [ctn_iff]; exact ⟨hv.1, h.1, by rw [hv.2]; exact h.2⟩
theorem lit_no (a n s x : Int) (hv : (vld a n && (sz n == s)) = true) (h : ¬ (a ≤ x ∧ x < a + s)) : ctn a n x = false := by
  simp only [Bool.and_eq_true, beq_iff_eq] at hv
  rw [Bool.eq_false_iff, ne_eq, ctn_iff]; intro h2; rw [hv.2] at h2; exact h ⟨h2.2.1, h2.2.2⟩
set_option maxHeartbeats 1000000 in
theorem special_any (a : Int) (w : World) (h0 : 0 ≤ a) (h1 : a < 4294967296) (ht : SpTab w) :
    Calls Tryz.prog 45 #[.int .u32 a] w fun e w' => e = .returned (.int .i64 (knd (a / 16777216) (a / 65536 % 256))) ∧ Gr w w' := by
  obtain ⟨tt, fr, hg⟩ := ht
  have Hg := Lib.hid hg
  clear hg
  have i0 : ∀ w : World, (Instr.index 114 (.agg spCells) (.int .i64 0)).run Tryz.prog w = .ok (.agg #[.int .u32 0, .int .i64 8, .int .i64 1]) w := fun _ => by kernel_rfl
  have i1 : ∀ w : World, (Instr.index 114 (.agg spCells) (.int .i64 1)).run Tryz.prog w = .ok (.agg #[.int .u32 2130706432, .int .i64 8, .int .i64 2]) w := fun _ => by kernel_rfl
  have i2 : ∀ w : World, (Instr.index 114 (.agg spCells) (.int .i64 2)).run Tryz.prog w = .ok (.agg #[.int .u32 167772160, .int .i64 8, .int .i64 3]) w := fun _ => by kernel_rfl
  have i3 : ∀ w : World, (Instr.index 114 (.agg spCells) (.int .i64 3)).run Tryz.prog w = .ok (.agg #[.int .u32 2886729728, .int .i64 12, .int .i64 3]) w := fun _ => by kernel_rfl
  have i4 : ∀ w : World, (Instr.index 114 (.agg spCells) (.int .i64 4)).run Tryz.prog w = .ok (.agg #[.int .u32 3232235520, .int .i64 16, .int .i64 3]) w := fun _ => by kernel_rfl
  have i5 : ∀ w : World, (Instr.index 114 (.agg spCells) (.int .i64 5)).run Tryz.prog w = .ok (.agg #[.int .u32 2851995648, .int .i64 16, .int .i64 4]) w := fun _ => by kernel_rfl
  have i6 : ∀ w : World, (Instr.index 114 (.agg spCells) (.int .i64 6)).run Tryz.prog w = .ok (.agg #[.int .u32 3758096384, .int .i64 4, .int .i64 5]) w := fun _ => by kernel_rfl
  have i7 : ∀ w : World, (Instr.index 114 (.agg spCells) (.int .i64 7)).run Tryz.prog w = .ok (.agg #[.int .u32 4026531840, .int .i64 4, .int .i64 6]) w := fun _ => by kernel_rfl
  go_enter Tryz.func45, Tryz.ntmps45
  go_wp2_with (refine wpList_load_row rfl 114 _ rfl 0 rfl tt _ fr _ Hg.out Tryz.underlying114 rfl (by kernel_rfl) ?_)
  refine wp_loop_rounds 9 ?_
  rw [rounds_succ]
  by_cases c0 : 0 ≤ a ∧ a < 16777216
  · have C := Lib.hid (lit_yes 0 8 16777216 a (by decide +kernel) c0)
    have K := Lib.hid (show knd (a / 16777216) (a / 65536 % 256) = 1 by unfold knd; (repeat' split) <;> omega)
    go_wp2_with (go_at_call 81; refine (ctn_is 0 8 a _ _ (by omega) (by omega) h0 h1 C.out).mono ?_; rintro e x0 ⟨rfl, hx0⟩; obtain ⟨hc, hf⟩ := Gr.cells hx0; have hk : x0.cell? ⟨w.heap.size, 2, none⟩ = some (.int .i64 1) := (by rw [hc _ _ (by go_size)]; first | (simp; done) | go_cell | (simp [go_sem, *]; done)); clear hc hf)
    go_ret
    exact ⟨ret_int K.out.symm, (by repeat' (first | (with_reducible exact Gr.refl _) | (with_reducible assumption) | (with_reducible refine Gr.drewN ?_ _) | (with_reducible refine Gr.drew ?_) | (with_reducible refine Gr.alloc ?_ _) | (with_reducible refine Gr.setCell ?_ ?_ _) | (with_reducible refine Gr.grow ?_ _ _) | (refine Gr.step ?_ (by with_reducible assumption)) | go_size))⟩
  have N0 := Lib.hid (lit_no 0 8 16777216 a (by decide +kernel) c0)
  go_wp2_with (go_at_call 81; refine (ctn_is 0 8 a _ _ (by omega) (by omega) h0 h1 N0.out).mono ?_; rintro e x0 ⟨rfl, hx0⟩)
  rw [rounds_succ]
  by_cases c1 : 2130706432 ≤ a ∧ a < 2147483648
  · have C := Lib.hid (lit_yes 2130706432 8 16777216 a (by decide +kernel) c1)
    have K := Lib.hid (show knd (a / 16777216) (a / 65536 % 256) = 2 by unfold knd; (repeat' split) <;> omega)
    go_wp2_with (go_at_call 81; refine (ctn_is 2130706432 8 a _ _ (by omega) (by omega) h0 h1 C.out).mono ?_; rintro e x1 ⟨rfl, hx1⟩; obtain ⟨hc, hf⟩ := Gr.cells hx1; have hk : x1.cell? ⟨x0.heap.size, 2, none⟩ = some (.int .i64 2) := (by rw [hc _ _ (by go_size)]; first | (simp; done) | go_cell | (simp [go_sem, *]; done)); clear hc hf)
    go_ret
    exact ⟨ret_int K.out.symm, (by repeat' (first | (with_reducible exact Gr.refl _) | (with_reducible assumption) | (with_reducible refine Gr.drewN ?_ _) | (with_reducible refine Gr.drew ?_) | (with_reducible refine Gr.alloc ?_ _) | (with_reducible refine Gr.setCell ?_ ?_ _) | (with_reducible refine Gr.grow ?_ _ _) | (refine Gr.step ?_ (by with_reducible assumption)) | go_size))⟩
  have N1 := Lib.hid (lit_no 2130706432 8 16777216 a (by decide +kernel) c1)
  go_wp2_with (go_at_call 81; refine (ctn_is 2130706432 8 a _ _ (by omega) (by omega) h0 h1 N1.out).mono ?_; rintro e x1 ⟨rfl, hx1⟩)
  rw [rounds_succ]
  by_cases c2 : 167772160 ≤ a ∧ a < 184549376
  · have C := Lib.hid (lit_yes 167772160 8 16777216 a (by decide +kernel) c2)
    have K := Lib.hid (show knd (a / 16777216) (a / 65536 % 256) = 3 by unfold knd; (repeat' split) <;> omega)
    go_wp2_with (go_at_call 81; refine (ctn_is 167772160 8 a _ _ (by omega) (by omega) h0 h1 C.out).mono ?_; rintro e x2 ⟨rfl, hx2⟩; obtain ⟨hc, hf⟩ := Gr.cells hx2; have hk : x2.cell? ⟨x1.heap.size, 2, none⟩ = some (.int .i64 3) := (by rw [hc _ _ (by go_size)]; first | (simp; done) | go_cell | (simp [go_sem, *]; done)); clear hc hf)
    go_ret
    exact ⟨ret_int K.out.symm, (by repeat' (first | (with_reducible exact Gr.refl _) | (with_reducible assumption) | (with_reducible refine Gr.drewN ?_ _) | (with_reducible refine Gr.drew ?_) | (with_reducible refine Gr.alloc ?_ _) | (with_reducible refine Gr.setCell ?_ ?_ _) | (with_reducible refine Gr.grow ?_ _ _) | (refine Gr.step ?_ (by with_reducible assumption)) | go_size))⟩
  have N2 := Lib.hid (lit_no 167772160 8 16777216 a (by decide +kernel) c2)
  go_wp2_with (go_at_call 81; refine (ctn_is 167772160 8 a _ _ (by omega) (by omega) h0 h1 N2.out).mono ?_; rintro e x2 ⟨rfl, hx2⟩)
  rw [rounds_succ]
  by_cases c3 : 2886729728 ≤ a ∧ a < 2887778304
  · have C := Lib.hid (lit_yes 2886729728 12 1048576 a (by decide +kernel) c3)
    have K := Lib.hid (show knd (a / 16777216) (a / 65536 % 256) = 3 by unfold knd; (repeat' split) <;> omega)
    go_wp2_with (go_at_call 81; refine (ctn_is 2886729728 12 a _ _ (by omega) (by omega) h0 h1 C.out).mono ?_; rintro e x3 ⟨rfl, hx3⟩; obtain ⟨hc, hf⟩ := Gr.cells hx3; have hk : x3.cell? ⟨x2.heap.size, 2, none⟩ = some (.int .i64 3) := (by rw [hc _ _ (by go_size)]; first | (simp; done) | go_cell | (simp [go_sem, *]; done)); clear hc hf)
    go_ret
    exact ⟨ret_int K.out.symm, (by repeat' (first | (with_reducible exact Gr.refl _) | (with_reducible assumption) | (with_reducible refine Gr.drewN ?_ _) | (with_reducible refine Gr.drew ?_) | (with_reducible refine Gr.alloc ?_ _) | (with_reducible refine Gr.setCell ?_ ?_ _) | (with_reducible refine Gr.grow ?_ _ _) | (refine Gr.step ?_ (by with_reducible assumption)) | go_size))⟩
  have N3 := Lib.hid (lit_no 2886729728 12 1048576 a (by decide +kernel) c3)
  go_wp2_with (go_at_call 81; refine (ctn_is 2886729728 12 a _ _ (by omega) (by omega) h0 h1 N3.out).mono ?_; rintro e x3 ⟨rfl, hx3⟩)
  rw [rounds_succ]
  by_cases c4 : 3232235520 ≤ a ∧ a < 3232301056
  · have C := Lib.hid (lit_yes 3232235520 16 65536 a (by decide +kernel) c4)
    have K := Lib.hid (show knd (a / 16777216) (a / 65536 % 256) = 3 by unfold knd; (repeat' split) <;> omega)
    go_wp2_with (go_at_call 81; refine (ctn_is 3232235520 16 a _ _ (by omega) (by omega) h0 h1 C.out).mono ?_; rintro e x4 ⟨rfl, hx4⟩; obtain ⟨hc, hf⟩ := Gr.cells hx4; have hk : x4.cell? ⟨x3.heap.size, 2, none⟩ = some (.int .i64 3) := (by rw [hc _ _ (by go_size)]; first | (simp; done) | go_cell | (simp [go_sem, *]; done)); clear hc hf)
    go_ret
    exact ⟨ret_int K.out.symm, (by repeat' (first | (with_reducible exact Gr.refl _) | (with_reducible assumption) | (with_reducible refine Gr.drewN ?_ _) | (with_reducible refine Gr.drew ?_) | (with_reducible refine Gr.alloc ?_ _) | (with_reducible refine Gr.setCell ?_ ?_ _) | (with_reducible refine Gr.grow ?_ _ _) | (refine Gr.step ?_ (by with_reducible assumption)) | go_size))⟩
  have N4 := Lib.hid (lit_no 3232235520 16 65536 a (by decide +kernel) c4)
  go_wp2_with (go_at_call 81; refine (ctn_is 3232235520 16 a _ _ (by omega) (by omega) h0 h1 N4.out).mono ?_; rintro e x4 ⟨rfl, hx4⟩)
  rw [rounds_succ]
  by_cases c5 : 2851995648 ≤ a ∧ a < 2852061184
  · have C := Lib.hid (lit_yes 2851995648 16 65536 a (by decide +kernel) c5)
    have K := Lib.hid (show knd (a / 16777216) (a / 65536 % 256) = 4 by unfold knd; (repeat' split) <;> omega)
    go_wp2_with (go_at_call 81; refine (ctn_is 2851995648 16 a _ _ (by omega) (by omega) h0 h1 C.out).mono ?_; rintro e x5 ⟨rfl, hx5⟩; obtain ⟨hc, hf⟩ := Gr.cells hx5; have hk : x5.cell? ⟨x4.heap.size, 2, none⟩ = some (.int .i64 4) := (by rw [hc _ _ (by go_size)]; first | (simp; done) | go_cell | (simp [go_sem, *]; done)); clear hc hf)
    go_ret
    exact ⟨ret_int K.out.symm, (by repeat' (first | (with_reducible exact Gr.refl _) | (with_reducible assumption) | (with_reducible refine Gr.drewN ?_ _) | (with_reducible refine Gr.drew ?_) | (with_reducible refine Gr.alloc ?_ _) | (with_reducible refine Gr.setCell ?_ ?_ _) | (with_reducible refine Gr.grow ?_ _ _) | (refine Gr.step ?_ (by with_reducible assumption)) | go_size))⟩
  have N5 := Lib.hid (lit_no 2851995648 16 65536 a (by decide +kernel) c5)
  go_wp2_with (go_at_call 81; refine (ctn_is 2851995648 16 a _ _ (by omega) (by omega) h0 h1 N5.out).mono ?_; rintro e x5 ⟨rfl, hx5⟩)
  rw [rounds_succ]
  by_cases c6 : 3758096384 ≤ a ∧ a < 4026531840
  · have C := Lib.hid (lit_yes 3758096384 4 268435456 a (by decide +kernel) c6)
    have K := Lib.hid (show knd (a / 16777216) (a / 65536 % 256) = 5 by unfold knd; (repeat' split) <;> omega)
    go_wp2_with (go_at_call 81; refine (ctn_is 3758096384 4 a _ _ (by omega) (by omega) h0 h1 C.out).mono ?_; rintro e x6 ⟨rfl, hx6⟩; obtain ⟨hc, hf⟩ := Gr.cells hx6; have hk : x6.cell? ⟨x5.heap.size, 2, none⟩ = some (.int .i64 5) := (by rw [hc _ _ (by go_size)]; first | (simp; done) | go_cell | (simp [go_sem, *]; done)); clear hc hf)
    go_ret
    exact ⟨ret_int K.out.symm, (by repeat' (first | (with_reducible exact Gr.refl _) | (with_reducible assumption) | (with_reducible refine Gr.drewN ?_ _) | (with_reducible refine Gr.drew ?_) | (with_reducible refine Gr.alloc ?_ _) | (with_reducible refine Gr.setCell ?_ ?_ _) | (with_reducible refine Gr.grow ?_ _ _) | (refine Gr.step ?_ (by with_reducible assumption)) | go_size))⟩
  have N6 := Lib.hid (lit_no 3758096384 4 268435456 a (by decide +kernel) c6)
  go_wp2_with (go_at_call 81; refine (ctn_is 3758096384 4 a _ _ (by omega) (by omega) h0 h1 N6.out).mono ?_; rintro e x6 ⟨rfl, hx6⟩)
  rw [rounds_succ]
  by_cases c7 : 4026531840 ≤ a ∧ a < 4294967296
  · have C := Lib.hid (lit_yes 4026531840 4 268435456 a (by decide +kernel) c7)
    have K := Lib.hid (show knd (a / 16777216) (a / 65536 % 256) = 6 by unfold knd; (repeat' split) <;> omega)
    go_wp2_with (go_at_call 81; refine (ctn_is 4026531840 4 a _ _ (by omega) (by omega) h0 h1 C.out).mono ?_; rintro e x7 ⟨rfl, hx7⟩; obtain ⟨hc, hf⟩ := Gr.cells hx7; have hk : x7.cell? ⟨x6.heap.size, 2, none⟩ = some (.int .i64 6) := (by rw [hc _ _ (by go_size)]; first | (simp; done) | go_cell | (simp [go_sem, *]; done)); clear hc hf)
    go_ret
    exact ⟨ret_int K.out.symm, (by repeat' (first | (with_reducible exact Gr.refl _) | (with_reducible assumption) | (with_reducible refine Gr.drewN ?_ _) | (with_reducible refine Gr.drew ?_) | (with_reducible refine Gr.alloc ?_ _) | (with_reducible refine Gr.setCell ?_ ?_ _) | (with_reducible refine Gr.grow ?_ _ _) | (refine Gr.step ?_ (by with_reducible assumption)) | go_size))⟩
  have N7 := Lib.hid (lit_no 4026531840 4 268435456 a (by decide +kernel) c7)
  go_wp2_with (go_at_call 81; refine (ctn_is 4026531840 4 a _ _ (by omega) (by omega) h0 h1 N7.out).mono ?_; rintro e x7 ⟨rfl, hx7⟩)
  rw [rounds_succ]
  have K := Lib.hid (show knd (a / 16777216) (a / 65536 % 256) = 0 by unfold knd; (repeat' split) <;> omega)
  go_wp2
  go_ret
  exact ⟨ret_int K.out.symm, (by repeat' (first | (with_reducible exact Gr.refl _) | (with_reducible assumption) | (with_reducible refine Gr.drewN ?_ _) | (with_reducible refine Gr.drew ?_) | (with_reducible refine Gr.alloc ?_ _) | (with_reducible refine Gr.setCell ?_ ?_ _) | (with_reducible refine Gr.grow ?_ _ _) | (refine Gr.step ?_ (by with_reducible assumption)) | go_size))⟩
theorem i64_and255 (n : Int) : bits .and .i64 n 255 = n % 256 := by
  have h255 : (BitVec.ofInt 64 255).toNat = 2 ^ 8 - 1 := by decide
  have key : (BitVec.ofInt 64 n &&& BitVec.ofInt 64 255).toNat = (n % ((2 ^ 64 : Nat) : Int)).toNat % 2 ^ 8 := by
    rw [BitVec.toNat_and, BitVec.toNat_ofInt, h255, Nat.and_two_pow_sub_one_eq_mod]
  show IntKind.i64.wrap ((BitVec.ofInt 64 n &&& BitVec.ofInt 64 255).toNat : Nat) = n % 256
  rw [key, IntKind.wrap_i64]
  omega
theorem rspecial_any (a : Int) (w : World) (h0 : 0 ≤ a) (h1 : a < 4294967296) :
    Calls Tryz.prog 32 #[.int .u32 a] w fun e w' => e = .returned (.int .i64 (knd (a / 16777216) (a / 65536 % 256))) ∧ Gr w w' := by
  have e1 := i64_and255 (a / 65536)
  go_enter Tryz.func32, Tryz.ntmps32
  go_wp2
  all_goals (go_ret; refine ⟨ret_int ?_, Gr.refl _⟩; simp only [beq_iff_eq, beq_eq_false_iff_ne, ne_eq] at *; unfold knd; (repeat' split) <;> omega)

end Go.Proofs.YtkpejaiigopmgaaGreatDoor
