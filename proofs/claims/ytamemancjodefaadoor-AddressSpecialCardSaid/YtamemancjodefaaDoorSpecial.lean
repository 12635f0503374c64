/- Special: the landed one reads the table of special prefixes, the document's looks at the first two bytes. -/
import Derived.Test.YtamemancjodefaaDoorCom
import Derived.WalkKit
import Derived.WalkSpells
import Derived.WalkLawsBesides
import Derived.WalkSmall
import Derived.Handy
import Derived.BigQuiet
import Derived.Deep.QuietTactic
import Derived.Deep.RegionHeld3
import Derived.Deep.DeepFit
import Derived.Below
import Derived.Lib.Hide
import Derived.Lib.QuietBelow
import Derived.Laws.Rows
namespace Go.Proofs.YtamemancjodefaaDoor
open Go Go.RowKit Go.Sort
set_option maxRecDepth 100000

def spCells : Array Value := #[.int .u32 0, .int .i64 8, .int .i64 1, .int .u32 2130706432, .int .i64 8, .int .i64 2, .int .u32 167772160, .int .i64 8, .int .i64 3, .int .u32 2886729728, .int .i64 12, .int .i64 3, .int .u32 3232235520, .int .i64 16, .int .i64 3, .int .u32 2851995648, .int .i64 16, .int .i64 4, .int .u32 3758096384, .int .i64 4, .int .i64 5, .int .u32 4026531840, .int .i64 4, .int .i64 6]
/-- the table of special prefixes is as it was laid -/
def SpTab (w : World) : Prop := ∃ t fr, w.heap[0]? = some (.cells spCells t fr)
theorem SpTab.gr {w w' : World} (h : SpTab w) (g : Gr w w') : SpTab w' := by
  obtain ⟨t, fr, h⟩ := h
  have hl : 0 < w.heap.size := by
    apply Decidable.byContradiction; intro hc
    rw [Array.getElem?_eq_none (by omega)] at h; cases h
  exact ⟨t, fr, by rw [Below.block g _ hl]; exact h⟩
theorem lit_yes (a n s x : Int) (hv : (vld a n && (sz n == s)) = true) (h : a ≤ x ∧ x < a + s) : ctn a n x = true := by
  simp only [Bool.and_eq_true, beq_iff_eq] at hv
  rw [ctn_iff]; exact ⟨hv.1, h.1, by rw [hv.2]; exact h.2⟩
theorem lit_no (a n s x : Int) (hv : (vld a n && (sz n == s)) = true) (h : ¬ (a ≤ x ∧ x < a + s)) : ctn a n x = false := by
  simp only [Bool.and_eq_true, beq_iff_eq] at hv
  rw [Bool.eq_false_iff, ne_eq, ctn_iff]; intro h2; rw [hv.2] at h2; exact h ⟨h2.2.1, h2.2.2⟩
set_option maxHeartbeats 1000000 in
theorem special_any (a : Int) (w : World) (h0 : 0 ≤ a) (h1 : a < 4294967296) (ht : SpTab w) :
    Calls Tryd.prog 42 #[.int .u32 a] w fun e w' => e = .returned (.int .i64 (knd (a / 16777216) (a / 65536 % 256))) ∧ Gr w w' := by
  obtain ⟨tt, fr, hg⟩ := ht
  have Hg := Lib.hid hg
  clear hg
  have i0 : ∀ w : World, (Instr.index 82 (.agg spCells) (.int .i64 0)).run Tryd.prog w = .ok (.agg #[.int .u32 0, .int .i64 8, .int .i64 1]) w := fun _ => by kernel_rfl
  have i1 : ∀ w : World, (Instr.index 82 (.agg spCells) (.int .i64 1)).run Tryd.prog w = .ok (.agg #[.int .u32 2130706432, .int .i64 8, .int .i64 2]) w := fun _ => by kernel_rfl
  have i2 : ∀ w : World, (Instr.index 82 (.agg spCells) (.int .i64 2)).run Tryd.prog w = .ok (.agg #[.int .u32 167772160, .int .i64 8, .int .i64 3]) w := fun _ => by kernel_rfl
  have i3 : ∀ w : World, (Instr.index 82 (.agg spCells) (.int .i64 3)).run Tryd.prog w = .ok (.agg #[.int .u32 2886729728, .int .i64 12, .int .i64 3]) w := fun _ => by kernel_rfl
  have i4 : ∀ w : World, (Instr.index 82 (.agg spCells) (.int .i64 4)).run Tryd.prog w = .ok (.agg #[.int .u32 3232235520, .int .i64 16, .int .i64 3]) w := fun _ => by kernel_rfl
  have i5 : ∀ w : World, (Instr.index 82 (.agg spCells) (.int .i64 5)).run Tryd.prog w = .ok (.agg #[.int .u32 2851995648, .int .i64 16, .int .i64 4]) w := fun _ => by kernel_rfl
  have i6 : ∀ w : World, (Instr.index 82 (.agg spCells) (.int .i64 6)).run Tryd.prog w = .ok (.agg #[.int .u32 3758096384, .int .i64 4, .int .i64 5]) w := fun _ => by kernel_rfl
  have i7 : ∀ w : World, (Instr.index 82 (.agg spCells) (.int .i64 7)).run Tryd.prog w = .ok (.agg #[.int .u32 4026531840, .int .i64 4, .int .i64 6]) w := fun _ => by kernel_rfl
  go_enter Tryd.func42, Tryd.ntmps42
  go_wp2_with (refine wpList_load_row rfl 82 _ rfl 0 rfl tt _ fr _ Hg.out Tryd.underlying82 rfl (by kernel_rfl) ?_)
  refine wp_loop_rounds 9 ?_
  rw [rounds_succ]
  by_cases c0 : 0 ≤ a ∧ a < 16777216
  · have C := Lib.hid (lit_yes 0 8 16777216 a (by decide +kernel) c0)
    have K := Lib.hid (show knd (a / 16777216) (a / 65536 % 256) = 1 by unfold knd; (repeat' split) <;> omega)
    go_wp2_with (go_at_call 23; refine (ctn_is 0 8 a _ _ (by omega) (by omega) h0 h1 C.out).mono ?_; rintro e x0 ⟨rfl, hx0⟩; obtain ⟨hc, hf⟩ := Gr.cells hx0; have hk : x0.cell? ⟨w.heap.size, 2, none⟩ = some (.int .i64 1) := (by rw [hc _ _ (by go_size)]; first | (simp; done) | go_cell | (simp [go_sem, *]; done)); clear hc hf)
    go_ret
    exact ⟨ret_int K.out.symm, (by repeat' (first | (with_reducible exact Gr.refl _) | (with_reducible assumption) | (with_reducible refine Gr.drewN ?_ _) | (with_reducible refine Gr.drew ?_) | (with_reducible refine Gr.alloc ?_ _) | (with_reducible refine Gr.setCell ?_ ?_ _) | (with_reducible refine Gr.grow ?_ _ _) | (refine Gr.step ?_ (by with_reducible assumption)) | go_size))⟩
  have N0 := Lib.hid (lit_no 0 8 16777216 a (by decide +kernel) c0)
  go_wp2_with (go_at_call 23; refine (ctn_is 0 8 a _ _ (by omega) (by omega) h0 h1 N0.out).mono ?_; rintro e x0 ⟨rfl, hx0⟩)
  rw [rounds_succ]
  by_cases c1 : 2130706432 ≤ a ∧ a < 2147483648
  · have C := Lib.hid (lit_yes 2130706432 8 16777216 a (by decide +kernel) c1)
    have K := Lib.hid (show knd (a / 16777216) (a / 65536 % 256) = 2 by unfold knd; (repeat' split) <;> omega)
    go_wp2_with (go_at_call 23; refine (ctn_is 2130706432 8 a _ _ (by omega) (by omega) h0 h1 C.out).mono ?_; rintro e x1 ⟨rfl, hx1⟩; obtain ⟨hc, hf⟩ := Gr.cells hx1; have hk : x1.cell? ⟨x0.heap.size, 2, none⟩ = some (.int .i64 2) := (by rw [hc _ _ (by go_size)]; first | (simp; done) | go_cell | (simp [go_sem, *]; done)); clear hc hf)
    go_ret
    exact ⟨ret_int K.out.symm, (by repeat' (first | (with_reducible exact Gr.refl _) | (with_reducible assumption) | (with_reducible refine Gr.drewN ?_ _) | (with_reducible refine Gr.drew ?_) | (with_reducible refine Gr.alloc ?_ _) | (with_reducible refine Gr.setCell ?_ ?_ _) | (with_reducible refine Gr.grow ?_ _ _) | (refine Gr.step ?_ (by with_reducible assumption)) | go_size))⟩
  have N1 := Lib.hid (lit_no 2130706432 8 16777216 a (by decide +kernel) c1)
  go_wp2_with (go_at_call 23; refine (ctn_is 2130706432 8 a _ _ (by omega) (by omega) h0 h1 N1.out).mono ?_; rintro e x1 ⟨rfl, hx1⟩)
  rw [rounds_succ]
  by_cases c2 : 167772160 ≤ a ∧ a < 184549376
  · have C := Lib.hid (lit_yes 167772160 8 16777216 a (by decide +kernel) c2)
    have K := Lib.hid (show knd (a / 16777216) (a / 65536 % 256) = 3 by unfold knd; (repeat' split) <;> omega)
    go_wp2_with (go_at_call 23; refine (ctn_is 167772160 8 a _ _ (by omega) (by omega) h0 h1 C.out).mono ?_; rintro e x2 ⟨rfl, hx2⟩; obtain ⟨hc, hf⟩ := Gr.cells hx2; have hk : x2.cell? ⟨x1.heap.size, 2, none⟩ = some (.int .i64 3) := (by rw [hc _ _ (by go_size)]; first | (simp; done) | go_cell | (simp [go_sem, *]; done)); clear hc hf)
    go_ret
    exact ⟨ret_int K.out.symm, (by repeat' (first | (with_reducible exact Gr.refl _) | (with_reducible assumption) | (with_reducible refine Gr.drewN ?_ _) | (with_reducible refine Gr.drew ?_) | (with_reducible refine Gr.alloc ?_ _) | (with_reducible refine Gr.setCell ?_ ?_ _) | (with_reducible refine Gr.grow ?_ _ _) | (refine Gr.step ?_ (by with_reducible assumption)) | go_size))⟩
  have N2 := Lib.hid (lit_no 167772160 8 16777216 a (by decide +kernel) c2)
  go_wp2_with (go_at_call 23; refine (ctn_is 167772160 8 a _ _ (by omega) (by omega) h0 h1 N2.out).mono ?_; rintro e x2 ⟨rfl, hx2⟩)
  rw [rounds_succ]
  by_cases c3 : 2886729728 ≤ a ∧ a < 2887778304
  · have C := Lib.hid (lit_yes 2886729728 12 1048576 a (by decide +kernel) c3)
    have K := Lib.hid (show knd (a / 16777216) (a / 65536 % 256) = 3 by unfold knd; (repeat' split) <;> omega)
    go_wp2_with (go_at_call 23; refine (ctn_is 2886729728 12 a _ _ (by omega) (by omega) h0 h1 C.out).mono ?_; rintro e x3 ⟨rfl, hx3⟩; obtain ⟨hc, hf⟩ := Gr.cells hx3; have hk : x3.cell? ⟨x2.heap.size, 2, none⟩ = some (.int .i64 3) := (by rw [hc _ _ (by go_size)]; first | (simp; done) | go_cell | (simp [go_sem, *]; done)); clear hc hf)
    go_ret
    exact ⟨ret_int K.out.symm, (by repeat' (first | (with_reducible exact Gr.refl _) | (with_reducible assumption) | (with_reducible refine Gr.drewN ?_ _) | (with_reducible refine Gr.drew ?_) | (with_reducible refine Gr.alloc ?_ _) | (with_reducible refine Gr.setCell ?_ ?_ _) | (with_reducible refine Gr.grow ?_ _ _) | (refine Gr.step ?_ (by with_reducible assumption)) | go_size))⟩
  have N3 := Lib.hid (lit_no 2886729728 12 1048576 a (by decide +kernel) c3)
  go_wp2_with (go_at_call 23; refine (ctn_is 2886729728 12 a _ _ (by omega) (by omega) h0 h1 N3.out).mono ?_; rintro e x3 ⟨rfl, hx3⟩)
  rw [rounds_succ]
  by_cases c4 : 3232235520 ≤ a ∧ a < 3232301056
  · have C := Lib.hid (lit_yes 3232235520 16 65536 a (by decide +kernel) c4)
    have K := Lib.hid (show knd (a / 16777216) (a / 65536 % 256) = 3 by unfold knd; (repeat' split) <;> omega)
    go_wp2_with (go_at_call 23; refine (ctn_is 3232235520 16 a _ _ (by omega) (by omega) h0 h1 C.out).mono ?_; rintro e x4 ⟨rfl, hx4⟩; obtain ⟨hc, hf⟩ := Gr.cells hx4; have hk : x4.cell? ⟨x3.heap.size, 2, none⟩ = some (.int .i64 3) := (by rw [hc _ _ (by go_size)]; first | (simp; done) | go_cell | (simp [go_sem, *]; done)); clear hc hf)
    go_ret
    exact ⟨ret_int K.out.symm, (by repeat' (first | (with_reducible exact Gr.refl _) | (with_reducible assumption) | (with_reducible refine Gr.drewN ?_ _) | (with_reducible refine Gr.drew ?_) | (with_reducible refine Gr.alloc ?_ _) | (with_reducible refine Gr.setCell ?_ ?_ _) | (with_reducible refine Gr.grow ?_ _ _) | (refine Gr.step ?_ (by with_reducible assumption)) | go_size))⟩
  have N4 := Lib.hid (lit_no 3232235520 16 65536 a (by decide +kernel) c4)
  go_wp2_with (go_at_call 23; refine (ctn_is 3232235520 16 a _ _ (by omega) (by omega) h0 h1 N4.out).mono ?_; rintro e x4 ⟨rfl, hx4⟩)
  rw [rounds_succ]
  by_cases c5 : 2851995648 ≤ a ∧ a < 2852061184
  · have C := Lib.hid (lit_yes 2851995648 16 65536 a (by decide +kernel) c5)
    have K := Lib.hid (show knd (a / 16777216) (a / 65536 % 256) = 4 by unfold knd; (repeat' split) <;> omega)
    go_wp2_with (go_at_call 23; refine (ctn_is 2851995648 16 a _ _ (by omega) (by omega) h0 h1 C.out).mono ?_; rintro e x5 ⟨rfl, hx5⟩; obtain ⟨hc, hf⟩ := Gr.cells hx5; have hk : x5.cell? ⟨x4.heap.size, 2, none⟩ = some (.int .i64 4) := (by rw [hc _ _ (by go_size)]; first | (simp; done) | go_cell | (simp [go_sem, *]; done)); clear hc hf)
    go_ret
    exact ⟨ret_int K.out.symm, (by repeat' (first | (with_reducible exact Gr.refl _) | (with_reducible assumption) | (with_reducible refine Gr.drewN ?_ _) | (with_reducible refine Gr.drew ?_) | (with_reducible refine Gr.alloc ?_ _) | (with_reducible refine Gr.setCell ?_ ?_ _) | (with_reducible refine Gr.grow ?_ _ _) | (refine Gr.step ?_ (by with_reducible assumption)) | go_size))⟩
  have N5 := Lib.hid (lit_no 2851995648 16 65536 a (by decide +kernel) c5)
  go_wp2_with (go_at_call 23; refine (ctn_is 2851995648 16 a _ _ (by omega) (by omega) h0 h1 N5.out).mono ?_; rintro e x5 ⟨rfl, hx5⟩)
  rw [rounds_succ]
  by_cases c6 : 3758096384 ≤ a ∧ a < 4026531840
  · have C := Lib.hid (lit_yes 3758096384 4 268435456 a (by decide +kernel) c6)
    have K := Lib.hid (show knd (a / 16777216) (a / 65536 % 256) = 5 by unfold knd; (repeat' split) <;> omega)
    go_wp2_with (go_at_call 23; refine (ctn_is 3758096384 4 a _ _ (by omega) (by omega) h0 h1 C.out).mono ?_; rintro e x6 ⟨rfl, hx6⟩; obtain ⟨hc, hf⟩ := Gr.cells hx6; have hk : x6.cell? ⟨x5.heap.size, 2, none⟩ = some (.int .i64 5) := (by rw [hc _ _ (by go_size)]; first | (simp; done) | go_cell | (simp [go_sem, *]; done)); clear hc hf)
    go_ret
    exact ⟨ret_int K.out.symm, (by repeat' (first | (with_reducible exact Gr.refl _) | (with_reducible assumption) | (with_reducible refine Gr.drewN ?_ _) | (with_reducible refine Gr.drew ?_) | (with_reducible refine Gr.alloc ?_ _) | (with_reducible refine Gr.setCell ?_ ?_ _) | (with_reducible refine Gr.grow ?_ _ _) | (refine Gr.step ?_ (by with_reducible assumption)) | go_size))⟩
  have N6 := Lib.hid (lit_no 3758096384 4 268435456 a (by decide +kernel) c6)
  go_wp2_with (go_at_call 23; refine (ctn_is 3758096384 4 a _ _ (by omega) (by omega) h0 h1 N6.out).mono ?_; rintro e x6 ⟨rfl, hx6⟩)
  rw [rounds_succ]
  by_cases c7 : 4026531840 ≤ a ∧ a < 4294967296
  · have C := Lib.hid (lit_yes 4026531840 4 268435456 a (by decide +kernel) c7)
    have K := Lib.hid (show knd (a / 16777216) (a / 65536 % 256) = 6 by unfold knd; (repeat' split) <;> omega)
    go_wp2_with (go_at_call 23; refine (ctn_is 4026531840 4 a _ _ (by omega) (by omega) h0 h1 C.out).mono ?_; rintro e x7 ⟨rfl, hx7⟩; obtain ⟨hc, hf⟩ := Gr.cells hx7; have hk : x7.cell? ⟨x6.heap.size, 2, none⟩ = some (.int .i64 6) := (by rw [hc _ _ (by go_size)]; first | (simp; done) | go_cell | (simp [go_sem, *]; done)); clear hc hf)
    go_ret
    exact ⟨ret_int K.out.symm, (by repeat' (first | (with_reducible exact Gr.refl _) | (with_reducible assumption) | (with_reducible refine Gr.drewN ?_ _) | (with_reducible refine Gr.drew ?_) | (with_reducible refine Gr.alloc ?_ _) | (with_reducible refine Gr.setCell ?_ ?_ _) | (with_reducible refine Gr.grow ?_ _ _) | (refine Gr.step ?_ (by with_reducible assumption)) | go_size))⟩
  have N7 := Lib.hid (lit_no 4026531840 4 268435456 a (by decide +kernel) c7)
  go_wp2_with (go_at_call 23; refine (ctn_is 4026531840 4 a _ _ (by omega) (by omega) h0 h1 N7.out).mono ?_; rintro e x7 ⟨rfl, hx7⟩)
  rw [rounds_succ]
  have K := Lib.hid (show knd (a / 16777216) (a / 65536 % 256) = 0 by unfold knd; (repeat' split) <;> omega)
  go_wp2
  go_ret
  exact ⟨ret_int K.out.symm, (by repeat' (first | (with_reducible exact Gr.refl _) | (with_reducible assumption) | (with_reducible refine Gr.drewN ?_ _) | (with_reducible refine Gr.drew ?_) | (with_reducible refine Gr.alloc ?_ _) | (with_reducible refine Gr.setCell ?_ ?_ _) | (with_reducible refine Gr.grow ?_ _ _) | (refine Gr.step ?_ (by with_reducible assumption)) | go_size))⟩
theorem i64_and255 (n : Int) : bits .and .i64 n 255 = n % 256 := by
  have h255 : (BitVec.ofInt 64 255).toNat = 2 ^ 8 - 1 := by decide
  have key : (BitVec.ofInt 64 n &&& BitVec.ofInt 64 255).toNat = (n % ((2 ^ 64 : Nat) : Int)).toNat % 2 ^ 8 := by
    rw [BitVec.toNat_and, BitVec.toNat_ofInt, h255, Nat.and_two_pow_sub_one_eq_mod]
  show IntKind.i64.wrap ((BitVec.ofInt 64 n &&& BitVec.ofInt 64 255).toNat : Nat) = n % 256
  rw [key, IntKind.wrap_i64]
  omega
/-- changing the lowest bits -/
theorem xor_low (x k m : Nat) (hm : m < 2 ^ k) : (x ^^^ m) / 2 ^ k = x / 2 ^ k ∧ (x ^^^ m) % 2 ^ k = (x % 2 ^ k) ^^^ m := by
  constructor
  · rw [← Nat.shiftRight_eq_div_pow, Nat.shiftRight_xor_distrib, Nat.shiftRight_eq_div_pow, Nat.shiftRight_eq_div_pow, Nat.div_eq_of_lt hm, Nat.xor_zero]
  · rw [Nat.xor_mod_two_pow, Nat.mod_eq_of_lt hm]
theorem xor_u32 (a m : Int) (k : Nat) (h0 : 0 ≤ a) (h1 : a < 4294967296) (m0 : 0 ≤ m) (m1 : m.toNat < 2 ^ k) (hk : k ≤ 32) :
    0 ≤ bits .xor .u32 a m ∧ bits .xor .u32 a m < 4294967296 ∧ bits .xor .u32 a m / ((2 ^ k : Nat) : Int) = a / ((2 ^ k : Nat) : Int) ∧ bits .xor .u32 a m % ((2 ^ k : Nat) : Int) = ((a.toNat % 2 ^ k ^^^ m.toNat : Nat) : Int) ∧ bits .xor .u32 (bits .xor .u32 a m) m = a := by
  have hp := Nat.pow_le_pow_right (show 0 < 2 by omega) hk
  have hm : m < 4294967296 := by omega
  have e := u32_xor a m h0 h1 m0 hm
  have hx : a.toNat ^^^ m.toNat < 2 ^ 32 := Nat.xor_lt_two_pow (by omega) (by omega)
  have ⟨x1, x2⟩ := xor_low a.toNat k m.toNat m1
  have r0 : 0 ≤ bits .xor .u32 a m := by rw [e]; omega
  have r1 : bits .xor .u32 a m < 4294967296 := by rw [e]; omega
  have ea : a = ((a.toNat : Nat) : Int) := (Int.toNat_of_nonneg h0).symm
  refine ⟨r0, r1, ?_, ?_, ?_⟩
  · rw [e, ← Int.natCast_ediv, x1, Int.natCast_ediv, ← ea]
  · rw [e, ← Int.natCast_emod, x2]
  · rw [u32_xor _ m r0 r1 m0 hm, e]
    simp only [Int.toNat_natCast]
    rw [Nat.xor_assoc, Nat.xor_self, Nat.xor_zero, ← ea]
/-- the mate of a mate is the address itself, and both share 30 bits -/
theorem mate_back (a n : Int) (h0 : 0 ≤ a) (h1 : a < 4294967296) (h : mtE a n = 0) : 0 ≤ mtV a n ∧ mtV a n < 4294967296 ∧ mtE (mtV a n) n = 0 ∧ mtV (mtV a n) n = a ∧ 30 ≤ cmn a (mtV a n) := by
  have s30 : sz 30 = 4 := by decide +kernel
  by_cases n31 : n = 31
  · have ev : ∀ x, mtV x n = bits .xor .u32 x 1 := fun x => by simp [mtV, n31]
    have ⟨r0, r1, q, _, b⟩ := xor_u32 a 1 1 h0 h1 (by omega) (by decide) (by omega)
    rw [ev, ev]
    refine ⟨r0, r1, by simp [mtE, n31], b, ?_⟩
    rw [cmn_le a _ 30 h0 h1 r0 r1 (by omega) (by omega), s30]
    simp only [Nat.pow_one] at q
    omega
  · by_cases n30 : n = 30
    · have hm : ¬ (a % 4 = 0 ∨ a % 4 = 3) := by
        intro hc; simp [mtE, n30, hc] at h
      have ⟨r0, r1, q, m, b⟩ := xor_u32 a 3 2 h0 h1 (by omega) (by decide) (by omega)
      have e4 : ((2 ^ 2 : Nat) : Int) = 4 := rfl
      rw [e4] at q m
      have hcase : a.toNat % 2 ^ 2 = 1 ∨ a.toNat % 2 ^ 2 = 2 := by omega
      have hm2 : ¬ (bits .xor .u32 a 3 % 4 = 0 ∨ bits .xor .u32 a 3 % 4 = 3) := by
        rcases hcase with hc | hc <;> rw [hc] at m <;> rw [m] <;> decide
      have e1 : mtV a n = bits .xor .u32 a 3 := by simp [mtV, n30, hm]
      rw [e1]
      refine ⟨r0, r1, by simp [mtE, n30, hm2], ?_, ?_⟩
      · simp only [mtV, n30]; simp [hm2, b]
      · rw [cmn_le a _ 30 h0 h1 r0 r1 (by omega) (by omega), s30]; exact q.symm
    · simp [mtE, n31, n30] at h
theorem rspecial_any (a : Int) (w : World) (h0 : 0 ≤ a) (h1 : a < 4294967296) :
    Calls Tryd.prog 43 #[.int .u32 a] w fun e w' => e = .returned (.int .i64 (knd (a / 16777216) (a / 65536 % 256))) ∧ Gr w w' := by
  have e1 := i64_and255 (a / 65536)
  go_enter Tryd.func43, Tryd.ntmps43
  go_wp2
  all_goals (go_ret; refine ⟨ret_int ?_, Gr.refl _⟩; simp only [beq_iff_eq, beq_eq_false_iff_ne, ne_eq] at *; unfold knd; (repeat' split) <;> omega)
end Go.Proofs.YtamemancjodefaaDoor
