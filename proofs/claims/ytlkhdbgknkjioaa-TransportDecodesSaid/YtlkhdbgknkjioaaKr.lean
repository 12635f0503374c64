/- The document's small functions of transport; its Pseudo. -/
import Derived.Test.YtlkhdbgknkjioaaKe
import Derived.Test.YtlkhdbgknkjioaaKn
import Derived.Test.YtlkhdbgknkjioaaKu
import Derived.Test.YtlkhdbgknkjioaaJp
import Derived.Test.YtlkhdbgknkjioaaTa
import Derived.WalkKit
import Derived.WalkSpells
import Derived.WalkLawsBesides
import Derived.WalkSmall
import Derived.Handy
import Derived.BigQuiet
import Derived.Deep.QuietTactic
import Derived.Deep.RegionHeld3
import Derived.Deep.DeepFit
import Derived.Below
import Derived.Lib.Hide
import Derived.Lib.QuietBelow
namespace Go.Proofs.Ytlkhdbgknkjioaa
open Go Go.RowKit Go.Sort
set_option maxRecDepth 100000
set_option linter.unusedVariables false
theorem r6word_any (n : Int) (w : World) (c : Bool) (hc : c = decide (0 ≤ n ∧ n ≤ 65535)) :
    Calls Try.prog 80 #[.int .i64 n] w fun e w' => e = .returned (.bool c) ∧ w = w' := by
  have HC := Lib.hid hc
  clear hc
  by_cases h0 : 0 ≤ n
  · have d1 : decide (0 ≤ n) = true := by simpa using h0
    by_cases h1 : n ≤ 65535
    · have d2 : decide (n ≤ 65535) = true := by simpa using h1
      have H := Lib.hid (show c = true from HC.out.trans (decide_eq_true ⟨h0, h1⟩))
      go_enter Try.func80, Try.ntmps80
      go_wp2
      go_ret
      first | exact ⟨ret_bool H.out.symm, rfl⟩ | (rw [H.out]; exact ⟨rfl, rfl⟩)
    · have d2 : decide (n ≤ 65535) = false := by simpa using h1
      have H := Lib.hid (show c = false from HC.out.trans (decide_eq_false fun h => h1 h.2))
      go_enter Try.func80, Try.ntmps80
      go_wp2
      go_ret
      first | exact ⟨ret_bool H.out.symm, rfl⟩ | (rw [H.out]; exact ⟨rfl, rfl⟩)
  · have d1 : decide (0 ≤ n) = false := by simpa using h0
    have H := Lib.hid (show c = false from HC.out.trans (decide_eq_false fun h => h0 h.1))
    go_enter Try.func80, Try.ntmps80
    go_wp2
    go_ret
    first | exact ⟨ret_bool H.out.symm, rfl⟩ | (rw [H.out]; exact ⟨rfl, rfl⟩)
theorem r6octet_any (n : Int) (w : World) (c : Bool) (hc : c = decide (0 ≤ n ∧ n ≤ 255)) :
    Calls Try.prog 84 #[.int .i64 n] w fun e w' => e = .returned (.bool c) ∧ w = w' := by
  have HC := Lib.hid hc
  clear hc
  by_cases h0 : 0 ≤ n
  · have d1 : decide (0 ≤ n) = true := by simpa using h0
    by_cases h1 : n ≤ 255
    · have d2 : decide (n ≤ 255) = true := by simpa using h1
      have H := Lib.hid (show c = true from HC.out.trans (decide_eq_true ⟨h0, h1⟩))
      go_enter Try.func84, Try.ntmps84
      go_wp2
      go_ret
      first | exact ⟨ret_bool H.out.symm, rfl⟩ | (rw [H.out]; exact ⟨rfl, rfl⟩)
    · have d2 : decide (n ≤ 255) = false := by simpa using h1
      have H := Lib.hid (show c = false from HC.out.trans (decide_eq_false fun h => h1 h.2))
      go_enter Try.func84, Try.ntmps84
      go_wp2
      go_ret
      first | exact ⟨ret_bool H.out.symm, rfl⟩ | (rw [H.out]; exact ⟨rfl, rfl⟩)
  · have d1 : decide (0 ≤ n) = false := by simpa using h0
    have H := Lib.hid (show c = false from HC.out.trans (decide_eq_false fun h => h0 h.1))
    go_enter Try.func84, Try.ntmps84
    go_wp2
    go_ret
    first | exact ⟨ret_bool H.out.symm, rfl⟩ | (rw [H.out]; exact ⟨rfl, rfl⟩)
theorem r6long_any (n : Int) (w : World) (c : Bool) (hc : c = decide (0 ≤ n ∧ n < 4294967296)) :
    Calls Try.prog 86 #[.int .i64 n] w fun e w' => e = .returned (.bool c) ∧ w = w' := by
  have HC := Lib.hid hc
  clear hc
  by_cases h0 : 0 ≤ n
  · have d1 : decide (0 ≤ n) = true := by simpa using h0
    by_cases h1 : n < 4294967296
    · have d2 : decide (n < 4294967296) = true := by simpa using h1
      have H := Lib.hid (show c = true from HC.out.trans (decide_eq_true ⟨h0, h1⟩))
      go_enter Try.func86, Try.ntmps86
      go_wp2
      go_ret
      first | exact ⟨ret_bool H.out.symm, rfl⟩ | (rw [H.out]; exact ⟨rfl, rfl⟩)
    · have d2 : decide (n < 4294967296) = false := by simpa using h1
      have H := Lib.hid (show c = false from HC.out.trans (decide_eq_false fun h => h1 h.2))
      go_enter Try.func86, Try.ntmps86
      go_wp2
      go_ret
      first | exact ⟨ret_bool H.out.symm, rfl⟩ | (rw [H.out]; exact ⟨rfl, rfl⟩)
  · have d1 : decide (0 ≤ n) = false := by simpa using h0
    have H := Lib.hid (show c = false from HC.out.trans (decide_eq_false fun h => h0 h.1))
    go_enter Try.func86, Try.ntmps86
    go_wp2
    go_ret
    first | exact ⟨ret_bool H.out.symm, rfl⟩ | (rw [H.out]; exact ⟨rfl, rfl⟩)
theorem rwchk_nat {p : Nat → Prop} {v : Value} {l : List Nat} (w : World) (h : Rb p w v l) (hl : l.length ≤ 100000) :
    Calls Try.prog 83 #[v] w fun e w' => e = .returned (.int .i64 (s0 l : Nat)) ∧ w = w' := by
  refine (rwchk_any w h hl).mono ?_
  rintro e w' ⟨rfl, rfl⟩
  refine ⟨ret_int ?_, rfl⟩
  have := oc_le (wsum false l)
  unfold s0; omega
theorem CL.grown {w w' : World} {g : Nat} {vs : List Value} {row : Option Nat} (h : CL w g vs) (k : w.grownBy w' row) (hr : row ≠ some g) : CL w' g vs :=
  ⟨Nat.lt_of_lt_of_le h.lt k.size, fun i v hi => ⟨(World.cell?_of_block (w := w) (k.block g h.lt (fun e => hr e.symm))).trans (h.at' i v hi).1, (World.frozen?_of_block (w := w) (k.block g h.lt (fun e => hr e.symm))).trans (h.at' i v hi).2⟩⟩
set_option maxHeartbeats 1000000 in
theorem r6put_any {p : Nat → Prop} {v : Value} {l : List Nat} (i s : Nat) (w : World) (h : Rb p w v l) (hl : l.length ≤ 50000) (hi : i + 2 ≤ l.length) (hs : s ≤ 65535) :
    Calls Try.prog 82 #[v, .int .i64 i, .int .i64 s] w fun e w' => ∃ v', e = .returned v' ∧ OwB w.heap.size w' v' ((l.set i (s / 256 % 256)).set (i + 1) (s % 256)) ∧ Gr w w' := by
  have HR := Lib.hid h
  obtain ⟨a, cap, rfl, -, -⟩ := h.form
  obtain ⟨L, hL⟩ : ∃ L, L = l.length := ⟨_, rfl⟩
  have HL := Lib.hid hL
  rw [← hL] at HR hl hi ⊢
  clear h hL
  obtain ⟨J, hJ⟩ : ∃ J, J = i + 1 := ⟨_, rfl⟩
  have HJ := Lib.hid hJ
  have e1 : (i : Int) + 1 = (J : Int) := by omega
  have hJ2 : J < L := by omega
  have hJ3 : i < L := by omega
  rw [← hJ]
  clear hJ hi
  have e2 : (s : Int) / 256 = ((s / 256 : Nat) : Int) := by omega
  have e3 : ((s / 256 : Nat) : Int) % 256 = ((s / 256 % 256 : Nat) : Int) := by omega
  have e4 : (s : Int) % 256 = ((s % 256 : Nat) : Int) := by omega
  have e5 := wrap_byte (s / 256)
  have e6 := wrap_byte s
  have hb1 : s / 256 % 256 < 256 := Nat.mod_lt _ (by omega)
  have hb2 : s % 256 < 256 := Nat.mod_lt _ (by omega)
  generalize s / 256 % 256 = B1 at *
  generalize s % 256 = B2 at *
  generalize s / 256 = Q at *
  go_enter Try.func82, Try.ntmps82
  go_upto_region 2 with (at_builtin; refine wpList_app (base := w.heap.size) rfl (.const (.slice none 0 0)) (.tmp 8) rfl rfl (OwB.nil _ _) rfl HR.out (by rw [← HL.out]; simp; omega) (Nat.le_refl _) ?_; intro v1 w1 ho1 g1; rw [List.nil_append] at ho1; have hG : Gr w w1 := Gr.grownNew (Gr.refl _) g1 (fun _ h => by cases h))
  obtain ⟨g, c1, rfl, hgb, hglt, hgc⟩ := ho1.form (by rw [← HL.out]; omega)
  rw [← HL.out] at ho1 hgc ⊢
  obtain ⟨x1, f1⟩ := ho1.cell HL.out.symm hJ3
  obtain ⟨x2, f2⟩ := ho1.cell HL.out.symm hJ2
  have o2 := ho1.set HL.out.symm i B1 hb1
  have o3 := o2.set (by rw [List.length_set]; exact HL.out.symm) J B2 hb2
  have hG2 := (hG.setCell (p := ⟨g, i, none⟩) hgb (.int .u8 (B1 : Int))).setCell (p := ⟨g, J, none⟩) hgb (.int .u8 (B2 : Int))
  go_wp2_with fail
  go_ret
  exact ⟨_, rfl, o3, hG2⟩
theorem bput_two {x : Nat} (h : x < 256) : bput 0 1 ++ bput x 1 = bput x 2 := by
  simp only [bput, Nat.pow_one, Nat.pow_zero, Nat.div_one, List.cons_append, List.nil_append]
  rw [Nat.div_eq_of_lt h]
set_option maxHeartbeats 1000000 in
theorem r6pseudo_any {p : Nat → Prop} {v : Value} {l : List Nat} (src dst : Nat) (proto : Int) (w : World) (h : Rb p w v l) (hl : l.length ≤ 30000) (hs : src < 4294967296) (hd : dst < 4294967296) :
    Calls Try.prog 85 #[.int .u32 src, .int .u32 dst, .int .i64 proto, v] w fun e w' => e = .returned (.int .i64 (pcE src dst proto l : Nat)) ∧ Gr w w' := by
  have HR := Lib.hid h
  obtain ⟨av, cv, rfl, -, -⟩ := h.form
  by_cases hp : 0 ≤ proto ∧ proto < 256
  · have H := Lib.hid (show pcE src dst proto l = sP src dst proto.toNat l from if_pos hp)
    obtain ⟨P, rfl⟩ := Int.eq_ofNat_of_zero_le hp.1
    have hP : P < 256 := by omega
    rw [Int.toNat_natCast] at H
    obtain ⟨N, hN⟩ : ∃ N, N = l.length := ⟨_, rfl⟩
    have HN := Lib.hid hN
    have hN2 : N ≤ 30000 := by omega
    have HL := Lib.hid hl
    rw [← hN] at HR ⊢
    clear h hl hN hp
    have eW1 : IntKind.i64.wrap (src : Int) = (src : Int) := by rw [IntWalk.i64_in _ (by omega)]
    have eW2 : IntKind.i64.wrap (dst : Int) = (dst : Int) := by rw [IntWalk.i64_in _ (by omega)]
    have d1 : decide ((65535 : Int) < (N : Int)) = false := by rw [decide_eq_false_iff_not]; omega
    go_enter Try.func85, Try.ntmps85
    go_wp2_with fail
    refine (r6octet_any (P : Int) _ true (by symm; rw [decide_eq_true_eq]; omega)).mono ?_
    rintro e w1 ⟨rfl, rfl⟩
    go_wp2_with fail
    refine (rpush_any src 4 _ (Rb.nil (fun _ => True) _) (by simp) (by omega) (by omega) (by show src < 4294967296; omega)).mono ?_
    rintro e w3 ⟨v3, rfl, ho3, hg3⟩
    obtain ⟨l3, hl3⟩ : ∃ m, m = [] ++ bput src 4 := ⟨_, rfl⟩
    rw [← hl3] at ho3
    have HL3 := Lib.hid (show l3.length = 4 by rw [hl3]; simp [bput_len])
    have HE3 := Lib.hid hl3
    have HO3 := Lib.hid ho3.rb.any
    obtain ⟨a3, c3, rfl, -, -⟩ := ho3.rb.form
    rw [HL3.out] at HO3 ⊢
    clear hl3 ho3
    go_wp2_with fail
    refine (rpush_any dst 4 _ HO3.out (by rw [HL3.out]; omega) (by omega) (by omega) (by show dst < 4294967296; omega)).mono ?_
    rintro e w4 ⟨v4, rfl, ho4, hg4⟩
    replace hg4 := hg3.step hg4
    obtain ⟨l4, hl4⟩ : ∃ m, m = l3 ++ bput dst 4 := ⟨_, rfl⟩
    rw [← hl4] at ho4
    have HL4 := Lib.hid (show l4.length = 8 by rw [hl4]; simp [bput_len, HL3.out])
    have HE4 := Lib.hid hl4
    have HO4 := Lib.hid ho4.rb.any
    obtain ⟨a4, c4, rfl, -, -⟩ := ho4.rb.form
    rw [HL4.out] at HO4 ⊢
    clear hl4 ho4
    clear hg3
    go_wp2_with fail
    refine (rpush_any P 2 _ HO4.out (by rw [HL4.out]; omega) (by omega) (by omega) (by show P < 65536; omega)).mono ?_
    rintro e w5 ⟨v5, rfl, ho5, hg5⟩
    replace hg5 := hg4.step hg5
    obtain ⟨l5, hl5⟩ : ∃ m, m = l4 ++ bput P 2 := ⟨_, rfl⟩
    rw [← hl5] at ho5
    have HL5 := Lib.hid (show l5.length = 10 by rw [hl5]; simp [bput_len, HL4.out])
    have HE5 := Lib.hid hl5
    have HO5 := Lib.hid ho5.rb.any
    obtain ⟨a5, c5, rfl, -, -⟩ := ho5.rb.form
    rw [HL5.out] at HO5 ⊢
    clear hl5 ho5
    clear hg4
    have hsz := Gr.size hg5
    go_wp2_with fail
    refine (rpush_any N 2 _ HO5.out (by rw [HL5.out]; omega) (by omega) (by omega) (by show N < 65536; omega)).mono ?_
    rintro e w6 ⟨v6, rfl, ho6, hg6⟩
    replace hg6 := hg5.step hg6
    have HW := Lib.hid (ho6.base hsz)
    obtain ⟨M, hM⟩ : ∃ M, M = 12 + N := ⟨_, rfl⟩
    have hM2 : M ≤ 30012 := by omega
    have HMM := Lib.hid hM
    clear hM hg5
    have HE6 : Hid (l5 ++ bput N 2 = psd src dst P N) := Lib.hid (by rw [HE5.out, HE4.out, HE3.out, ← bput_two hP]; rfl)
    rw [HE6.out] at HW
    have HPL := Lib.hid (psd_len src dst P N)
    have hz6 := Gr.size hg6
    obtain ⟨a6, c6, rfl, -, -⟩ := ho6.rb.form
    rw [HE6.out, HPL.out] at HW ⊢
    clear ho6
    go_wp2_with (at_builtin; refine wpList_app (base := w.heap.size) rfl (.tmp 32) (.tmp 33) rfl rfl HW.out rfl (HR.out.gr hg6) (by rw [HPL.out, ← HN.out]; omega) hz6 ?_; intro v7 w7 ho7 g7; have hG7 : Gr w w7 := hg6.grownNew g7 HW.out.above; have HCK := Lib.hid (rwchk_nat w7 ho7.rb (by rw [List.length_append, HPL.out, ← HN.out]; omega)); clear g7)
    refine HCK.out.mono ?_
    rintro e w8 ⟨rfl, rfl⟩
    go_wp2_with fail
    go_ret
    refine ⟨ret_int ?_, hG7⟩
    rw [H.out, HN.out]
    rfl
  · have H := Lib.hid (show pcE src dst proto l = 0 from if_neg hp)
    have HP := Lib.hid hp
    clear h hp
    go_enter Try.func85, Try.ntmps85
    go_wp2_with fail
    refine (r6octet_any proto _ false (by symm; rw [decide_eq_false_iff_not]; have := HP.out; omega)).mono ?_
    rintro e w1 ⟨rfl, rfl⟩
    go_wp2_with fail
    go_ret
    exact ⟨ret_int (by rw [H.out]; rfl), Gr.refl _⟩
end Go.Proofs.Ytlkhdbgknkjioaa
