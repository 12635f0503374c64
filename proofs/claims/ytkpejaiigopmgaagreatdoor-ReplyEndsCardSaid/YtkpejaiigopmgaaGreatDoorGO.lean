/- Several texts in one. -/
import Derived.Test.YtkpejaiigopmgaaGreatDoorKeM
import Derived.Test.YtkpejaiigopmgaaGreatDoorKnM
import Derived.Test.YtkpejaiigopmgaaGreatDoorKuM
import Derived.Test.YtkpejaiigopmgaaGreatDoorGL
import Derived.WalkKit
import Derived.WalkSpells
import Derived.WalkLawsBesides
import Derived.WalkSmall
import Derived.Handy
import Derived.BigQuiet
import Derived.Deep.QuietTactic
import Derived.Deep.RegionHeld3
import Derived.Deep.DeepFit
import Derived.Below
import Derived.Lib.Hide
import Derived.Lib.QuietBelow
import Derived.Deep.DeepCutAuto
/- The document's small functions of transport; its Pseudo. -/
namespace Go.Proofs.YtkpejaiigopmgaaGreatDoor
open Go Go.RowKit Go.Sort
set_option maxRecDepth 100000
set_option linter.unusedVariables false
theorem r6word_any (n : Int) (w : World) (c : Bool) (hc : c = decide (0 ≤ n ∧ n ≤ 65535)) :
    Calls Tryz.prog 76 #[.int .i64 n] w fun e w' => e = .returned (.bool c) ∧ w = w' := by
  have HC := Lib.hid hc
  clear hc
  by_cases h0 : 0 ≤ n
  · have d1 : decide (0 ≤ n) = true := by simpa using h0
    by_cases h1 : n ≤ 65535
    · have d2 : decide (n ≤ 65535) = true := by simpa using h1
      have H := Lib.hid (show c = true from HC.out.trans (decide_eq_true ⟨h0, h1⟩))
      go_enter Tryz.func76, Tryz.ntmps76
      go_wp2
      go_ret
      first | exact ⟨ret_bool H.out.symm, rfl⟩ | (rw [H.out]; exact ⟨rfl, rfl⟩)
    · have d2 : decide (n ≤ 65535) = false := by simpa using h1
      have H := Lib.hid (show c = false from HC.out.trans (decide_eq_false fun h => h1 h.2))
      go_enter Tryz.func76, Tryz.ntmps76
      go_wp2
      go_ret
      first | exact ⟨ret_bool H.out.symm, rfl⟩ | (rw [H.out]; exact ⟨rfl, rfl⟩)
  · have d1 : decide (0 ≤ n) = false := by simpa using h0
    have H := Lib.hid (show c = false from HC.out.trans (decide_eq_false fun h => h0 h.1))
    go_enter Tryz.func76, Tryz.ntmps76
    go_wp2
    go_ret
    first | exact ⟨ret_bool H.out.symm, rfl⟩ | (rw [H.out]; exact ⟨rfl, rfl⟩)
theorem r6octet_any (n : Int) (w : World) (c : Bool) (hc : c = decide (0 ≤ n ∧ n ≤ 255)) :
    Calls Tryz.prog 80 #[.int .i64 n] w fun e w' => e = .returned (.bool c) ∧ w = w' := by
  have HC := Lib.hid hc
  clear hc
  by_cases h0 : 0 ≤ n
  · have d1 : decide (0 ≤ n) = true := by simpa using h0
    by_cases h1 : n ≤ 255
    · have d2 : decide (n ≤ 255) = true := by simpa using h1
      have H := Lib.hid (show c = true from HC.out.trans (decide_eq_true ⟨h0, h1⟩))
      go_enter Tryz.func80, Tryz.ntmps80
      go_wp2
      go_ret
      first | exact ⟨ret_bool H.out.symm, rfl⟩ | (rw [H.out]; exact ⟨rfl, rfl⟩)
    · have d2 : decide (n ≤ 255) = false := by simpa using h1
      have H := Lib.hid (show c = false from HC.out.trans (decide_eq_false fun h => h1 h.2))
      go_enter Tryz.func80, Tryz.ntmps80
      go_wp2
      go_ret
      first | exact ⟨ret_bool H.out.symm, rfl⟩ | (rw [H.out]; exact ⟨rfl, rfl⟩)
  · have d1 : decide (0 ≤ n) = false := by simpa using h0
    have H := Lib.hid (show c = false from HC.out.trans (decide_eq_false fun h => h0 h.1))
    go_enter Tryz.func80, Tryz.ntmps80
    go_wp2
    go_ret
    first | exact ⟨ret_bool H.out.symm, rfl⟩ | (rw [H.out]; exact ⟨rfl, rfl⟩)
theorem r6long_any (n : Int) (w : World) (c : Bool) (hc : c = decide (0 ≤ n ∧ n < 4294967296)) :
    Calls Tryz.prog 79 #[.int .i64 n] w fun e w' => e = .returned (.bool c) ∧ w = w' := by
  have HC := Lib.hid hc
  clear hc
  by_cases h0 : 0 ≤ n
  · have d1 : decide (0 ≤ n) = true := by simpa using h0
    by_cases h1 : n < 4294967296
    · have d2 : decide (n < 4294967296) = true := by simpa using h1
      have H := Lib.hid (show c = true from HC.out.trans (decide_eq_true ⟨h0, h1⟩))
      go_enter Tryz.func79, Tryz.ntmps79
      go_wp2
      go_ret
      first | exact ⟨ret_bool H.out.symm, rfl⟩ | (rw [H.out]; exact ⟨rfl, rfl⟩)
    · have d2 : decide (n < 4294967296) = false := by simpa using h1
      have H := Lib.hid (show c = false from HC.out.trans (decide_eq_false fun h => h1 h.2))
      go_enter Tryz.func79, Tryz.ntmps79
      go_wp2
      go_ret
      first | exact ⟨ret_bool H.out.symm, rfl⟩ | (rw [H.out]; exact ⟨rfl, rfl⟩)
  · have d1 : decide (0 ≤ n) = false := by simpa using h0
    have H := Lib.hid (show c = false from HC.out.trans (decide_eq_false fun h => h0 h.1))
    go_enter Tryz.func79, Tryz.ntmps79
    go_wp2
    go_ret
    first | exact ⟨ret_bool H.out.symm, rfl⟩ | (rw [H.out]; exact ⟨rfl, rfl⟩)
theorem rwchk_nat {p : Nat → Prop} {v : Value} {l : List Nat} (w : World) (h : Rb p w v l) (hl : l.length ≤ 100000) :
    Calls Tryz.prog 78 #[v] w fun e w' => e = .returned (.int .i64 (s0 l : Nat)) ∧ w = w' := by
  refine (rwchk_any w h hl).mono ?_
  rintro e w' ⟨rfl, rfl⟩
  refine ⟨ret_int ?_, rfl⟩
  have := oc_le (wsum false l)
  unfold s0; omega
theorem CL.grown {w w' : World} {g : Nat} {vs : List Value} {row : Option Nat} (h : CL w g vs) (k : w.grownBy w' row) (hr : row ≠ some g) : CL w' g vs :=
  ⟨Nat.lt_of_lt_of_le h.lt k.size, fun i v hi => ⟨(World.cell?_of_block (w := w) (k.block g h.lt (fun e => hr e.symm))).trans (h.at' i v hi).1, (World.frozen?_of_block (w := w) (k.block g h.lt (fun e => hr e.symm))).trans (h.at' i v hi).2⟩⟩
set_option maxHeartbeats 1000000 in
theorem r6put_any {p : Nat → Prop} {v : Value} {l : List Nat} (i s : Nat) (w : World) (h : Rb p w v l) (hl : l.length ≤ 50000) (hi : i + 2 ≤ l.length) (hs : s ≤ 65535) :
    Calls Tryz.prog 77 #[v, .int .i64 i, .int .i64 s] w fun e w' => ∃ v', e = .returned v' ∧ OwB w.heap.size w' v' ((l.set i (s / 256 % 256)).set (i + 1) (s % 256)) ∧ Gr w w' := by
  have HR := Lib.hid h
  obtain ⟨a, cap, rfl, -, -⟩ := h.form
  obtain ⟨L, hL⟩ : ∃ L, L = l.length := ⟨_, rfl⟩
  have HL := Lib.hid hL
  rw [← hL] at HR hl hi ⊢
  clear h hL
  obtain ⟨J, hJ⟩ : ∃ J, J = i + 1 := ⟨_, rfl⟩
  have HJ := Lib.hid hJ
  have e1 : (i : Int) + 1 = (J : Int) := by omega
  have hJ2 : J < L := by omega
  have hJ3 : i < L := by omega
  rw [← hJ]
  clear hJ hi
  have e2 : (s : Int) / 256 = ((s / 256 : Nat) : Int) := by omega
  have e3 : ((s / 256 : Nat) : Int) % 256 = ((s / 256 % 256 : Nat) : Int) := by omega
  have e4 : (s : Int) % 256 = ((s % 256 : Nat) : Int) := by omega
  have e5 := wrap_byte (s / 256)
  have e6 := wrap_byte s
  have hb1 : s / 256 % 256 < 256 := Nat.mod_lt _ (by omega)
  have hb2 : s % 256 < 256 := Nat.mod_lt _ (by omega)
  generalize s / 256 % 256 = B1 at *
  generalize s % 256 = B2 at *
  generalize s / 256 = Q at *
  go_enter Tryz.func77, Tryz.ntmps77
  go_upto_region 2 with (at_builtin; refine wpList_app (base := w.heap.size) rfl (.const (.slice none 0 0)) (.tmp 8) rfl rfl (OwB.nil _ _) rfl HR.out (by rw [← HL.out]; simp; omega) (Nat.le_refl _) ?_; intro v1 w1 ho1 g1; rw [List.nil_append] at ho1; have hG : Gr w w1 := Gr.grownNew (Gr.refl _) g1 (fun _ h => by cases h))
  obtain ⟨g, c1, rfl, hgb, hglt, hgc⟩ := ho1.form (by rw [← HL.out]; omega)
  rw [← HL.out] at ho1 hgc ⊢
  obtain ⟨x1, f1⟩ := ho1.cell HL.out.symm hJ3
  obtain ⟨x2, f2⟩ := ho1.cell HL.out.symm hJ2
  have o2 := ho1.set HL.out.symm i B1 hb1
  have o3 := o2.set (by rw [List.length_set]; exact HL.out.symm) J B2 hb2
  have hG2 := (hG.setCell (p := ⟨g, i, none⟩) hgb (.int .u8 (B1 : Int))).setCell (p := ⟨g, J, none⟩) hgb (.int .u8 (B2 : Int))
  go_wp2_with fail
  go_ret
  exact ⟨_, rfl, o3, hG2⟩
theorem bput_two {x : Nat} (h : x < 256) : bput 0 1 ++ bput x 1 = bput x 2 := by
  simp only [bput, Nat.pow_one, Nat.pow_zero, Nat.div_one, List.cons_append, List.nil_append]
  rw [Nat.div_eq_of_lt h]
set_option maxHeartbeats 1000000 in
theorem r6pseudo_any {p : Nat → Prop} {v : Value} {l : List Nat} (src dst : Nat) (proto : Int) (w : World) (h : Rb p w v l) (hl : l.length ≤ 30000) (hs : src < 4294967296) (hd : dst < 4294967296) :
    Calls Tryz.prog 72 #[.int .u32 src, .int .u32 dst, .int .i64 proto, v] w fun e w' => e = .returned (.int .i64 (pcE src dst proto l : Nat)) ∧ Gr w w' := by
  have HR := Lib.hid h
  obtain ⟨av, cv, rfl, -, -⟩ := h.form
  by_cases hp : 0 ≤ proto ∧ proto < 256
  · have H := Lib.hid (show pcE src dst proto l = sP src dst proto.toNat l from if_pos hp)
    obtain ⟨P, rfl⟩ := Int.eq_ofNat_of_zero_le hp.1
    have hP : P < 256 := by omega
    rw [Int.toNat_natCast] at H
    obtain ⟨N, hN⟩ : ∃ N, N = l.length := ⟨_, rfl⟩
    have HN := Lib.hid hN
    have hN2 : N ≤ 30000 := by omega
    have HL := Lib.hid hl
    rw [← hN] at HR ⊢
    clear h hl hN hp
    have eW1 : IntKind.i64.wrap (src : Int) = (src : Int) := by rw [IntWalk.i64_in _ (by omega)]
    have eW2 : IntKind.i64.wrap (dst : Int) = (dst : Int) := by rw [IntWalk.i64_in _ (by omega)]
    have d1 : decide ((65535 : Int) < (N : Int)) = false := by rw [decide_eq_false_iff_not]; omega
    go_enter Tryz.func72, Tryz.ntmps72
    go_wp2_with fail
    refine (r6octet_any (P : Int) _ true (by symm; rw [decide_eq_true_eq]; omega)).mono ?_
    rintro e w1 ⟨rfl, rfl⟩
    go_wp2_with fail
    refine (rpush_any src 4 _ (Rb.nil (fun _ => True) _) (by simp) (by omega) (by omega) (by show src < 4294967296; omega)).mono ?_
    rintro e w3 ⟨v3, rfl, ho3, hg3⟩
    obtain ⟨l3, hl3⟩ : ∃ m, m = [] ++ bput src 4 := ⟨_, rfl⟩
    rw [← hl3] at ho3
    have HL3 := Lib.hid (show l3.length = 4 by rw [hl3]; simp [bput_len])
    have HE3 := Lib.hid hl3
    have HO3 := Lib.hid ho3.rb.any
    obtain ⟨a3, c3, rfl, -, -⟩ := ho3.rb.form
    rw [HL3.out] at HO3 ⊢
    clear hl3 ho3
    go_wp2_with fail
    refine (rpush_any dst 4 _ HO3.out (by rw [HL3.out]; omega) (by omega) (by omega) (by show dst < 4294967296; omega)).mono ?_
    rintro e w4 ⟨v4, rfl, ho4, hg4⟩
    replace hg4 := hg3.step hg4
    obtain ⟨l4, hl4⟩ : ∃ m, m = l3 ++ bput dst 4 := ⟨_, rfl⟩
    rw [← hl4] at ho4
    have HL4 := Lib.hid (show l4.length = 8 by rw [hl4]; simp [bput_len, HL3.out])
    have HE4 := Lib.hid hl4
    have HO4 := Lib.hid ho4.rb.any
    obtain ⟨a4, c4, rfl, -, -⟩ := ho4.rb.form
    rw [HL4.out] at HO4 ⊢
    clear hl4 ho4
    clear hg3
    go_wp2_with fail
    refine (rpush_any P 2 _ HO4.out (by rw [HL4.out]; omega) (by omega) (by omega) (by show P < 65536; omega)).mono ?_
    rintro e w5 ⟨v5, rfl, ho5, hg5⟩
    replace hg5 := hg4.step hg5
    obtain ⟨l5, hl5⟩ : ∃ m, m = l4 ++ bput P 2 := ⟨_, rfl⟩
    rw [← hl5] at ho5
    have HL5 := Lib.hid (show l5.length = 10 by rw [hl5]; simp [bput_len, HL4.out])
    have HE5 := Lib.hid hl5
    have HO5 := Lib.hid ho5.rb.any
    obtain ⟨a5, c5, rfl, -, -⟩ := ho5.rb.form
    rw [HL5.out] at HO5 ⊢
    clear hl5 ho5
    clear hg4
    have hsz := Gr.size hg5
    go_wp2_with fail
    refine (rpush_any N 2 _ HO5.out (by rw [HL5.out]; omega) (by omega) (by omega) (by show N < 65536; omega)).mono ?_
    rintro e w6 ⟨v6, rfl, ho6, hg6⟩
    replace hg6 := hg5.step hg6
    have HW := Lib.hid (ho6.base hsz)
    obtain ⟨M, hM⟩ : ∃ M, M = 12 + N := ⟨_, rfl⟩
    have hM2 : M ≤ 30012 := by omega
    have HMM := Lib.hid hM
    clear hM hg5
    have HE6 : Hid (l5 ++ bput N 2 = psd src dst P N) := Lib.hid (by rw [HE5.out, HE4.out, HE3.out, ← bput_two hP]; rfl)
    rw [HE6.out] at HW
    have HPL := Lib.hid (psd_len src dst P N)
    have hz6 := Gr.size hg6
    obtain ⟨a6, c6, rfl, -, -⟩ := ho6.rb.form
    rw [HE6.out, HPL.out] at HW ⊢
    clear ho6
    go_wp2_with (at_builtin; refine wpList_app (base := w.heap.size) rfl (.tmp 32) (.tmp 33) rfl rfl HW.out rfl (HR.out.gr hg6) (by rw [HPL.out, ← HN.out]; omega) hz6 ?_; intro v7 w7 ho7 g7; have hG7 : Gr w w7 := hg6.grownNew g7 HW.out.above; have HCK := Lib.hid (rwchk_nat w7 ho7.rb (by rw [List.length_append, HPL.out, ← HN.out]; omega)); clear g7)
    refine HCK.out.mono ?_
    rintro e w8 ⟨rfl, rfl⟩
    go_wp2_with fail
    go_ret
    refine ⟨ret_int ?_, hG7⟩
    rw [H.out, HN.out]
    rfl
  · have H := Lib.hid (show pcE src dst proto l = 0 from if_neg hp)
    have HP := Lib.hid hp
    clear h hp
    go_enter Tryz.func72, Tryz.ntmps72
    go_wp2_with fail
    refine (r6octet_any proto _ false (by symm; rw [decide_eq_false_iff_not]; have := HP.out; omega)).mono ?_
    rintro e w1 ⟨rfl, rfl⟩
    go_wp2_with fail
    go_ret
    exact ⟨ret_int (by rw [H.out]; rfl), Gr.refl _⟩
end Go.Proofs.YtkpejaiigopmgaaGreatDoor
/- The document's encoders of transport. -/
namespace Go.Proofs.YtkpejaiigopmgaaGreatDoor
open Go Go.RowKit Go.Sort
set_option maxRecDepth 100000
set_option linter.unusedVariables false
set_option linter.unusedSimpArgs false
theorem owb_lit (w : World) (l : List Nat) (hl : l.length ≤ 1000) (h : ∀ x ∈ l, x < 256) : OwB w.heap.size (w.alloc (.cells (cellsB l).toArray 5)) (.slice (some ⟨w.heap.size, 0, none⟩) l.length l.length) l := by
  have k := World.ownsRow_lit (base := w.heap.size) (e := 5) (size := 1) w (cellsB l).toArray l.length (Nat.le_refl _) (by unfold maxLen; omega) (by simp [cellsB])
  exact ⟨k, h⟩
theorem fin_set {S : List Nat → Nat} {l a z : List Nat} {i : Nat} (hl : l = a ++ bput 0 2 ++ z) (hi : a.length = i) : (l.set i (S l / 256 % 256)).set (i + 1) (S l % 256) = msg S a z := by
  subst hl; subst hi; exact msg_set S a z
theorem fin_setU {src dst : Nat} {l a z : List Nat} {i s : Nat} (hl : l = a ++ bput 0 2 ++ z) (hi : a.length = i) (hs : s = sU src dst l) : (l.set i (s / 256 % 256)).set (i + 1) (s % 256) = msg (sU src dst) a z := by
  rw [hs]; exact fin_set (S := sU src dst) hl hi
set_option maxHeartbeats 2000000 in
theorem recho_ok {p : Nat → Prop} {v : Value} {d : List Nat} (r : Bool) (a b : Nat) (w : World) (hr : Rb p w v d) (ha : a < 65536) (hb : b < 65536) (hl : d.length ≤ 1472) :
    Calls Tryz.prog 38 #[.agg #[.bool r, .int .i64 a, .int .i64 b, v]] w fun e w' => ∃ v', e = .returned (.tuple #[v', .int .i64 0]) ∧ OwB w.heap.size w' v' (echoL r a b d) ∧ Gr w w' := by
  cases r with
  | false =>
    have HR := Lib.hid hr
    obtain ⟨av, cv, rfl, -, -⟩ := hr.form
    obtain ⟨N, hN⟩ : ∃ N, N = d.length := ⟨_, rfl⟩
    have HN := Lib.hid hN
    have hN2 : N ≤ 1472 := by omega
    rw [← hN] at HR ⊢
    obtain ⟨NU, hU⟩ : ∃ U, U = N + 8 := ⟨_, rfl⟩
    have HU := Lib.hid hU
    have e8 : (N : Int) + 8 = (NU : Int) := by omega
    have hU2 : NU ≤ 1492 := by omega
    have d1 : decide ((1480 : Int) < (NU : Int)) = false := by rw [decide_eq_false_iff_not]; omega
    skip
    have hC := CL.new w [.bool false, .int .i64 a, .int .i64 b, .slice av N cv] 74 _ rfl
    have hG := Gr.alloc (Gr.refl w) (.cells #[.bool false, .int .i64 a, .int .i64 b, .slice av N cv] 74)
    clear hN hr hl hU
    go_enter Tryz.func38, Tryz.ntmps38
    go_upto_region 1 with fail
    have hle : w.heap.size ≤ w.heap.size := Nat.le_refl _
    generalize w.alloc (.cells #[.bool false, .int .i64 a, .int .i64 b, .slice av N cv] 74) = w1 at hC hG ⊢
    generalize hg0 : w.heap.size = g0 at hC ⊢
    replace hle : w.heap.size ≤ g0 := by omega
    obtain ⟨⟨x0, x1, x2, x3⟩, -⟩ := hC.four
    go_wp2_with fail
    refine (r6word_any (a : Int) _ true (by symm; rw [decide_eq_true_eq]; omega)).mono ?_
    rintro e w2 ⟨rfl, rfl⟩
    go_wp2_with fail
    refine (r6word_any (b : Int) _ true (by symm; rw [decide_eq_true_eq]; omega)).mono ?_
    rintro e w2 ⟨rfl, rfl⟩
    go_upto_region 9 with fail
    have HO1 : Hid (OwB w1.heap.size (w1.alloc (.cells #[.int .u8 8, .int .u8 0, .int .u8 0, .int .u8 0] 5)) (.slice (some ⟨w1.heap.size, 0, none⟩) 4 4) [8, 0, 0, 0]) := Lib.hid (owb_lit w1 [8, 0, 0, 0] (by simp) (by intro x hx; simp at hx; omega))
    have hg := Gr.alloc (Gr.refl w1) (.cells #[.int .u8 8, .int .u8 0, .int .u8 0, .int .u8 0] 5)
    replace HO1 := Lib.hid (HO1.out.rb)
    replace hG := hG.step hg
    replace hC := hC.gr hg
    clear hg x0 x1 x2 x3
    generalize w1.alloc (.cells #[.int .u8 8, .int .u8 0, .int .u8 0, .int .u8 0] 5) = w2 at hG hC HO1 ⊢
    generalize w1.heap.size = g1 at HO1 ⊢
    obtain ⟨⟨x0, x1, x2, x3⟩, -⟩ := hC.four
    go_wp2_with fail
    refine (rpush_any a 2 _ HO1.out (by simp) (by omega) (by omega) (by show a < 65536; omega)).mono ?_
    rintro e w3 ⟨v3, rfl, ho3, hg⟩
    have hsz := Gr.size hG
    replace ho3 := ho3.base (b := w.heap.size) (by first | exact hsz | exact Nat.le_trans hsz (by simp))
    replace hG := hG.step (hg)
    replace hC := hC.gr (hg)
    clear hsz
    have HW3 := Lib.hid ho3
    obtain ⟨l3, hl3⟩ : ∃ m, m = [8, 0, 0, 0] ++ bput a 2 := ⟨_, rfl⟩
    rw [← hl3] at ho3
    have HL3 := Lib.hid (show l3.length = 6 by rw [hl3]; simp [bput_len])
    have HE3 := Lib.hid hl3
    have HO3 := Lib.hid ho3.rb.any
    obtain ⟨a3, c3, rfl, -, -⟩ := ho3.rb.form
    rw [HL3.out] at HO3 ⊢
    clear hl3 ho3
    rw [← HE3.out, HL3.out] at HW3
    clear x0 x1 x2 x3 hg
    obtain ⟨⟨x0, x1, x2, x3⟩, -⟩ := hC.four
    go_wp2_with fail
    refine (rpush_any b 2 _ HO3.out (by rw [HL3.out]; omega) (by omega) (by omega) (by show b < 65536; omega)).mono ?_
    rintro e w4 ⟨v4, rfl, ho4, hg⟩
    have hsz := Gr.size hG
    have HW4 := Lib.hid (ho4.base (b := w.heap.size) hsz)
    replace hG := hG.step hg
    replace hC := hC.gr hg
    clear hsz x0 x1 x2 x3
    obtain ⟨l4, hl4⟩ : ∃ m, m = l3 ++ bput b 2 := ⟨_, rfl⟩
    rw [← hl4] at ho4
    have HL4 := Lib.hid (show l4.length = 8 by rw [hl4]; simp [bput_len, HL3.out])
    have HE4 := Lib.hid hl4
    have HO4 := Lib.hid ho4.rb.any
    obtain ⟨a4, c4, rfl, -, -⟩ := ho4.rb.form
    rw [HL4.out] at HO4 ⊢
    clear hl4 ho4
    rw [← HE4.out, HL4.out] at HW4
    obtain ⟨⟨x0, x1, x2, x3⟩, -⟩ := hC.four
    have hsz := Gr.size hG
    go_wp2_with (at_builtin; refine wpList_app (base := w.heap.size) rfl (.tmp 34) (.tmp 36) rfl rfl HW4.out rfl (HR.out.gr hG) (by rw [HL4.out, ← HN.out]; omega) hsz ?_; intro va wa hoa ga; have hGa : Gr w wa := hG.grownNew ga HW4.out.above; clear ga; obtain ⟨la, hla⟩ : ∃ m, m = l4 ++ d := ⟨_, rfl⟩; rw [← hla] at hoa; have HLA := Lib.hid hla; have hlen : la.length = NU := (by rw [hla, List.length_append, HL4.out, ← HN.out, HU.out]; omega); have HLN := Lib.hid hlen; have HOA := Lib.hid hoa.rb; obtain ⟨aa, ca, rfl, -, -⟩ := hoa.rb.form; rw [HLN.out] at HOA ⊢; clear hoa hla hlen)
    refine (rwchk_nat wa HOA.out (by rw [HLN.out]; omega)).mono ?_
    rintro e wb ⟨rfl, rfl⟩
    have hsl := s0_le la
    have HS := Lib.hid (r6put_any 2 (s0 la) wa HOA.out (by rw [HLN.out]; omega) (by rw [HLN.out, HU.out]; omega) hsl)
    have HF : Hid ((la.set 2 (s0 la / 256 % 256)).set (2 + 1) (s0 la % 256) = echoL false a b d) := Lib.hid (fin_set (by rw [HLA.out, HE4.out, HE3.out, show [8, 0, 0, 0] = echoA false ++ bput 0 2 from rfl]; simp only [echoZ, List.append_assoc]) rfl)
    rw [HF.out] at HS
    generalize s0 la = s at *
    go_wp2_with fail
    refine HS.out.mono ?_
    rintro e wc ⟨vc, rfl, hoc, hgc⟩
    have hoc := hoc.base (Gr.size hGa)
    go_wp2_with fail
    go_ret2
    exact ⟨_, rfl, hoc, hGa.step hgc⟩
  | true =>
    have HR := Lib.hid hr
    obtain ⟨av, cv, rfl, -, -⟩ := hr.form
    obtain ⟨N, hN⟩ : ∃ N, N = d.length := ⟨_, rfl⟩
    have HN := Lib.hid hN
    have hN2 : N ≤ 1472 := by omega
    rw [← hN] at HR ⊢
    obtain ⟨NU, hU⟩ : ∃ U, U = N + 8 := ⟨_, rfl⟩
    have HU := Lib.hid hU
    have e8 : (N : Int) + 8 = (NU : Int) := by omega
    have hU2 : NU ≤ 1492 := by omega
    have d1 : decide ((1480 : Int) < (NU : Int)) = false := by rw [decide_eq_false_iff_not]; omega
    skip
    have hC := CL.new w [.bool true, .int .i64 a, .int .i64 b, .slice av N cv] 74 _ rfl
    have hG := Gr.alloc (Gr.refl w) (.cells #[.bool true, .int .i64 a, .int .i64 b, .slice av N cv] 74)
    clear hN hr hl hU
    go_enter Tryz.func38, Tryz.ntmps38
    go_upto_region 1 with fail
    have hle : w.heap.size ≤ w.heap.size := Nat.le_refl _
    generalize w.alloc (.cells #[.bool true, .int .i64 a, .int .i64 b, .slice av N cv] 74) = w1 at hC hG ⊢
    generalize hg0 : w.heap.size = g0 at hC ⊢
    replace hle : w.heap.size ≤ g0 := by omega
    obtain ⟨⟨x0, x1, x2, x3⟩, -⟩ := hC.four
    go_wp2_with fail
    refine (r6word_any (a : Int) _ true (by symm; rw [decide_eq_true_eq]; omega)).mono ?_
    rintro e w2 ⟨rfl, rfl⟩
    go_wp2_with fail
    refine (r6word_any (b : Int) _ true (by symm; rw [decide_eq_true_eq]; omega)).mono ?_
    rintro e w2 ⟨rfl, rfl⟩
    go_upto_region 9 with fail
    have HO1 : Hid (OwB w1.heap.size (w1.alloc (.cells #[.int .u8 0, .int .u8 0, .int .u8 0, .int .u8 0] 5)) (.slice (some ⟨w1.heap.size, 0, none⟩) 4 4) [0, 0, 0, 0]) := Lib.hid (owb_lit w1 [0, 0, 0, 0] (by simp) (by intro x hx; simp at hx; omega))
    have hg := Gr.alloc (Gr.refl w1) (.cells #[.int .u8 0, .int .u8 0, .int .u8 0, .int .u8 0] 5)
    replace HO1 := Lib.hid (HO1.out.rb)
    replace hG := hG.step hg
    replace hC := hC.gr hg
    clear hg x0 x1 x2 x3
    generalize w1.alloc (.cells #[.int .u8 0, .int .u8 0, .int .u8 0, .int .u8 0] 5) = w2 at hG hC HO1 ⊢
    generalize w1.heap.size = g1 at HO1 ⊢
    obtain ⟨⟨x0, x1, x2, x3⟩, -⟩ := hC.four
    go_wp2_with fail
    refine (rpush_any a 2 _ HO1.out (by simp) (by omega) (by omega) (by show a < 65536; omega)).mono ?_
    rintro e w3 ⟨v3, rfl, ho3, hg⟩
    have hsz := Gr.size hG
    replace ho3 := ho3.base (b := w.heap.size) (by first | exact hsz | exact Nat.le_trans hsz (by simp))
    replace hG := hG.step (hg)
    replace hC := hC.gr (hg)
    clear hsz
    have HW3 := Lib.hid ho3
    obtain ⟨l3, hl3⟩ : ∃ m, m = [0, 0, 0, 0] ++ bput a 2 := ⟨_, rfl⟩
    rw [← hl3] at ho3
    have HL3 := Lib.hid (show l3.length = 6 by rw [hl3]; simp [bput_len])
    have HE3 := Lib.hid hl3
    have HO3 := Lib.hid ho3.rb.any
    obtain ⟨a3, c3, rfl, -, -⟩ := ho3.rb.form
    rw [HL3.out] at HO3 ⊢
    clear hl3 ho3
    rw [← HE3.out, HL3.out] at HW3
    clear x0 x1 x2 x3 hg
    obtain ⟨⟨x0, x1, x2, x3⟩, -⟩ := hC.four
    go_wp2_with fail
    refine (rpush_any b 2 _ HO3.out (by rw [HL3.out]; omega) (by omega) (by omega) (by show b < 65536; omega)).mono ?_
    rintro e w4 ⟨v4, rfl, ho4, hg⟩
    have hsz := Gr.size hG
    have HW4 := Lib.hid (ho4.base (b := w.heap.size) hsz)
    replace hG := hG.step hg
    replace hC := hC.gr hg
    clear hsz x0 x1 x2 x3
    obtain ⟨l4, hl4⟩ : ∃ m, m = l3 ++ bput b 2 := ⟨_, rfl⟩
    rw [← hl4] at ho4
    have HL4 := Lib.hid (show l4.length = 8 by rw [hl4]; simp [bput_len, HL3.out])
    have HE4 := Lib.hid hl4
    have HO4 := Lib.hid ho4.rb.any
    obtain ⟨a4, c4, rfl, -, -⟩ := ho4.rb.form
    rw [HL4.out] at HO4 ⊢
    clear hl4 ho4
    rw [← HE4.out, HL4.out] at HW4
    obtain ⟨⟨x0, x1, x2, x3⟩, -⟩ := hC.four
    have hsz := Gr.size hG
    go_wp2_with (at_builtin; refine wpList_app (base := w.heap.size) rfl (.tmp 34) (.tmp 36) rfl rfl HW4.out rfl (HR.out.gr hG) (by rw [HL4.out, ← HN.out]; omega) hsz ?_; intro va wa hoa ga; have hGa : Gr w wa := hG.grownNew ga HW4.out.above; clear ga; obtain ⟨la, hla⟩ : ∃ m, m = l4 ++ d := ⟨_, rfl⟩; rw [← hla] at hoa; have HLA := Lib.hid hla; have hlen : la.length = NU := (by rw [hla, List.length_append, HL4.out, ← HN.out, HU.out]; omega); have HLN := Lib.hid hlen; have HOA := Lib.hid hoa.rb; obtain ⟨aa, ca, rfl, -, -⟩ := hoa.rb.form; rw [HLN.out] at HOA ⊢; clear hoa hla hlen)
    refine (rwchk_nat wa HOA.out (by rw [HLN.out]; omega)).mono ?_
    rintro e wb ⟨rfl, rfl⟩
    have hsl := s0_le la
    have HS := Lib.hid (r6put_any 2 (s0 la) wa HOA.out (by rw [HLN.out]; omega) (by rw [HLN.out, HU.out]; omega) hsl)
    have HF : Hid ((la.set 2 (s0 la / 256 % 256)).set (2 + 1) (s0 la % 256) = echoL true a b d) := Lib.hid (fin_set (by rw [HLA.out, HE4.out, HE3.out, show [0, 0, 0, 0] = echoA true ++ bput 0 2 from rfl]; simp only [echoZ, List.append_assoc]) rfl)
    rw [HF.out] at HS
    generalize s0 la = s at *
    go_wp2_with fail
    refine HS.out.mono ?_
    rintro e wc ⟨vc, rfl, hoc, hgc⟩
    have hoc := hoc.base (Gr.size hGa)
    go_wp2_with fail
    go_ret2
    exact ⟨_, rfl, hoc, hGa.step hgc⟩
set_option maxHeartbeats 2000000 in
theorem rnote_ok {p : Nat → Prop} {v : Value} {d : List Nat} (t c : Nat) (w : World) (hr : Rb p w v d) (ht : t = 3 ∨ t = 11) (hc : c < 256) (h28 : 28 ≤ d.length) (hl : d.length ≤ 1472) :
    Calls Tryz.prog 43 #[.agg #[.int .i64 t, .int .i64 c, v]] w fun e w' => ∃ v', e = .returned (.tuple #[v', .int .i64 0]) ∧ OwB w.heap.size w' v' (noteL t c d) ∧ Gr w w' := by
  have ht2 : t < 256 := by omega
  have hb2 : ((t : Int) != 11) = decide (t ≠ 11) := by by_cases h : t = 11 <;> simp [h]; omega
  have et : (t : Int) % 256 = (t : Int) := by omega
  have ec : (c : Int) % 256 = (c : Int) := by omega
  have ewt : IntKind.u8.wrap (t : Int) = (t : Int) := by rw [wrap_byte]; omega
  have ewc : IntKind.u8.wrap (c : Int) = (c : Int) := by rw [wrap_byte]; omega
  have key : ((t : Int) != 3) = false ∨ (((t : Int) != 3) = true ∧ ((t : Int) != 11) = false) := by
    rcases ht with rfl | rfl
    · exact .inl rfl
    · exact .inr ⟨rfl, rfl⟩
  clear ht hb2
  rcases key with b1 | ⟨b1, b2⟩
  · skip
    have HR := Lib.hid hr
    obtain ⟨av, cv, rfl, -, -⟩ := hr.form
    obtain ⟨N, hN⟩ : ∃ N, N = d.length := ⟨_, rfl⟩
    have HN := Lib.hid hN
    have hN2 : N ≤ 1472 := by omega
    rw [← hN] at HR ⊢
    obtain ⟨NU, hU⟩ : ∃ U, U = N + 8 := ⟨_, rfl⟩
    have HU := Lib.hid hU
    have e8 : (N : Int) + 8 = (NU : Int) := by omega
    have hU2 : NU ≤ 1492 := by omega
    have d1 : decide ((1480 : Int) < (NU : Int)) = false := by rw [decide_eq_false_iff_not]; omega
    have d2 : decide ((N : Int) < 28) = false := by rw [decide_eq_false_iff_not]; omega
    have hC := CL.new w [.int .i64 t, .int .i64 c, .slice av N cv] 65 _ rfl
    have hG := Gr.alloc (Gr.refl w) (.cells #[.int .i64 t, .int .i64 c, .slice av N cv] 65)
    clear hN hr hl hU
    go_enter Tryz.func43, Tryz.ntmps43
    go_upto_region 1 with fail
    have hle : w.heap.size ≤ w.heap.size := Nat.le_refl _
    generalize w.alloc (.cells #[.int .i64 t, .int .i64 c, .slice av N cv] 65) = w1 at hC hG ⊢
    generalize hg0 : w.heap.size = g0 at hC ⊢
    replace hle : w.heap.size ≤ g0 := by omega
    obtain ⟨⟨x0, x1, x2⟩, -⟩ := hC.three
    go_wp2_with fail
    refine (r6octet_any (c : Int) _ true (by symm; rw [decide_eq_true_eq]; omega)).mono ?_
    rintro e w2 ⟨rfl, rfl⟩
    have HO1 : Hid (OwB w1.heap.size (w1.alloc (.cells #[.int .u8 t, .int .u8 c, .int .u8 0, .int .u8 0, .int .u8 0, .int .u8 0, .int .u8 0, .int .u8 0] 5)) (.slice (some ⟨w1.heap.size, 0, none⟩) 8 8) [t, c, 0, 0, 0, 0, 0, 0]) := Lib.hid (owb_lit w1 [t, c, 0, 0, 0, 0, 0, 0] (by simp) (by intro x hx; simp at hx; omega))
    have hg := Gr.alloc (Gr.refl w1) (.cells #[.int .u8 t, .int .u8 c, .int .u8 0, .int .u8 0, .int .u8 0, .int .u8 0, .int .u8 0, .int .u8 0] 5)
    have HW1 := Lib.hid (HO1.out.base (Gr.size hG))
    replace hG := hG.step hg
    replace hC := hC.gr hg
    have hsz := Gr.size hG
    obtain ⟨⟨z0, z1, z2⟩, -⟩ := hC.three
    go_wp2_with (at_builtin; refine wpList_app (base := w.heap.size) rfl (.tmp 34) (.tmp 36) rfl rfl HW1.out rfl (HR.out.gr hG) (by rw [← HN.out]; simp; omega) hsz ?_; intro va wa hoa ga; have hGa : Gr w wa := hG.grownNew ga HW1.out.above; clear ga; obtain ⟨la, hla⟩ : ∃ m, m = [t, c, 0, 0, 0, 0, 0, 0] ++ d := ⟨_, rfl⟩; rw [← hla] at hoa; have HLA := Lib.hid hla; have hlen : la.length = NU := (by rw [hla, List.length_append, ← HN.out, HU.out]; simp; omega); have HLN := Lib.hid hlen; have HOA := Lib.hid hoa.rb; obtain ⟨aa, ca, rfl, -, -⟩ := hoa.rb.form; rw [HLN.out] at HOA ⊢; clear hoa hla hlen)
    refine (rwchk_nat wa HOA.out (by rw [HLN.out]; omega)).mono ?_
    rintro e wb ⟨rfl, rfl⟩
    have hsl := s0_le la
    have HS := Lib.hid (r6put_any 2 (s0 la) wa HOA.out (by rw [HLN.out]; omega) (by rw [HLN.out, HU.out]; omega) hsl)
    have HF : Hid ((la.set 2 (s0 la / 256 % 256)).set (2 + 1) (s0 la % 256) = noteL t c d) := Lib.hid (fin_set (by rw [HLA.out]; simp [noteA, noteZ, bput]; omega) (by simp [noteA, bput_len]))
    rw [HF.out] at HS
    generalize s0 la = s at *
    go_wp2_with fail
    refine HS.out.mono ?_
    rintro e wc ⟨vc, rfl, hoc, hgc⟩
    have hoc := hoc.base (Gr.size hGa)
    go_wp2_with fail
    go_ret2
    exact ⟨_, rfl, hoc, hGa.step hgc⟩
  · skip
    have HR := Lib.hid hr
    obtain ⟨av, cv, rfl, -, -⟩ := hr.form
    obtain ⟨N, hN⟩ : ∃ N, N = d.length := ⟨_, rfl⟩
    have HN := Lib.hid hN
    have hN2 : N ≤ 1472 := by omega
    rw [← hN] at HR ⊢
    obtain ⟨NU, hU⟩ : ∃ U, U = N + 8 := ⟨_, rfl⟩
    have HU := Lib.hid hU
    have e8 : (N : Int) + 8 = (NU : Int) := by omega
    have hU2 : NU ≤ 1492 := by omega
    have d1 : decide ((1480 : Int) < (NU : Int)) = false := by rw [decide_eq_false_iff_not]; omega
    have d2 : decide ((N : Int) < 28) = false := by rw [decide_eq_false_iff_not]; omega
    have hC := CL.new w [.int .i64 t, .int .i64 c, .slice av N cv] 65 _ rfl
    have hG := Gr.alloc (Gr.refl w) (.cells #[.int .i64 t, .int .i64 c, .slice av N cv] 65)
    clear hN hr hl hU
    go_enter Tryz.func43, Tryz.ntmps43
    go_upto_region 1 with fail
    have hle : w.heap.size ≤ w.heap.size := Nat.le_refl _
    generalize w.alloc (.cells #[.int .i64 t, .int .i64 c, .slice av N cv] 65) = w1 at hC hG ⊢
    generalize hg0 : w.heap.size = g0 at hC ⊢
    replace hle : w.heap.size ≤ g0 := by omega
    obtain ⟨⟨x0, x1, x2⟩, -⟩ := hC.three
    go_wp2_with fail
    refine (r6octet_any (c : Int) _ true (by symm; rw [decide_eq_true_eq]; omega)).mono ?_
    rintro e w2 ⟨rfl, rfl⟩
    have HO1 : Hid (OwB w1.heap.size (w1.alloc (.cells #[.int .u8 t, .int .u8 c, .int .u8 0, .int .u8 0, .int .u8 0, .int .u8 0, .int .u8 0, .int .u8 0] 5)) (.slice (some ⟨w1.heap.size, 0, none⟩) 8 8) [t, c, 0, 0, 0, 0, 0, 0]) := Lib.hid (owb_lit w1 [t, c, 0, 0, 0, 0, 0, 0] (by simp) (by intro x hx; simp at hx; omega))
    have hg := Gr.alloc (Gr.refl w1) (.cells #[.int .u8 t, .int .u8 c, .int .u8 0, .int .u8 0, .int .u8 0, .int .u8 0, .int .u8 0, .int .u8 0] 5)
    have HW1 := Lib.hid (HO1.out.base (Gr.size hG))
    replace hG := hG.step hg
    replace hC := hC.gr hg
    have hsz := Gr.size hG
    obtain ⟨⟨z0, z1, z2⟩, -⟩ := hC.three
    go_wp2_with (at_builtin; refine wpList_app (base := w.heap.size) rfl (.tmp 34) (.tmp 36) rfl rfl HW1.out rfl (HR.out.gr hG) (by rw [← HN.out]; simp; omega) hsz ?_; intro va wa hoa ga; have hGa : Gr w wa := hG.grownNew ga HW1.out.above; clear ga; obtain ⟨la, hla⟩ : ∃ m, m = [t, c, 0, 0, 0, 0, 0, 0] ++ d := ⟨_, rfl⟩; rw [← hla] at hoa; have HLA := Lib.hid hla; have hlen : la.length = NU := (by rw [hla, List.length_append, ← HN.out, HU.out]; simp; omega); have HLN := Lib.hid hlen; have HOA := Lib.hid hoa.rb; obtain ⟨aa, ca, rfl, -, -⟩ := hoa.rb.form; rw [HLN.out] at HOA ⊢; clear hoa hla hlen)
    refine (rwchk_nat wa HOA.out (by rw [HLN.out]; omega)).mono ?_
    rintro e wb ⟨rfl, rfl⟩
    have hsl := s0_le la
    have HS := Lib.hid (r6put_any 2 (s0 la) wa HOA.out (by rw [HLN.out]; omega) (by rw [HLN.out, HU.out]; omega) hsl)
    have HF : Hid ((la.set 2 (s0 la / 256 % 256)).set (2 + 1) (s0 la % 256) = noteL t c d) := Lib.hid (fin_set (by rw [HLA.out]; simp [noteA, noteZ, bput]; omega) (by simp [noteA, bput_len]))
    rw [HF.out] at HS
    generalize s0 la = s at *
    go_wp2_with fail
    refine HS.out.mono ?_
    rintro e wc ⟨vc, rfl, hoc, hgc⟩
    have hoc := hoc.base (Gr.size hGa)
    go_wp2_with fail
    go_ret2
    exact ⟨_, rfl, hoc, hGa.step hgc⟩
end Go.Proofs.YtkpejaiigopmgaaGreatDoor
/- The document's encoders of datagrams and segments. -/
namespace Go.Proofs.YtkpejaiigopmgaaGreatDoor
open Go Go.RowKit Go.Sort
set_option maxRecDepth 100000
set_option linter.unusedVariables false
set_option linter.unusedSimpArgs false
set_option maxHeartbeats 4000000 in
theorem rudp_ok {p : Nat → Prop} {v : Value} {d : List Nat} (src dst sp dp : Nat) (w : World) (hr : Rb p w v d) (hs : src < 4294967296) (hd : dst < 4294967296) (ha : sp < 65536) (hb : dp < 65536) (hl : d.length ≤ 1472) :
    Calls Tryz.prog 73 #[.int .u32 src, .int .u32 dst, .agg #[.int .i64 sp, .int .i64 dp, v]] w fun e w' => ∃ v', e = .returned (.tuple #[v', .int .i64 0]) ∧ OwB w.heap.size w' v' (udpL src dst sp dp d) ∧ Gr w w' := by
  have HR := Lib.hid hr
  obtain ⟨av, cv, rfl, -, -⟩ := hr.form
  obtain ⟨N, hN⟩ : ∃ N, N = d.length := ⟨_, rfl⟩
  have HN := Lib.hid hN
  have hN2 : N ≤ 1472 := by omega
  rw [← hN] at HR ⊢
  obtain ⟨NU, hU⟩ : ∃ U, U = N + 8 := ⟨_, rfl⟩
  have HU := Lib.hid hU
  have e8 : (N : Int) + 8 = (NU : Int) := by omega
  have hU2 : NU ≤ 1492 := by omega
  have d1 : decide ((1480 : Int) < (NU : Int)) = false := by rw [decide_eq_false_iff_not]; omega
  skip
  have hC := CL.new w [.int .i64 sp, .int .i64 dp, .slice av N cv] 60 _ rfl
  have hG := Gr.alloc (Gr.refl w) (.cells #[.int .i64 sp, .int .i64 dp, .slice av N cv] 60)
  clear hN hr hl hU
  go_enter Tryz.func73, Tryz.ntmps73
  go_upto_region 1 with fail
  have hle : w.heap.size ≤ w.heap.size := Nat.le_refl _
  generalize w.alloc (.cells #[.int .i64 sp, .int .i64 dp, .slice av N cv] 60) = w1 at hC hG ⊢
  generalize hg0 : w.heap.size = g0 at hC ⊢
  replace hle : w.heap.size ≤ g0 := by omega
  obtain ⟨⟨x0, x1, x2⟩, -⟩ := hC.three
  go_wp2_with fail
  refine (r6word_any (sp : Int) _ true (by symm; rw [decide_eq_true_eq]; omega)).mono ?_
  rintro e w2 ⟨rfl, rfl⟩
  go_wp2_with fail
  refine (r6word_any (dp : Int) _ true (by symm; rw [decide_eq_true_eq]; omega)).mono ?_
  rintro e w2 ⟨rfl, rfl⟩
  have hb1 := hC.lt
  obtain ⟨B1, hB1⟩ : ∃ B, B = w1.heap.size := ⟨_, rfl⟩
  have HB1 := Lib.hid (show g0 < B1 ∧ w.heap.size ≤ B1 ∧ B1 ≤ w1.heap.size by omega)
  clear hb1 hB1
  go_wp2_with fail
  refine (rpush_any sp 2 w1 (Rb.nil (fun _ => True) _) (by simp) (by omega) (by omega) (by show sp < 65536; omega)).mono ?_
  rintro e w3 ⟨v3, rfl, ho3, hg⟩
  have HW3 := Lib.hid (ho3.base (b := B1) (by have := HB1.out; omega))
  replace hG := hG.step hg
  replace hC := hC.gr hg
  have hz3 := Gr.size hg
  clear hg x0 x1 x2
  obtain ⟨l3, hl3⟩ : ∃ m, m = [] ++ bput sp 2 := ⟨_, rfl⟩
  rw [← hl3] at ho3
  have HL3 := Lib.hid (show l3.length = 2 by rw [hl3]; simp [bput_len])
  have HE3 := Lib.hid hl3
  have HO3 := Lib.hid ho3.rb.any
  obtain ⟨a3, c3, rfl, -, -⟩ := ho3.rb.form
  rw [HL3.out] at HO3 ⊢
  clear hl3 ho3
  rw [← HE3.out, HL3.out] at HW3
  obtain ⟨⟨x0, x1, x2⟩, -⟩ := hC.three
  go_wp2_with fail
  refine (rpush_any dp 2 w3 HO3.out (by rw [HL3.out]; omega) (by omega) (by omega) (by show dp < 65536; omega)).mono ?_
  rintro e w4 ⟨v4, rfl, ho4, hg⟩
  have HW4 := Lib.hid (ho4.base (b := B1) (by have := HB1.out; have := hz3; omega))
  replace hG := hG.step hg
  replace hC := hC.gr hg
  have hz4 := Gr.size hg
  clear hg x0 x1 x2
  obtain ⟨l4, hl4⟩ : ∃ m, m = l3 ++ bput dp 2 := ⟨_, rfl⟩
  rw [← hl4] at ho4
  have HL4 := Lib.hid (show l4.length = 4 by rw [hl4]; simp [bput_len, HL3.out])
  have HE4 := Lib.hid hl4
  have HO4 := Lib.hid ho4.rb.any
  obtain ⟨a4, c4, rfl, -, -⟩ := ho4.rb.form
  rw [HL4.out] at HO4 ⊢
  clear hl4 ho4
  rw [← HE4.out, HL4.out] at HW4
  obtain ⟨⟨x0, x1, x2⟩, -⟩ := hC.three
  go_wp2_with fail
  refine (rpush_any NU 2 w4 HO4.out (by rw [HL4.out]; omega) (by omega) (by omega) (by show NU < 65536; omega)).mono ?_
  rintro e w5 ⟨v5, rfl, ho5, hg⟩
  have HW5 := Lib.hid (ho5.base (b := B1) (by have := HB1.out; have := hz3; have := hz4; omega))
  replace hG := hG.step hg
  replace hC := hC.gr hg
  have hz5 := Gr.size hg
  clear hg x0 x1 x2
  obtain ⟨l5, hl5⟩ : ∃ m, m = l4 ++ bput NU 2 := ⟨_, rfl⟩
  rw [← hl5] at ho5
  have HL5 := Lib.hid (show l5.length = 6 by rw [hl5]; simp [bput_len, HL4.out])
  have HE5 := Lib.hid hl5
  have HO5 := Lib.hid ho5.rb.any
  obtain ⟨a5, c5, rfl, -, -⟩ := ho5.rb.form
  rw [HL5.out] at HO5 ⊢
  clear hl5 ho5
  rw [← HE5.out, HL5.out] at HW5
  obtain ⟨⟨x0, x1, x2⟩, -⟩ := hC.three
  go_wp2_with fail
  clear x0 x1 x2
  have hS : (fun W => Gr w W ∧ CL W g0 [.int .i64 sp, .int .i64 dp, .slice av N cv]) w5.drew := ⟨hG.step (Gr.drew (Gr.refl _)), hC.gr (Gr.drew (Gr.refl _))⟩
  refine region_plain (fun W => Gr w W ∧ CL W g0 [.int .i64 sp, .int .i64 dp, .slice av N cv]) (by kernel_rfl) ?_
  have hbz : B1 ≤ w5.drew.heap.size := by have := HB1.out; have := hz3; have := hz4; have := hz5; have := Gr.size (Gr.drew (Gr.refl w5)); omega
  replace HW5 := Lib.hid (HW5.out.gr (Gr.drew (Gr.refl _)))
  generalize w5.drew = wq at hS HW5 hbz ⊢
  refine take_at 0 (some 38) (v := ?vn0) rfl rfl (by kernel_rfl) (by kernel_rfl) (by kernel_rfl) (by rfl) ?yn0 hS ?tn0
  case yn0 =>
    intro w' hSw
    obtain ⟨⟨x0, x1, x2⟩, -⟩ := hSw.2.three
    go_simp
    (try with_reducible rfl)
  simp only [Act.put, List.setIfInBounds_toArray, List.set_cons_zero, List.set_cons_succ]
  refine take_at 3 (some 41) (v := ?vn3) rfl rfl (by kernel_rfl) (by kernel_rfl) (by kernel_rfl) (by rfl) ?yn3 hS ?tn3
  case yn3 =>
    intro w' hSw
    obtain ⟨⟨x0, x1, x2⟩, -⟩ := hSw.2.three
    go_simp
    (try with_reducible rfl)
  simp only [Act.put, List.setIfInBounds_toArray, List.set_cons_zero, List.set_cons_succ]
  refine take_at 4 (some 42) (v := ?vn4) rfl rfl (by kernel_rfl) (by kernel_rfl) (by kernel_rfl) (by rfl) ?yn4 hS ?tn4
  case yn4 =>
    intro w' hSw
    obtain ⟨⟨x0, x1, x2⟩, -⟩ := hSw.2.three
    go_simp
    (try with_reducible rfl)
  simp only [Act.put, List.setIfInBounds_toArray, List.set_cons_zero, List.set_cons_succ]
  refine next_at 1 rfl (by kernel_rfl) (by rfl) (fun K hK => ?_)
  go_simp
  have hZ : OwB wq.heap.size (wq.alloc (.cells #[.int .u8 0, .int .u8 0] 5)) (.slice (some ⟨wq.heap.size, 0, none⟩) 2 2) [0, 0] := owb_lit wq [0, 0] (by simp) (by intro x hx; simp at hx; omega)
  have hg := Gr.alloc (Gr.refl wq) (.cells #[.int .u8 0, .int .u8 0] 5)
  have hSn : (fun W => Gr w W ∧ CL W g0 [.int .i64 sp, .int .i64 dp, .slice av N cv]) _ := ⟨hS.1.step hg, hS.2.gr hg⟩
  replace HW5 := Lib.hid (HW5.out.gr hg)
  have HZ := Lib.hid hZ.rb
  replace hbz := Nat.le_trans hbz (Gr.size hg)
  refine hK _ _ hSn ?_
  clear hK K hS hg hZ
  have hS := hSn
  clear hSn
  generalize wq.alloc (.cells #[.int .u8 0, .int .u8 0] 5) = wr at hS HW5 HZ hbz ⊢
  generalize wq.heap.size = gz at HZ ⊢
  refine next_at 2 rfl (by kernel_rfl) (by rfl) (fun K hK => ?_)
  refine oper_app (base := B1) _ _ rfl rfl HW5.out rfl HZ.out (by rw [HL5.out]; simp) hbz ?_
  intro vs ws hos gs
  have hSn : (fun W => Gr w W ∧ CL W g0 [.int .i64 sp, .int .i64 dp, .slice av N cv]) ws := ⟨hS.1.grownNew gs (fun k hk => by have := HW5.out.above k hk; have := HB1.out; omega), hS.2.grown gs (fun e => by have := HW5.out.above _ e; have := HB1.out; omega)⟩
  have hbs := Nat.le_trans hbz gs.size
  obtain ⟨ls, hls⟩ : ∃ m, m = l5 ++ [0, 0] := ⟨_, rfl⟩
  rw [← hls] at hos
  have HLS := Lib.hid (show ls.length = 8 by rw [hls, List.length_append, HL5.out]; rfl)
  have HES := Lib.hid hls
  have HOS := Lib.hid hos
  obtain ⟨az, cz, rfl, -, -⟩ := hos.rb.form
  rw [HLS.out] at HOS ⊢
  refine hK _ _ hSn ?_
  simp only [Act.put, List.setIfInBounds_toArray, List.set_cons_zero, List.set_cons_succ]
  clear hK K hS HZ gs hos hls hbz
  have hS := hSn
  clear hSn
  refine next_at 5 rfl (by kernel_rfl) (by rfl) (fun K hK => ?_)
  refine oper_app (base := B1) _ _ rfl rfl HOS.out rfl (HR.out.gr hS.1) (by rw [HLS.out, ← HN.out]; omega) hbs ?_
  intro vt wt hot gt
  have hSn : (fun W => Gr w W ∧ CL W g0 [.int .i64 sp, .int .i64 dp, .slice av N cv]) wt := ⟨hS.1.grownNew gt (fun k hk => by have := HOS.out.above k hk; have := HB1.out; omega), hS.2.grown gt (fun e => by have := HOS.out.above _ e; have := HB1.out; omega)⟩
  obtain ⟨la, hla⟩ : ∃ m, m = ls ++ d := ⟨_, rfl⟩
  rw [← hla] at hot
  have HLN := Lib.hid (show la.length = NU by rw [hla, List.length_append, HLS.out, ← HN.out, HU.out]; omega)
  have HLA := Lib.hid hla
  have HOA := Lib.hid hot.rb
  obtain ⟨aa, ca, rfl, -, -⟩ := hot.rb.form
  rw [HLN.out] at HOA ⊢
  refine hK _ _ hSn ?_
  simp only [Act.put, List.setIfInBounds_toArray, List.set_cons_zero, List.set_cons_succ]
  clear hK K hS gt hot hla hbs
  have hS := hSn
  clear hSn
  refine next_at 6 rfl (by kernel_rfl) (by rfl) (fun K hK => ?_)
  go_simp
  refine hK _ _ hS ?_
  clear hK K
  refine wpAnyH_done (by kernel_rfl) ?_ _
  refine qz_normal ?_
  have hGt := hS.1
  clear hS hC hG
  have HEq : Hid (la = udpA sp dp d.length ++ bput 0 2 ++ d) := Lib.hid (by rw [HLA.out, HES.out, HE5.out, HE4.out, HE3.out, HU.out, HN.out, Nat.add_comm]; simp only [udpA, bputs, List.flatMap_cons, List.flatMap_nil, List.append_nil, List.nil_append, List.append_assoc]; rfl)
  have HPS := Lib.hid (r6pseudo_any src dst 17 wt HOA.out (by rw [HLN.out]; omega) hs hd)
  rw [show pcE src dst 17 la = sP src dst 17 la from rfl] at HPS
  have HUU : Hid (sU src dst la = if sP src dst 17 la = 0 then 65535 else sP src dst 17 la) := Lib.hid rfl
  have hle := sP_le src dst 17 la
  have HF0 := Lib.hid (fun s (h : s = sU src dst la) => fin_setU (src := src) (dst := dst) (i := 6) HEq.out (by simp [udpA, bputs, bput_len]) h)
  generalize sP src dst 17 la = q at *
  go_wp2_with fail
  refine HPS.out.mono ?_
  rintro e wu ⟨rfl, hg⟩
  by_cases hq : q = 0
  · have b0 : ((q : Int) == 0) = true := by simpa using hq
    have HF := Lib.hid (HF0.out 65535 (by rw [HUU.out, if_pos hq]))
    have HS := Lib.hid (r6put_any 6 65535 wu (HOA.out.gr hg) (by rw [HLN.out]; omega) (by rw [HLN.out, HU.out]; omega) (by omega))
    rw [HF.out] at HS
    clear HF hq
    go_wp2_with fail
    refine HS.out.mono ?_
    rintro e wc ⟨vc, rfl, hoc, hgc⟩
    have hoc := hoc.base (Gr.size (hGt.step hg))
    go_wp2_with fail
    go_ret2
    exact ⟨_, rfl, hoc, (hGt.step hg).step hgc⟩
  · have b0 : ((q : Int) == 0) = false := by simpa using hq
    have HF := Lib.hid (HF0.out q (by rw [HUU.out, if_neg hq]))
    have HS := Lib.hid (r6put_any 6 q wu (HOA.out.gr hg) (by rw [HLN.out]; omega) (by rw [HLN.out, HU.out]; omega) (by omega))
    rw [HF.out] at HS
    clear HF hq
    go_wp2_with fail
    refine HS.out.mono ?_
    rintro e wc ⟨vc, rfl, hoc, hgc⟩
    have hoc := hoc.base (Gr.size (hGt.step hg))
    go_wp2_with fail
    go_ret2
    exact ⟨_, rfl, hoc, (hGt.step hg).step hgc⟩
set_option maxHeartbeats 4000000 in
theorem rtcp_ok {p : Nat → Prop} {v : Value} {d : List Nat} (src dst sp dp sq ak fl wi : Nat) (w : World) (hr : Rb p w v d) (hs : src < 4294967296) (hd : dst < 4294967296) (ha : sp < 65536) (hb : dp < 65536) (hq : sq < 4294967296) (hk : ak < 4294967296) (hf : fl < 256) (hw : wi < 65536) (hl : d.length ≤ 1460) :
    Calls Tryz.prog 42 #[.int .u32 src, .int .u32 dst, .agg #[.int .i64 sp, .int .i64 dp, .int .i64 sq, .int .i64 ak, .int .i64 fl, .int .i64 wi, v]] w fun e w' => ∃ v', e = .returned (.tuple #[v', .int .i64 0]) ∧ OwB w.heap.size w' v' (tcpL src dst sp dp sq ak fl wi d) ∧ Gr w w' := by
  have HR := Lib.hid hr
  obtain ⟨av, cv, rfl, -, -⟩ := hr.form
  obtain ⟨N, hN⟩ : ∃ N, N = d.length := ⟨_, rfl⟩
  have HN := Lib.hid hN
  have hN2 : N ≤ 1472 := by omega
  rw [← hN] at HR ⊢
  obtain ⟨NU, hU⟩ : ∃ U, U = N + 20 := ⟨_, rfl⟩
  have HU := Lib.hid hU
  have e8 : (N : Int) + 20 = (NU : Int) := by omega
  have hU2 : NU ≤ 1492 := by omega
  have d1 : decide ((1480 : Int) < (NU : Int)) = false := by rw [decide_eq_false_iff_not]; omega
  skip
  have hC := CL.new w [.int .i64 sp, .int .i64 dp, .int .i64 sq, .int .i64 ak, .int .i64 fl, .int .i64 wi, .slice av N cv] 80 _ rfl
  have hG := Gr.alloc (Gr.refl w) (.cells #[.int .i64 sp, .int .i64 dp, .int .i64 sq, .int .i64 ak, .int .i64 fl, .int .i64 wi, .slice av N cv] 80)
  clear hN hr hl hU
  go_enter Tryz.func42, Tryz.ntmps42
  go_upto_region 1 with fail
  have hle : w.heap.size ≤ w.heap.size := Nat.le_refl _
  generalize w.alloc (.cells #[.int .i64 sp, .int .i64 dp, .int .i64 sq, .int .i64 ak, .int .i64 fl, .int .i64 wi, .slice av N cv] 80) = w1 at hC hG ⊢
  generalize hg0 : w.heap.size = g0 at hC ⊢
  replace hle : w.heap.size ≤ g0 := by omega
  obtain ⟨⟨x0, x1, x2, x3, x4, x5, x6⟩, -⟩ := hC.seven
  go_wp2_with fail
  refine (r6word_any (sp : Int) _ true (by symm; rw [decide_eq_true_eq]; omega)).mono ?_
  rintro e w2 ⟨rfl, rfl⟩
  go_wp2_with fail
  refine (r6word_any (dp : Int) _ true (by symm; rw [decide_eq_true_eq]; omega)).mono ?_
  rintro e w2 ⟨rfl, rfl⟩
  go_wp2_with fail
  refine (r6long_any (sq : Int) _ true (by symm; rw [decide_eq_true_eq]; omega)).mono ?_
  rintro e w2 ⟨rfl, rfl⟩
  go_wp2_with fail
  refine (r6long_any (ak : Int) _ true (by symm; rw [decide_eq_true_eq]; omega)).mono ?_
  rintro e w2 ⟨rfl, rfl⟩
  go_wp2_with fail
  refine (r6octet_any (fl : Int) _ true (by symm; rw [decide_eq_true_eq]; omega)).mono ?_
  rintro e w2 ⟨rfl, rfl⟩
  go_wp2_with fail
  refine (r6word_any (wi : Int) _ true (by symm; rw [decide_eq_true_eq]; omega)).mono ?_
  rintro e w2 ⟨rfl, rfl⟩
  have hb1 := hC.lt
  obtain ⟨B1, hB1⟩ : ∃ B, B = w1.heap.size := ⟨_, rfl⟩
  have HB1 := Lib.hid (show g0 < B1 ∧ w.heap.size ≤ B1 ∧ B1 ≤ w1.heap.size by omega)
  clear hb1 hB1
  go_wp2_with fail
  refine (rpush_any sp 2 w1 (Rb.nil (fun _ => True) _) (by simp) (by omega) (by omega) (by show sp < 65536; omega)).mono ?_
  rintro e w3 ⟨v3, rfl, ho3, hg⟩
  have HW3 := Lib.hid (ho3.base (b := B1) (by have := HB1.out; omega))
  replace hG := hG.step hg
  replace hC := hC.gr hg
  have hz3 := Gr.size hg
  clear hg x0 x1 x2 x3 x4 x5 x6
  obtain ⟨l3, hl3⟩ : ∃ m, m = [] ++ bput sp 2 := ⟨_, rfl⟩
  rw [← hl3] at ho3
  have HL3 := Lib.hid (show l3.length = 2 by rw [hl3]; simp [bput_len])
  have HE3 := Lib.hid hl3
  have HO3 := Lib.hid ho3.rb.any
  obtain ⟨a3, c3, rfl, -, -⟩ := ho3.rb.form
  rw [HL3.out] at HO3 ⊢
  clear hl3 ho3
  rw [← HE3.out, HL3.out] at HW3
  obtain ⟨⟨x0, x1, x2, x3, x4, x5, x6⟩, -⟩ := hC.seven
  go_wp2_with fail
  refine (rpush_any dp 2 w3 HO3.out (by rw [HL3.out]; omega) (by omega) (by omega) (by show dp < 65536; omega)).mono ?_
  rintro e w4 ⟨v4, rfl, ho4, hg⟩
  have HW4 := Lib.hid (ho4.base (b := B1) (by have := HB1.out; have := hz3; omega))
  replace hG := hG.step hg
  replace hC := hC.gr hg
  have hz4 := Gr.size hg
  clear hg x0 x1 x2 x3 x4 x5 x6
  obtain ⟨l4, hl4⟩ : ∃ m, m = l3 ++ bput dp 2 := ⟨_, rfl⟩
  rw [← hl4] at ho4
  have HL4 := Lib.hid (show l4.length = 4 by rw [hl4]; simp [bput_len, HL3.out])
  have HE4 := Lib.hid hl4
  have HO4 := Lib.hid ho4.rb.any
  obtain ⟨a4, c4, rfl, -, -⟩ := ho4.rb.form
  rw [HL4.out] at HO4 ⊢
  clear hl4 ho4
  rw [← HE4.out, HL4.out] at HW4
  obtain ⟨⟨x0, x1, x2, x3, x4, x5, x6⟩, -⟩ := hC.seven
  go_wp2_with fail
  refine (rpush_any sq 4 w4 HO4.out (by rw [HL4.out]; omega) (by omega) (by omega) (by show sq < 4294967296; omega)).mono ?_
  rintro e w5 ⟨v5, rfl, ho5, hg⟩
  have HW5 := Lib.hid (ho5.base (b := B1) (by have := HB1.out; have := hz3; have := hz4; omega))
  replace hG := hG.step hg
  replace hC := hC.gr hg
  have hz5 := Gr.size hg
  clear hg x0 x1 x2 x3 x4 x5 x6
  obtain ⟨l5, hl5⟩ : ∃ m, m = l4 ++ bput sq 4 := ⟨_, rfl⟩
  rw [← hl5] at ho5
  have HL5 := Lib.hid (show l5.length = 8 by rw [hl5]; simp [bput_len, HL4.out])
  have HE5 := Lib.hid hl5
  have HO5 := Lib.hid ho5.rb.any
  obtain ⟨a5, c5, rfl, -, -⟩ := ho5.rb.form
  rw [HL5.out] at HO5 ⊢
  clear hl5 ho5
  rw [← HE5.out, HL5.out] at HW5
  obtain ⟨⟨x0, x1, x2, x3, x4, x5, x6⟩, -⟩ := hC.seven
  go_wp2_with fail
  refine (rpush_any ak 4 w5 HO5.out (by rw [HL5.out]; omega) (by omega) (by omega) (by show ak < 4294967296; omega)).mono ?_
  rintro e w6 ⟨v6, rfl, ho6, hg⟩
  have HW6 := Lib.hid (ho6.base (b := B1) (by have := HB1.out; have := hz3; have := hz4; have := hz5; omega))
  replace hG := hG.step hg
  replace hC := hC.gr hg
  have hz6 := Gr.size hg
  clear hg x0 x1 x2 x3 x4 x5 x6
  obtain ⟨l6, hl6⟩ : ∃ m, m = l5 ++ bput ak 4 := ⟨_, rfl⟩
  rw [← hl6] at ho6
  have HL6 := Lib.hid (show l6.length = 12 by rw [hl6]; simp [bput_len, HL5.out])
  have HE6 := Lib.hid hl6
  have HO6 := Lib.hid ho6.rb.any
  obtain ⟨a6, c6, rfl, -, -⟩ := ho6.rb.form
  rw [HL6.out] at HO6 ⊢
  clear hl6 ho6
  rw [← HE6.out, HL6.out] at HW6
  obtain ⟨⟨x0, x1, x2, x3, x4, x5, x6⟩, -⟩ := hC.seven
  go_wp2_with fail
  refine (rpush_any 80 1 w6 HO6.out (by rw [HL6.out]; omega) (by omega) (by omega) (by show 80 < 256; omega)).mono ?_
  rintro e w7 ⟨v7, rfl, ho7, hg⟩
  have HW7 := Lib.hid (ho7.base (b := B1) (by have := HB1.out; have := hz3; have := hz4; have := hz5; have := hz6; omega))
  replace hG := hG.step hg
  replace hC := hC.gr hg
  have hz7 := Gr.size hg
  clear hg x0 x1 x2 x3 x4 x5 x6
  obtain ⟨l7, hl7⟩ : ∃ m, m = l6 ++ bput 80 1 := ⟨_, rfl⟩
  rw [← hl7] at ho7
  have HL7 := Lib.hid (show l7.length = 13 by rw [hl7]; simp [bput_len, HL6.out])
  have HE7 := Lib.hid hl7
  have HO7 := Lib.hid ho7.rb.any
  obtain ⟨a7, c7, rfl, -, -⟩ := ho7.rb.form
  rw [HL7.out] at HO7 ⊢
  clear hl7 ho7
  rw [← HE7.out, HL7.out] at HW7
  obtain ⟨⟨x0, x1, x2, x3, x4, x5, x6⟩, -⟩ := hC.seven
  go_wp2_with fail
  refine (rpush_any fl 1 w7 HO7.out (by rw [HL7.out]; omega) (by omega) (by omega) (by show fl < 256; omega)).mono ?_
  rintro e w8 ⟨v8, rfl, ho8, hg⟩
  have HW8 := Lib.hid (ho8.base (b := B1) (by have := HB1.out; have := hz3; have := hz4; have := hz5; have := hz6; have := hz7; omega))
  replace hG := hG.step hg
  replace hC := hC.gr hg
  have hz8 := Gr.size hg
  clear hg x0 x1 x2 x3 x4 x5 x6
  obtain ⟨l8, hl8⟩ : ∃ m, m = l7 ++ bput fl 1 := ⟨_, rfl⟩
  rw [← hl8] at ho8
  have HL8 := Lib.hid (show l8.length = 14 by rw [hl8]; simp [bput_len, HL7.out])
  have HE8 := Lib.hid hl8
  have HO8 := Lib.hid ho8.rb.any
  obtain ⟨a8, c8, rfl, -, -⟩ := ho8.rb.form
  rw [HL8.out] at HO8 ⊢
  clear hl8 ho8
  rw [← HE8.out, HL8.out] at HW8
  obtain ⟨⟨x0, x1, x2, x3, x4, x5, x6⟩, -⟩ := hC.seven
  go_wp2_with fail
  refine (rpush_any wi 2 w8 HO8.out (by rw [HL8.out]; omega) (by omega) (by omega) (by show wi < 65536; omega)).mono ?_
  rintro e w9 ⟨v9, rfl, ho9, hg⟩
  have HW9 := Lib.hid (ho9.base (b := B1) (by have := HB1.out; have := hz3; have := hz4; have := hz5; have := hz6; have := hz7; have := hz8; omega))
  replace hG := hG.step hg
  replace hC := hC.gr hg
  have hz9 := Gr.size hg
  clear hg x0 x1 x2 x3 x4 x5 x6
  obtain ⟨l9, hl9⟩ : ∃ m, m = l8 ++ bput wi 2 := ⟨_, rfl⟩
  rw [← hl9] at ho9
  have HL9 := Lib.hid (show l9.length = 16 by rw [hl9]; simp [bput_len, HL8.out])
  have HE9 := Lib.hid hl9
  have HO9 := Lib.hid ho9.rb.any
  obtain ⟨a9, c9, rfl, -, -⟩ := ho9.rb.form
  rw [HL9.out] at HO9 ⊢
  clear hl9 ho9
  rw [← HE9.out, HL9.out] at HW9
  obtain ⟨⟨x0, x1, x2, x3, x4, x5, x6⟩, -⟩ := hC.seven
  go_wp2_with fail
  clear x0 x1 x2 x3 x4 x5 x6
  have hS : (fun W => Gr w W ∧ CL W g0 [.int .i64 sp, .int .i64 dp, .int .i64 sq, .int .i64 ak, .int .i64 fl, .int .i64 wi, .slice av N cv]) w9.drew := ⟨hG.step (Gr.drew (Gr.refl _)), hC.gr (Gr.drew (Gr.refl _))⟩
  refine region_plain (fun W => Gr w W ∧ CL W g0 [.int .i64 sp, .int .i64 dp, .int .i64 sq, .int .i64 ak, .int .i64 fl, .int .i64 wi, .slice av N cv]) (by kernel_rfl) ?_
  have hbz : B1 ≤ w9.drew.heap.size := by have := HB1.out; have := hz3; have := hz4; have := hz5; have := hz6; have := hz7; have := hz8; have := hz9; have := Gr.size (Gr.drew (Gr.refl w9)); omega
  replace HW9 := Lib.hid (HW9.out.gr (Gr.drew (Gr.refl _)))
  generalize w9.drew = wq at hS HW9 hbz ⊢
  refine take_at 0 (some 73) (v := ?vn0) rfl rfl (by kernel_rfl) (by kernel_rfl) (by kernel_rfl) (by rfl) ?yn0 hS ?tn0
  case yn0 =>
    intro w' hSw
    obtain ⟨⟨x0, x1, x2, x3, x4, x5, x6⟩, -⟩ := hSw.2.seven
    go_simp
    (try with_reducible rfl)
  simp only [Act.put, List.setIfInBounds_toArray, List.set_cons_zero, List.set_cons_succ]
  refine take_at 3 (some 76) (v := ?vn3) rfl rfl (by kernel_rfl) (by kernel_rfl) (by kernel_rfl) (by rfl) ?yn3 hS ?tn3
  case yn3 =>
    intro w' hSw
    obtain ⟨⟨x0, x1, x2, x3, x4, x5, x6⟩, -⟩ := hSw.2.seven
    go_simp
    (try with_reducible rfl)
  simp only [Act.put, List.setIfInBounds_toArray, List.set_cons_zero, List.set_cons_succ]
  refine take_at 4 (some 77) (v := ?vn4) rfl rfl (by kernel_rfl) (by kernel_rfl) (by kernel_rfl) (by rfl) ?yn4 hS ?tn4
  case yn4 =>
    intro w' hSw
    obtain ⟨⟨x0, x1, x2, x3, x4, x5, x6⟩, -⟩ := hSw.2.seven
    go_simp
    (try with_reducible rfl)
  simp only [Act.put, List.setIfInBounds_toArray, List.set_cons_zero, List.set_cons_succ]
  refine next_at 1 rfl (by kernel_rfl) (by rfl) (fun K hK => ?_)
  go_simp
  have hZ : OwB wq.heap.size (wq.alloc (.cells #[.int .u8 0, .int .u8 0, .int .u8 0, .int .u8 0] 5)) (.slice (some ⟨wq.heap.size, 0, none⟩) 4 4) [0, 0, 0, 0] := owb_lit wq [0, 0, 0, 0] (by simp) (by intro x hx; simp at hx; omega)
  have hg := Gr.alloc (Gr.refl wq) (.cells #[.int .u8 0, .int .u8 0, .int .u8 0, .int .u8 0] 5)
  have hSn : (fun W => Gr w W ∧ CL W g0 [.int .i64 sp, .int .i64 dp, .int .i64 sq, .int .i64 ak, .int .i64 fl, .int .i64 wi, .slice av N cv]) _ := ⟨hS.1.step hg, hS.2.gr hg⟩
  replace HW9 := Lib.hid (HW9.out.gr hg)
  have HZ := Lib.hid hZ.rb
  replace hbz := Nat.le_trans hbz (Gr.size hg)
  refine hK _ _ hSn ?_
  clear hK K hS hg hZ
  have hS := hSn
  clear hSn
  generalize wq.alloc (.cells #[.int .u8 0, .int .u8 0, .int .u8 0, .int .u8 0] 5) = wr at hS HW9 HZ hbz ⊢
  generalize wq.heap.size = gz at HZ ⊢
  refine next_at 2 rfl (by kernel_rfl) (by rfl) (fun K hK => ?_)
  refine oper_app (base := B1) _ _ rfl rfl HW9.out rfl HZ.out (by rw [HL9.out]; simp) hbz ?_
  intro vs ws hos gs
  have hSn : (fun W => Gr w W ∧ CL W g0 [.int .i64 sp, .int .i64 dp, .int .i64 sq, .int .i64 ak, .int .i64 fl, .int .i64 wi, .slice av N cv]) ws := ⟨hS.1.grownNew gs (fun k hk => by have := HW9.out.above k hk; have := HB1.out; omega), hS.2.grown gs (fun e => by have := HW9.out.above _ e; have := HB1.out; omega)⟩
  have hbs := Nat.le_trans hbz gs.size
  obtain ⟨ls, hls⟩ : ∃ m, m = l9 ++ [0, 0, 0, 0] := ⟨_, rfl⟩
  rw [← hls] at hos
  have HLS := Lib.hid (show ls.length = 20 by rw [hls, List.length_append, HL9.out]; rfl)
  have HES := Lib.hid hls
  have HOS := Lib.hid hos
  obtain ⟨az, cz, rfl, -, -⟩ := hos.rb.form
  rw [HLS.out] at HOS ⊢
  refine hK _ _ hSn ?_
  simp only [Act.put, List.setIfInBounds_toArray, List.set_cons_zero, List.set_cons_succ]
  clear hK K hS HZ gs hos hls hbz
  have hS := hSn
  clear hSn
  refine next_at 5 rfl (by kernel_rfl) (by rfl) (fun K hK => ?_)
  refine oper_app (base := B1) _ _ rfl rfl HOS.out rfl (HR.out.gr hS.1) (by rw [HLS.out, ← HN.out]; omega) hbs ?_
  intro vt wt hot gt
  have hSn : (fun W => Gr w W ∧ CL W g0 [.int .i64 sp, .int .i64 dp, .int .i64 sq, .int .i64 ak, .int .i64 fl, .int .i64 wi, .slice av N cv]) wt := ⟨hS.1.grownNew gt (fun k hk => by have := HOS.out.above k hk; have := HB1.out; omega), hS.2.grown gt (fun e => by have := HOS.out.above _ e; have := HB1.out; omega)⟩
  obtain ⟨la, hla⟩ : ∃ m, m = ls ++ d := ⟨_, rfl⟩
  rw [← hla] at hot
  have HLN := Lib.hid (show la.length = NU by rw [hla, List.length_append, HLS.out, ← HN.out, HU.out]; omega)
  have HLA := Lib.hid hla
  have HOA := Lib.hid hot.rb
  obtain ⟨aa, ca, rfl, -, -⟩ := hot.rb.form
  rw [HLN.out] at HOA ⊢
  refine hK _ _ hSn ?_
  simp only [Act.put, List.setIfInBounds_toArray, List.set_cons_zero, List.set_cons_succ]
  clear hK K hS gt hot hla hbs
  have hS := hSn
  clear hSn
  refine next_at 6 rfl (by kernel_rfl) (by rfl) (fun K hK => ?_)
  go_simp
  refine hK _ _ hS ?_
  clear hK K
  refine wpAnyH_done (by kernel_rfl) ?_ _
  refine qz_normal ?_
  have hGt := hS.1
  clear hS hC hG
  have HEq : Hid (la = tcpA sp dp sq ak fl wi ++ bput 0 2 ++ tcpZ d) := Lib.hid (by rw [HLA.out, HES.out, HE9.out, HE8.out, HE7.out, HE6.out, HE5.out, HE4.out, HE3.out]; simp only [tcpA, tcpZ, List.nil_append, List.append_assoc]; rfl)
  have HPS := Lib.hid (r6pseudo_any src dst 6 wt HOA.out (by rw [HLN.out]; omega) hs hd)
  rw [show pcE src dst 6 la = sP src dst 6 la from rfl] at HPS
  have hle := sP_le src dst 6 la
  have HF := Lib.hid (fin_set (S := sP src dst 6) (i := 16) HEq.out (by simp [tcpA, bput_len]))
  generalize sP src dst 6 la = q at *
  go_wp2_with fail
  refine HPS.out.mono ?_
  rintro e wu ⟨rfl, hg⟩
  have HS := Lib.hid (r6put_any 16 q wu (HOA.out.gr hg) (by rw [HLN.out]; omega) (by rw [HLN.out, HU.out]; omega) (by omega))
  rw [HF.out] at HS
  clear HF
  go_wp2_with fail
  refine HS.out.mono ?_
  rintro e wc ⟨vc, rfl, hoc, hgc⟩
  have hoc := hoc.base (Gr.size (hGt.step hg))
  go_wp2_with fail
  go_ret2
  exact ⟨_, rfl, hoc, (hGt.step hg).step hgc⟩
end Go.Proofs.YtkpejaiigopmgaaGreatDoor
