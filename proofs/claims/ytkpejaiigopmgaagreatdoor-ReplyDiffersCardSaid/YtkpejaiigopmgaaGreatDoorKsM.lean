/- The package transport: Pseudo, the sums, messages with their checksum. -/
import Derived.Test.YtkpejaiigopmgaaGreatDoorGC
import Derived.Test.YtkpejaiigopmgaaGreatDoorGB
import Derived.WalkKit
import Derived.WalkSpells
import Derived.WalkLawsBesides
import Derived.WalkSmall
import Derived.Handy
import Derived.BigQuiet
import Derived.Deep.QuietTactic
import Derived.Deep.RegionHeld3
import Derived.Deep.DeepFit
import Derived.Below
import Derived.Lib.Hide
import Derived.Lib.QuietBelow
namespace Go.Proofs.YtkpejaiigopmgaaGreatDoor
open Go Go.RowKit Go.Sort
set_option maxRecDepth 100000
set_option linter.unusedVariables false
theorem fit_one {T : TypeId} (k : Nat) (x : Int) (w : World) (hk0 : 1 ≤ k) (hk1 : k ≤ 7) (c : Bool) (hc : c = decide (0 ≤ x ∧ x < (256 ^ k : Nat))) :
    Calls Tryz.prog 55 #[.int .i64 k, .slice (some ⟨w.heap.size, 0, none⟩) 1 1] (w.alloc (.cells #[.int .i64 x] T)) fun e w' => e = .returned (.bool c) ∧ Gr w w' := by
  refine (fit_any w.heap.size 1 k [x] _ (CL.new w (ints [x]) T _ rfl) hk0 hk1 (by simp) c (by rw [hc]; congr 1; simp [fitB])).mono ?_
  rintro e w' ⟨rfl, rfl⟩
  exact ⟨rfl, (Gr.refl w).alloc _⟩
/-- numbers put -/
def PutP (w : World) (l : List Nat) (e : Ending) (w' : World) : Prop := ∃ v', e = .returned v' ∧ OwB w.heap.size w' v' l ∧ Gr w w'
theorem put_one {p : Nat → Prop} {v : Value} {l : List Nat} {T : TypeId} (n k : Nat) (w : World) (h : Rb p w v l) (hl : l.length ≤ 50000) (hk0 : 1 ≤ k) (hk1 : k ≤ 7) (hn : n < 256 ^ k) :
    Calls Tryz.prog 57 #[v, .int .i64 k, .slice (some ⟨w.heap.size, 0, none⟩) 1 1] (w.alloc (.cells #[.int .i64 n] T)) (PutP w (l ++ bput n k)) := by
  refine (tput_any w.heap.size 1 k [n] _ (h.gr (Gr.alloc (Gr.refl _) _)) hl (CL.new w (ints (nats [n])) T _ rfl) hk0 hk1 (by simp) (by simp) (by simpa using hn)).mono ?_
  rintro e w' ⟨v', rfl, ho, hg⟩
  refine ⟨v', rfl, ?_, (Gr.alloc (Gr.refl w) _).step hg⟩
  have := ho.base (b := w.heap.size) (by simp)
  rw [bputs, List.flatMap_singleton] at this
  exact this
theorem put_two {p : Nat → Prop} {v : Value} {l : List Nat} {T : TypeId} (m n k : Nat) (w : World) (h : Rb p w v l) (hl : l.length ≤ 50000) (hk0 : 1 ≤ k) (hk1 : k ≤ 7) (hm : m < 256 ^ k) (hn : n < 256 ^ k) :
    Calls Tryz.prog 57 #[v, .int .i64 k, .slice (some ⟨w.heap.size, 0, none⟩) 2 2] (w.alloc (.cells #[.int .i64 m, .int .i64 n] T)) (PutP w (l ++ (bput m k ++ bput n k))) := by
  refine (tput_any w.heap.size 2 k [m, n] _ (h.gr (Gr.alloc (Gr.refl _) _)) hl (CL.new w (ints (nats [m, n])) T _ rfl) hk0 hk1 (by simp) (by simp) (by intro x hx; simp at hx; rcases hx with rfl | rfl <;> assumption)).mono ?_
  rintro e w' ⟨v', rfl, ho, hg⟩
  refine ⟨v', rfl, ?_, (Gr.alloc (Gr.refl w) _).step hg⟩
  have := ho.base (b := w.heap.size) (by simp)
  rw [bputs, List.flatMap_cons, List.flatMap_singleton] at this
  exact this
theorem concat_new {p q : Nat → Prop} {v1 v2 : Value} {l1 l2 : List Nat} {T : TypeId} (w : World) (h1 : Rb p w v1 l1) (h2 : Rb q w v2 l2) (hl1 : l1.length ≤ 40000) (hl2 : l2.length ≤ 40000) (h0 : 0 < l1.length) :
    Calls Tryz.prog 58 #[.slice (some ⟨w.heap.size, 0, none⟩) 2 2] (w.alloc (.cells #[v1, v2] T)) (PutP w (l1 ++ l2)) := by
  refine (concat_two w.heap.size 2 _ (h1.gr (Gr.alloc (Gr.refl _) _)) (h2.gr (Gr.alloc (Gr.refl _) _)) hl1 hl2 h0 (by simp) (by simp)).mono ?_
  rintro e w' ⟨v', rfl, ho, hg⟩
  exact ⟨v', rfl, ho.base (by simp), (Gr.alloc (Gr.refl w) _).step hg⟩
theorem wchk_nat {p : Nat → Prop} {v : Value} {l : List Nat} (w : World) (h : Rb p w v l) (hl : l.length ≤ 100000) :
    Calls Tryz.prog 59 #[v] w fun e w' => e = .returned (.int .i64 (s0 l : Nat)) ∧ w = w' := by
  refine (wchk_any w h hl).mono ?_
  rintro e w' ⟨rfl, rfl⟩
  refine ⟨ret_int ?_, rfl⟩
  have := oc_le (wsum false l)
  unfold s0; omega
def pcE (src dst : Nat) (proto : Int) (l : List Nat) : Nat := if 0 ≤ proto ∧ proto < 256 then sP src dst proto.toNat l else 0
set_option maxHeartbeats 2000000 in
theorem pseudo_any {p : Nat → Prop} {v : Value} {l : List Nat} (src dst : Nat) (proto : Int) (w : World) (h : Rb p w v l) (hl : l.length ≤ 30000) (hs : src < 4294967296) (hd : dst < 4294967296) :
    Calls Tryz.prog 85 #[.int .u32 src, .int .u32 dst, .int .i64 proto, v] w fun e w' => e = .returned (.int .i64 (pcE src dst proto l : Nat)) ∧ Gr w w' := by
  have HR := Lib.hid h
  obtain ⟨av, cv, rfl, -, -⟩ := h.form
  by_cases hp : 0 ≤ proto ∧ proto < 256
  · have H := Lib.hid (show pcE src dst proto l = sP src dst proto.toNat l from if_pos hp)
    obtain ⟨P, rfl⟩ := Int.eq_ofNat_of_zero_le hp.1
    have hP : P < 256 := by omega
    rw [Int.toNat_natCast] at H
    obtain ⟨N, hN⟩ : ∃ N, N = l.length := ⟨_, rfl⟩
    have HN := Lib.hid hN
    have hN2 : N ≤ 30000 := by omega
    have HL := Lib.hid hl
    rw [← hN] at HR ⊢
    clear h hl hN hp
    have eW1 : IntKind.i64.wrap (src : Int) = (src : Int) := by rw [IntWalk.i64_in _ (by omega)]
    have eW2 : IntKind.i64.wrap (dst : Int) = (dst : Int) := by rw [IntWalk.i64_in _ (by omega)]
    go_enter Tryz.func85, Tryz.ntmps85
    go_wp2_with fail
    refine (fit_one 1 (P : Int) _ (by omega) (by omega) true (by symm; rw [decide_eq_true_eq]; show 0 ≤ (P : Int) ∧ (P : Int) < 256; omega)).mono ?_
    rintro e w1 ⟨rfl, hg1⟩
    go_wp2_with fail
    refine (fit_one 2 (N : Int) _ (by omega) (by omega) true (by symm; rw [decide_eq_true_eq]; show 0 ≤ (N : Int) ∧ (N : Int) < 65536; omega)).mono ?_
    rintro e w2 ⟨rfl, hg2⟩
    replace hg2 := hg1.step hg2
    clear hg1
    go_wp2_with fail
    refine (put_two src dst 4 _ (Rb.nil (fun _ => True) _) (by simp) (by omega) (by omega) (by show src < 4294967296; omega) (by show dst < 4294967296; omega)).mono ?_
    rintro e w3 ⟨v3, rfl, ho3, hg3⟩
    replace hg3 := hg2.step hg3
    obtain ⟨l3, hl3⟩ : ∃ m, m = [] ++ (bput src 4 ++ bput dst 4) := ⟨_, rfl⟩
    rw [← hl3] at ho3
    have HL3 := Lib.hid (show l3.length = 8 by rw [hl3]; simp [bput_len])
    have HE3 := Lib.hid hl3
    have HO3 := Lib.hid ho3.rb.any
    obtain ⟨a3, c3, rfl, -, -⟩ := ho3.rb.form
    rw [HL3.out] at HO3 ⊢
    clear hl3 ho3
    clear hg2
    go_wp2_with fail
    refine (put_two 0 P 1 _ HO3.out (by rw [HL3.out]; omega) (by omega) (by omega) (by decide) (by show P < 256; omega)).mono ?_
    rintro e w4 ⟨v4, rfl, ho4, hg4⟩
    replace hg4 := hg3.step hg4
    obtain ⟨l4, hl4⟩ : ∃ m, m = l3 ++ (bput 0 1 ++ bput P 1) := ⟨_, rfl⟩
    rw [← hl4] at ho4
    have HL4 := Lib.hid (show l4.length = 10 by rw [hl4]; simp [bput_len, HL3.out])
    have HE4 := Lib.hid hl4
    have HO4 := Lib.hid ho4.rb.any
    obtain ⟨a4, c4, rfl, -, -⟩ := ho4.rb.form
    rw [HL4.out] at HO4 ⊢
    clear hl4 ho4
    clear hg3
    go_wp2_with fail
    refine (put_one N 2 _ HO4.out (by rw [HL4.out]; omega) (by omega) (by omega) (by show N < 65536; omega)).mono ?_
    rintro e w5 ⟨v5, rfl, ho5, hg5⟩
    replace hg5 := hg4.step hg5
    obtain ⟨l5, hl5⟩ : ∃ m, m = l4 ++ bput N 2 := ⟨_, rfl⟩
    rw [← hl5] at ho5
    have HL5 := Lib.hid (show l5.length = 12 by rw [hl5]; simp [bput_len, HL4.out])
    have HE5 := Lib.hid hl5
    have HO5 := Lib.hid ho5.rb.any
    obtain ⟨a5, c5, rfl, -, -⟩ := ho5.rb.form
    rw [HL5.out] at HO5 ⊢
    clear hl5 ho5
    clear hg4
    go_wp2_with fail
    refine (concat_new _ HO5.out (HR.out.gr hg5) (by rw [HL5.out]; omega) (by have := HL.out; omega) (by rw [HL5.out]; omega)).mono ?_
    rintro e w6 ⟨v6, rfl, ho6, hg6⟩
    replace hg6 := hg5.step hg6
    obtain ⟨M, hM⟩ : ∃ M, M = 12 + N := ⟨_, rfl⟩
    have hM2 : M ≤ 30012 := by omega
    obtain ⟨l6, hl6⟩ : ∃ m, m = l5 ++ l := ⟨_, rfl⟩
    rw [← hl6] at ho6
    have HL6 := Lib.hid (show l6.length = M by rw [hl6]; rw [List.length_append, HL5.out, hM, HN.out])
    have HE6 := Lib.hid hl6
    have HO6 := Lib.hid ho6.rb.any
    obtain ⟨a6, c6, rfl, -, -⟩ := ho6.rb.form
    rw [HL6.out] at HO6 ⊢
    clear hl6 ho6
    clear hM
    have HC := Lib.hid (wchk_nat w6 HO6.out (by rw [HL6.out]; omega))
    go_wp2_with fail
    refine HC.out.mono ?_
    rintro e w7 ⟨rfl, rfl⟩
    go_wp2_with fail
    go_ret
    refine ⟨ret_int ?_, hg6⟩
    rw [H.out, HE6.out, HE5.out, HE4.out, HE3.out, HN.out]
    rfl
  · have H := Lib.hid (show pcE src dst proto l = 0 from if_neg hp)
    have HP := Lib.hid hp
    clear h hp
    go_enter Tryz.func85, Tryz.ntmps85
    go_wp2_with fail
    refine (fit_one 1 proto _ (by omega) (by omega) false (by symm; rw [decide_eq_false_iff_not]; exact HP.out)).mono ?_
    rintro e w1 ⟨rfl, hg1⟩
    go_wp2_with fail
    go_ret
    exact ⟨ret_int (by rw [H.out]; rfl), hg1⟩
/-- the address pair that a sum has kept -/
structure Caps (w : World) (ga gb src dst : Nat) : Prop where
  a : w.cell? ⟨ga, 0, none⟩ = some (.int .u32 src)
  b : w.cell? ⟨gb, 0, none⟩ = some (.int .u32 dst)
  s : src < 4294967296
  d : dst < 4294967296
theorem Caps.gr {w w' : World} {ga gb src dst : Nat} (h : Caps w ga gb src dst) (g : Gr w w') : Caps w' ga gb src dst :=
  ⟨by rw [(Gr.cells g).1 _ _ (World.block_lt_of_cell? _ _ h.a)]; exact h.a, by rw [(Gr.cells g).1 _ _ (World.block_lt_of_cell? _ _ h.b)]; exact h.b, h.s, h.d⟩
theorem tsum_any {p : Nat → Prop} {v : Value} {l : List Nat} (ga gb src dst : Nat) (w : World) (k : Caps w ga gb src dst) (h : Rb p w v l) (hl : l.length ≤ 30000) :
    Calls Tryz.prog 101 #[v, .pointer (some ⟨ga, 0, none⟩), .pointer (some ⟨gb, 0, none⟩)] w fun e w' => e = .returned (.int .i64 (sP src dst 6 l : Nat)) ∧ Gr w w' := by
  have HP := Lib.hid (fun w' (g : Gr w w') => pseudo_any src dst 6 w' (h.gr g) hl k.s k.d)
  have hc1 := k.a
  have hc2 := k.b
  obtain ⟨a, c, rfl, -, -⟩ := h.form
  clear h hl k
  go_enter Tryz.func101, Tryz.ntmps101
  go_wp2_with fail
  refine (HP.out _ (by first | exact Gr.refl _ | exact Gr.drew (Gr.refl _))).mono ?_
  rintro e w1 ⟨rfl, hg⟩
  go_wp2_with fail
  go_ret
  exact ⟨rfl, hg⟩
theorem usum_any {p : Nat → Prop} {v : Value} {l : List Nat} (ga gb src dst : Nat) (w : World) (k : Caps w ga gb src dst) (h : Rb p w v l) (hl : l.length ≤ 30000) :
    Calls Tryz.prog 84 #[v, .pointer (some ⟨ga, 0, none⟩), .pointer (some ⟨gb, 0, none⟩)] w fun e w' => e = .returned (.int .i64 (sU src dst l : Nat)) ∧ Gr w w' := by
  have HP := Lib.hid (fun w' (g : Gr w w') => pseudo_any src dst 17 w' (h.gr g) hl k.s k.d)
  have HE : Hid (pcE src dst 17 l = sP src dst 17 l) := Lib.hid rfl
  have hc1 := k.a
  have hc2 := k.b
  obtain ⟨a, c, rfl, -, -⟩ := h.form
  clear h hl k
  rw [HE.out] at HP
  have HU : Hid (sU src dst l = if sP src dst 17 l = 0 then 65535 else sP src dst 17 l) := Lib.hid rfl
  have HLE := Lib.hid (sP_le src dst 17 l)
  generalize sU src dst l = R at *
  generalize sP src dst 17 l = s at *
  have hs := HLE.out
  by_cases h0 : s = 0
  · have d1 : (((s : Nat) : Int) == 0) = true := by simpa using h0
    have HX := Lib.hid (HU.out.trans (if_pos h0))
    clear h0 HU
    go_enter Tryz.func84, Tryz.ntmps84
    go_wp2_with fail
    refine (HP.out _ (by first | exact Gr.refl _ | exact Gr.drew (Gr.refl _))).mono ?_
    rintro e w1 ⟨rfl, hg⟩
    go_wp2_with fail
    go_ret
    exact ⟨ret_int (by rw [HX.out]; rfl), hg⟩
  · have d1 : (((s : Nat) : Int) == 0) = false := by simpa using h0
    have HX := Lib.hid (HU.out.trans (if_neg h0))
    clear h0 HU
    go_enter Tryz.func84, Tryz.ntmps84
    go_wp2_with fail
    refine (HP.out _ (by first | exact Gr.refl _ | exact Gr.drew (Gr.refl _))).mono ?_
    rintro e w1 ⟨rfl, hg⟩
    go_wp2_with fail
    go_ret
    exact ⟨ret_int (by rw [HX.out]), hg⟩
theorem wchk_gr {p : Nat → Prop} {v : Value} {l : List Nat} (w : World) (h : Rb p w v l) (hl : l.length ≤ 100000) :
    Calls Tryz.prog 59 #[v] w fun e w' => e = .returned (.int .i64 (s0 l : Nat)) ∧ Gr w w' := by
  refine (wchk_nat w h hl).mono ?_
  rintro e w' ⟨rfl, rfl⟩
  exact ⟨rfl, Gr.refl _⟩
set_option maxHeartbeats 2000000 in
theorem summed_0 {p q : Nat → Prop} {v1 v2 : Value} {a z : List Nat} (w : World) (h1 : Rb p w v1 a) (h2 : Rb q w v2 z) (hl1 : a.length ≤ 2000) (hl2 : z.length ≤ 2000) :
    Calls Tryz.prog 56 #[v1, v2, .func (.func 59) #[] #[]] w (PutP w (msg s0 a z)) := by
  have HA := Lib.hid h1
  have HZ := Lib.hid h2
  obtain ⟨a1, c1, rfl, -, -⟩ := h1.form
  obtain ⟨a2, c2, rfl, -, -⟩ := h2.form
  obtain ⟨A, hA⟩ : ∃ A, A = a.length := ⟨_, rfl⟩
  obtain ⟨Z, hZ⟩ : ∃ Z, Z = z.length := ⟨_, rfl⟩
  have HLA := Lib.hid hA
  have HLZ := Lib.hid hZ
  rw [← hA] at HA ⊢
  rw [← hZ] at HZ ⊢
  rw [← hA] at hl1
  rw [← hZ] at hl2
  obtain ⟨M, hM⟩ : ∃ M, M = A + 2 := ⟨_, rfl⟩
  obtain ⟨N, hN⟩ : ∃ N, N = A + 2 + Z := ⟨_, rfl⟩
  have HLM := Lib.hid hM
  have HLN := Lib.hid hN
  have hM2 : M ≤ 2002 := by omega
  have hN2 : N ≤ 4002 := by omega
  clear h1 h2 hA hZ hM hN
  go_enter Tryz.func56, Tryz.ntmps56
  go_wp2_with fail
  refine (put_one 0 2 _ HA.out (by rw [← HLA.out]; omega) (by omega) (by omega) (by decide)).mono ?_
  rintro e w1 ⟨v1, rfl, ho1, hg1⟩
  obtain ⟨l1, hl1⟩ : ∃ m, m = a ++ bput 0 2 := ⟨_, rfl⟩
  rw [← hl1] at ho1
  have HL1 := Lib.hid (show l1.length = M by rw [hl1]; rw [List.length_append, bput_len, ← HLA.out, HLM.out])
  have HE1 := Lib.hid hl1
  have HO1 := Lib.hid ho1.rb.any
  obtain ⟨a1, c1, rfl, -, -⟩ := ho1.rb.form
  rw [HL1.out] at HO1 ⊢
  clear hl1 ho1
  go_wp2_with fail
  refine (concat_new _ HO1.out (HZ.out.gr hg1) (by rw [HL1.out]; omega) (by rw [← HLZ.out]; omega) (by rw [HL1.out, HLM.out]; omega)).mono ?_
  rintro e w2 ⟨v2, rfl, ho2, hg2⟩
  replace hg2 := hg1.step hg2
  obtain ⟨l2, hl2⟩ : ∃ m, m = l1 ++ z := ⟨_, rfl⟩
  rw [← hl2] at ho2
  have HL2 := Lib.hid (show l2.length = N by rw [hl2]; rw [List.length_append, HL1.out, ← HLZ.out, HLM.out, HLN.out])
  have HE2 := Lib.hid hl2
  have HO2 := Lib.hid ho2.rb.any
  obtain ⟨a2, c2, rfl, -, -⟩ := ho2.rb.form
  rw [HL2.out] at HO2 ⊢
  clear hl2 ho2
  clear hg1
  have HS := Lib.hid (wchk_gr w2 HO2.out (by rw [HL2.out]; omega))
  go_wp2_with fail
  refine HS.out.mono ?_
  rintro e w3 ⟨rfl, hg3⟩
  replace hg3 := hg2.step hg3
  have HT := Lib.hid (s0_le l2)
  have HE : Hid (s0 l2 = s0 (a ++ bput 0 2 ++ z)) := Lib.hid (by rw [HE2.out, HE1.out])
  clear hg2
  generalize s0 l2 = s at *
  have hT := HT.out
  go_wp2_with fail
  refine (put_one s 2 _ (HA.out.gr hg3) (by rw [← HLA.out]; omega) (by omega) (by omega) (by show s < 65536; omega)).mono ?_
  rintro e w4 ⟨v4, rfl, ho4, hg4⟩
  replace hg4 := hg3.step hg4
  obtain ⟨l4, hl4⟩ : ∃ m, m = a ++ bput s 2 := ⟨_, rfl⟩
  rw [← hl4] at ho4
  have HL4 := Lib.hid (show l4.length = M by rw [hl4]; rw [List.length_append, bput_len, ← HLA.out, HLM.out])
  have HE4 := Lib.hid hl4
  have HO4 := Lib.hid ho4.rb.any
  obtain ⟨a4, c4, rfl, -, -⟩ := ho4.rb.form
  rw [HL4.out] at HO4 ⊢
  clear hl4 ho4
  clear hg3
  have hsz := Gr.size hg4
  go_wp2_with fail
  refine (concat_new _ HO4.out (HZ.out.gr hg4) (by rw [HL4.out]; omega) (by rw [← HLZ.out]; omega) (by rw [HL4.out, HLM.out]; omega)).mono ?_
  rintro e w5 ⟨v5, rfl, ho5, hg5⟩
  replace ho5 := ho5.base hsz
  rw [HE4.out, HE.out] at ho5
  replace hg5 := hg4.step hg5
  go_wp2_with fail
  go_ret
  exact ⟨_, rfl, ho5, hg5⟩
set_option maxHeartbeats 2000000 in
theorem summed_P {p q : Nat → Prop} {v1 v2 : Value} {a z : List Nat} (ga gb src dst : Nat) (w : World) (k : Caps w ga gb src dst) (h1 : Rb p w v1 a) (h2 : Rb q w v2 z) (hl1 : a.length ≤ 2000) (hl2 : z.length ≤ 2000) :
    Calls Tryz.prog 56 #[v1, v2, .func (.func 101) #[] #[.pointer (some ⟨ga, 0, none⟩), .pointer (some ⟨gb, 0, none⟩)]] w (PutP w (msg (sP src dst 6) a z)) := by
  have HCP := Lib.hid k
  clear k
  have HA := Lib.hid h1
  have HZ := Lib.hid h2
  obtain ⟨a1, c1, rfl, -, -⟩ := h1.form
  obtain ⟨a2, c2, rfl, -, -⟩ := h2.form
  obtain ⟨A, hA⟩ : ∃ A, A = a.length := ⟨_, rfl⟩
  obtain ⟨Z, hZ⟩ : ∃ Z, Z = z.length := ⟨_, rfl⟩
  have HLA := Lib.hid hA
  have HLZ := Lib.hid hZ
  rw [← hA] at HA ⊢
  rw [← hZ] at HZ ⊢
  rw [← hA] at hl1
  rw [← hZ] at hl2
  obtain ⟨M, hM⟩ : ∃ M, M = A + 2 := ⟨_, rfl⟩
  obtain ⟨N, hN⟩ : ∃ N, N = A + 2 + Z := ⟨_, rfl⟩
  have HLM := Lib.hid hM
  have HLN := Lib.hid hN
  have hM2 : M ≤ 2002 := by omega
  have hN2 : N ≤ 4002 := by omega
  clear h1 h2 hA hZ hM hN
  go_enter Tryz.func56, Tryz.ntmps56
  go_wp2_with fail
  refine (put_one 0 2 _ HA.out (by rw [← HLA.out]; omega) (by omega) (by omega) (by decide)).mono ?_
  rintro e w1 ⟨v1, rfl, ho1, hg1⟩
  obtain ⟨l1, hl1⟩ : ∃ m, m = a ++ bput 0 2 := ⟨_, rfl⟩
  rw [← hl1] at ho1
  have HL1 := Lib.hid (show l1.length = M by rw [hl1]; rw [List.length_append, bput_len, ← HLA.out, HLM.out])
  have HE1 := Lib.hid hl1
  have HO1 := Lib.hid ho1.rb.any
  obtain ⟨a1, c1, rfl, -, -⟩ := ho1.rb.form
  rw [HL1.out] at HO1 ⊢
  clear hl1 ho1
  go_wp2_with fail
  refine (concat_new _ HO1.out (HZ.out.gr hg1) (by rw [HL1.out]; omega) (by rw [← HLZ.out]; omega) (by rw [HL1.out, HLM.out]; omega)).mono ?_
  rintro e w2 ⟨v2, rfl, ho2, hg2⟩
  replace hg2 := hg1.step hg2
  obtain ⟨l2, hl2⟩ : ∃ m, m = l1 ++ z := ⟨_, rfl⟩
  rw [← hl2] at ho2
  have HL2 := Lib.hid (show l2.length = N by rw [hl2]; rw [List.length_append, HL1.out, ← HLZ.out, HLM.out, HLN.out])
  have HE2 := Lib.hid hl2
  have HO2 := Lib.hid ho2.rb.any
  obtain ⟨a2, c2, rfl, -, -⟩ := ho2.rb.form
  rw [HL2.out] at HO2 ⊢
  clear hl2 ho2
  clear hg1
  have HS := Lib.hid (tsum_any ga gb src dst w2 (HCP.out.gr hg2) HO2.out (by rw [HL2.out]; omega))
  go_wp2_with fail
  refine HS.out.mono ?_
  rintro e w3 ⟨rfl, hg3⟩
  replace hg3 := hg2.step hg3
  have HT := Lib.hid (sP_le src dst 6 l2)
  have HE : Hid (sP src dst 6 l2 = sP src dst 6 (a ++ bput 0 2 ++ z)) := Lib.hid (by rw [HE2.out, HE1.out])
  clear hg2
  generalize sP src dst 6 l2 = s at *
  have hT := HT.out
  go_wp2_with fail
  refine (put_one s 2 _ (HA.out.gr hg3) (by rw [← HLA.out]; omega) (by omega) (by omega) (by show s < 65536; omega)).mono ?_
  rintro e w4 ⟨v4, rfl, ho4, hg4⟩
  replace hg4 := hg3.step hg4
  obtain ⟨l4, hl4⟩ : ∃ m, m = a ++ bput s 2 := ⟨_, rfl⟩
  rw [← hl4] at ho4
  have HL4 := Lib.hid (show l4.length = M by rw [hl4]; rw [List.length_append, bput_len, ← HLA.out, HLM.out])
  have HE4 := Lib.hid hl4
  have HO4 := Lib.hid ho4.rb.any
  obtain ⟨a4, c4, rfl, -, -⟩ := ho4.rb.form
  rw [HL4.out] at HO4 ⊢
  clear hl4 ho4
  clear hg3
  have hsz := Gr.size hg4
  go_wp2_with fail
  refine (concat_new _ HO4.out (HZ.out.gr hg4) (by rw [HL4.out]; omega) (by rw [← HLZ.out]; omega) (by rw [HL4.out, HLM.out]; omega)).mono ?_
  rintro e w5 ⟨v5, rfl, ho5, hg5⟩
  replace ho5 := ho5.base hsz
  rw [HE4.out, HE.out] at ho5
  replace hg5 := hg4.step hg5
  go_wp2_with fail
  go_ret
  exact ⟨_, rfl, ho5, hg5⟩
set_option maxHeartbeats 2000000 in
theorem summed_U {p q : Nat → Prop} {v1 v2 : Value} {a z : List Nat} (ga gb src dst : Nat) (w : World) (k : Caps w ga gb src dst) (h1 : Rb p w v1 a) (h2 : Rb q w v2 z) (hl1 : a.length ≤ 2000) (hl2 : z.length ≤ 2000) :
    Calls Tryz.prog 56 #[v1, v2, .func (.func 84) #[] #[.pointer (some ⟨ga, 0, none⟩), .pointer (some ⟨gb, 0, none⟩)]] w (PutP w (msg (sU src dst) a z)) := by
  have HCP := Lib.hid k
  clear k
  have HA := Lib.hid h1
  have HZ := Lib.hid h2
  obtain ⟨a1, c1, rfl, -, -⟩ := h1.form
  obtain ⟨a2, c2, rfl, -, -⟩ := h2.form
  obtain ⟨A, hA⟩ : ∃ A, A = a.length := ⟨_, rfl⟩
  obtain ⟨Z, hZ⟩ : ∃ Z, Z = z.length := ⟨_, rfl⟩
  have HLA := Lib.hid hA
  have HLZ := Lib.hid hZ
  rw [← hA] at HA ⊢
  rw [← hZ] at HZ ⊢
  rw [← hA] at hl1
  rw [← hZ] at hl2
  obtain ⟨M, hM⟩ : ∃ M, M = A + 2 := ⟨_, rfl⟩
  obtain ⟨N, hN⟩ : ∃ N, N = A + 2 + Z := ⟨_, rfl⟩
  have HLM := Lib.hid hM
  have HLN := Lib.hid hN
  have hM2 : M ≤ 2002 := by omega
  have hN2 : N ≤ 4002 := by omega
  clear h1 h2 hA hZ hM hN
  go_enter Tryz.func56, Tryz.ntmps56
  go_wp2_with fail
  refine (put_one 0 2 _ HA.out (by rw [← HLA.out]; omega) (by omega) (by omega) (by decide)).mono ?_
  rintro e w1 ⟨v1, rfl, ho1, hg1⟩
  obtain ⟨l1, hl1⟩ : ∃ m, m = a ++ bput 0 2 := ⟨_, rfl⟩
  rw [← hl1] at ho1
  have HL1 := Lib.hid (show l1.length = M by rw [hl1]; rw [List.length_append, bput_len, ← HLA.out, HLM.out])
  have HE1 := Lib.hid hl1
  have HO1 := Lib.hid ho1.rb.any
  obtain ⟨a1, c1, rfl, -, -⟩ := ho1.rb.form
  rw [HL1.out] at HO1 ⊢
  clear hl1 ho1
  go_wp2_with fail
  refine (concat_new _ HO1.out (HZ.out.gr hg1) (by rw [HL1.out]; omega) (by rw [← HLZ.out]; omega) (by rw [HL1.out, HLM.out]; omega)).mono ?_
  rintro e w2 ⟨v2, rfl, ho2, hg2⟩
  replace hg2 := hg1.step hg2
  obtain ⟨l2, hl2⟩ : ∃ m, m = l1 ++ z := ⟨_, rfl⟩
  rw [← hl2] at ho2
  have HL2 := Lib.hid (show l2.length = N by rw [hl2]; rw [List.length_append, HL1.out, ← HLZ.out, HLM.out, HLN.out])
  have HE2 := Lib.hid hl2
  have HO2 := Lib.hid ho2.rb.any
  obtain ⟨a2, c2, rfl, -, -⟩ := ho2.rb.form
  rw [HL2.out] at HO2 ⊢
  clear hl2 ho2
  clear hg1
  have HS := Lib.hid (usum_any ga gb src dst w2 (HCP.out.gr hg2) HO2.out (by rw [HL2.out]; omega))
  go_wp2_with fail
  refine HS.out.mono ?_
  rintro e w3 ⟨rfl, hg3⟩
  replace hg3 := hg2.step hg3
  have HT := Lib.hid (sU_le src dst l2)
  have HE : Hid (sU src dst l2 = sU src dst (a ++ bput 0 2 ++ z)) := Lib.hid (by rw [HE2.out, HE1.out])
  clear hg2
  generalize sU src dst l2 = s at *
  have hT := HT.out
  go_wp2_with fail
  refine (put_one s 2 _ (HA.out.gr hg3) (by rw [← HLA.out]; omega) (by omega) (by omega) (by show s < 65536; omega)).mono ?_
  rintro e w4 ⟨v4, rfl, ho4, hg4⟩
  replace hg4 := hg3.step hg4
  obtain ⟨l4, hl4⟩ : ∃ m, m = a ++ bput s 2 := ⟨_, rfl⟩
  rw [← hl4] at ho4
  have HL4 := Lib.hid (show l4.length = M by rw [hl4]; rw [List.length_append, bput_len, ← HLA.out, HLM.out])
  have HE4 := Lib.hid hl4
  have HO4 := Lib.hid ho4.rb.any
  obtain ⟨a4, c4, rfl, -, -⟩ := ho4.rb.form
  rw [HL4.out] at HO4 ⊢
  clear hl4 ho4
  clear hg3
  have hsz := Gr.size hg4
  go_wp2_with fail
  refine (concat_new _ HO4.out (HZ.out.gr hg4) (by rw [HL4.out]; omega) (by rw [← HLZ.out]; omega) (by rw [HL4.out, HLM.out]; omega)).mono ?_
  rintro e w5 ⟨v5, rfl, ho5, hg5⟩
  replace ho5 := ho5.base hsz
  rw [HE4.out, HE.out] at ho5
  replace hg5 := hg4.step hg5
  go_wp2_with fail
  go_ret
  exact ⟨_, rfl, ho5, hg5⟩
end Go.Proofs.YtkpejaiigopmgaaGreatDoor
