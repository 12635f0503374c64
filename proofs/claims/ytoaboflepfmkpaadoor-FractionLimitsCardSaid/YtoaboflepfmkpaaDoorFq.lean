/- The walk of the statement on limits. -/
import Derived.Test.YtoaboflepfmkpaaDoorFk
import Derived.Test.YtoaboflepfmkpaaDoorNfl
import Derived.WalkKit
import Derived.WalkSpells
import Derived.WalkLawsBesides
import Derived.WalkSmall
import Derived.Handy
import Derived.BigQuiet
import Derived.Deep.QuietTactic
import Derived.Deep.RegionHeld3
import Derived.Deep.DeepFit
import Derived.Below
import Derived.Lib.Hide
import Derived.Lib.QuietBelow
namespace Go.Proofs.YtoaboflepfmkpaaDoor
open Go Go.RowKit Go.Sort
set_option maxRecDepth 100000
theorem whole_num (N : Nat) : (rat false N 1).num.natAbs = N ∧ (rat false N 1).den = 1 := by
  rw [rat_num_abs (by omega), rat_den (by omega), Nat.gcd_one_right]
  exact ⟨Nat.div_one _, rfl⟩
theorem whole_neg (N : Nat) : decide ((rat false N 1).num < 0) = false := by rw [rat_neg (by omega)]; rfl
theorem whole_add (M N : Nat) : rat false M 1 + rat false N 1 = rat false (M + N) 1 := by rw [rat_add (by omega) (by omega), rat_same]; simp
theorem whole_mul (M N : Nat) : rat false M 1 * rat false N 1 = rat false (M * N) 1 := by rw [rat_mul]; rfl
theorem whole_sub {M N : Nat} (h : N ≤ M) : rat false M 1 - rat false N 1 = rat false (M - N) 1 := by
  have := whole_add (M - N) N
  rw [Nat.sub_add_cancel h] at this
  rw [← this, Rat.add_sub_cancel]
theorem whole_div {M : Nat} (h : 0 < M) : rat false M 1 / rat false M 1 = rat false 1 1 := by
  rw [Rat.div_def, Rat.mul_inv_cancel _ (fun e => by have := (rat_eq_zero (x := false) (A := M) (B := 1) (by omega)).1 e; omega)]
  rfl
theorem len_one : (nd 1).length ≤ 64 := by rw [nd_one (x := 1) (by omega) (by omega)]; simp
theorem whole_bd {N : Nat} : Bd 64 (rat false N 1) ↔ (nd N).length ≤ 64 := by
  unfold Bd
  rw [(whole_num N).1, (whole_num N).2]
  exact ⟨fun h => h.1, fun h => ⟨h, len_one⟩⟩
theorem whole_fra {w : World} {vn vd : Value} {N : Nat} (hn : Num w vn N) (hd : Num w vd 1) (hl : (nd N).length ≤ 64) : Fra w (.agg #[.bool false, vn, vd]) (rat false N 1) :=
  ⟨false, vn, vd, N, 1, rfl, hn, hd, by omega, (fun h => by cases h), hl, len_one, rfl⟩
theorem whole_red {w : World} {vn vd : Value} {N : Nat} (hn : Num w vn N) (hd : Num w vd 1) : Red w (.agg #[.bool false, vn, vd]) (rat false N 1) :=
  ⟨vn, vd, by rw [whole_neg], by rw [(whole_num N).1]; exact hn, by rw [(whole_num N).2]; exact hd⟩
theorem FRes.no {w w' : World} {r : Rat} {e : Ending} (h : FRes w r e w') (hb : ¬ Bd 64 r) : e = .returned (.tuple #[.agg #[.bool false, .slice none 0 0, .slice none 0 0], .int .i64 5]) ∧ Gr w w' := by
  obtain ⟨v, er, rfl, ⟨h1, -⟩ | ⟨-, rfl, rfl⟩, hg⟩ := h
  · exact absurd h1 hb
  · exact ⟨rfl, hg⟩
theorem FRes.yes {w w' : World} {r : Rat} {e : Ending} (h : FRes w r e w') (hb : Bd 64 r) : ∃ (b : Bool) (a1 a2 : Option Addr) (n1 n2 c1 c2 : Nat), e = .returned (.tuple #[.agg #[.bool b, .slice a1 n1 c1, .slice a2 n2 c2], .int .i64 0]) ∧ Red w' (.agg #[.bool b, .slice a1 n1 c1, .slice a2 n2 c2]) r ∧ Gr w w' := by
  obtain ⟨b, a1, a2, n1, n2, c1, c2, er, rfl, h, hg⟩ := h.form
  rcases h with ⟨-, rfl, h3⟩ | ⟨h1, -⟩
  · exact ⟨b, a1, a2, n1, n2, c1, c2, rfl, h3, hg⟩
  · exact absurd hb h1
theorem Red.len {w : World} {b : Bool} {a1 a2 : Option Addr} {n1 n2 c1 c2 : Nat} {r : Rat} (h : Red w (.agg #[.bool b, .slice a1 n1 c1, .slice a2 n2 c2]) r) : n1 = (nd r.num.natAbs).length := by
  obtain ⟨vn, vd, e, ⟨a, cap, e2, -⟩, -⟩ := h
  simp only [Value.agg.injEq, Array.mk.injEq, List.cons.injEq, and_true] at e
  obtain ⟨-, rfl, -⟩ := e
  cases e2; rfl
set_option maxHeartbeats 4000000 in
theorem flimits_walk (a : Nat) (w : World) (ha : a < 4294967296) (ht : Tab w) :
    Calls Tryd.prog 3 #[.int .u32 a] w fun e w' => e = .returned (.bool true) ∧ Gr w w' := by
  have a1 : (a : Int) < 4294967296 := by omega
  obtain ⟨d, hd⟩ : ∃ d : Nat, d = a % 1000 := ⟨_, rfl⟩
  have e1 : (a : Int) % 1000 = (d : Int) := by omega
  have d1 : (d : Int) < 1000 := by omega
  have HTAB := Lib.hid ht
  clear hd ht
  obtain ⟨ti, hi1, hi2, hi3, hi4⟩ := intInfo
  have mk1 : ∀ W : World, (Instr.makeSlice 25 (.int .i64 64) (.int .i64 64)).run Tryd.prog W = .ok (.slice (some ⟨W.heap.size, 0, none⟩) 64 64) (W.alloc (.cells (madeCells #[.int .i64 0] 64) 3)) := by
    intro W
    have := run_make (P := Tryd.prog) W 25 3 ti (.int .i64 0) Tryd.underlying25 hi1 hi2 .i64 .i64 64 64 (by omega) (Int.le_refl _) (by rw [hi4]; omega) (by omega)
    rw [hi3, show (64 : Int).toNat = 64 from rfl, Nat.mul_one] at this
    exact this
  go_enter Tryd.func3, Tryd.ntmps3
  go_wp2_with (go_at_call 5; refine (fawake_any _ HTAB.out).mono ?_; rintro e w1 ⟨rfl, hg1⟩)
  have har := arr_made w1 64
  have hgm : Gr w (w1.alloc (.cells (madeCells #[.int .i64 0] 64) 3)) := Gr.alloc hg1 _
  have hgw : w.heap.size ≤ w1.heap.size := Gr.size hg1
  generalize w1.alloc (.cells (madeCells #[.int .i64 0] 64) 3) = w2 at *
  generalize w1.heap.size = g at *
  clear hg1 mk1 hi1 hi2 hi3 hi4
  go_loopw [4] (fun s wr => ∃ (k : Nat) (l : List Nat), s = .int .i64 k ∧ k ≤ 64 ∧ l.length = 64 ∧ (∀ j, j < k → l.getD j 0 = 1073741823) ∧ Arr wr g 0 l ∧ Gr w wr) (fun s _ => 64 - (intOf s).toNat)
  case atStart => exact ⟨0, _, rfl, by omega, List.length_replicate, fun j hj => by omega, har, hgm⟩
  case round =>
    obtain ⟨k, l, rfl, hk, hl, hM, har, hG⟩ := hrel
    by_cases hlt : k < 64
    · have k1 : (k : Int) < 64 := by omega
      obtain ⟨hc, hf⟩ := har k (by omega)
      rw [Nat.zero_add] at hc hf
      have HAR := Lib.hid har
      have HM := Lib.hid hM
      have HL := Lib.hid hl
      clear har hM hl
      go_wp2_with fail
      refine ⟨⟨k + 1, l.set k 1073741823, by go_num, by omega, by rw [List.length_set]; exact HL.out, ?_, ?_, hG.setCell (p := ⟨g, k, none⟩) hgw _⟩, by simp only [intOf]; omega⟩
      · intro j hj
        rw [List.getD_eq_getElem?_getD, List.getElem?_set]
        by_cases hjk : k = j
        · rw [if_pos hjk, if_pos (by rw [HL.out]; omega)]; rfl
        · rw [if_neg hjk, ← List.getD_eq_getElem?_getD]; exact HM.out j (by omega)
      · have := HAR.out.set (i := k) (by rw [HL.out]; omega) 1073741823
        rwa [Nat.zero_add] at this
    · obtain rfl : k = 64 := by omega
      obtain ⟨F, hF, hF1, hF2, hF3⟩ := full_facts (n := 62) hl (fun j hj => hM j (by omega))
      have hFl : (nd F).length = 64 := by rw [← hF]; exact hl
      have hnF : Num wr (.slice (some ⟨g, 0, none⟩) 64 64) F := by
        have := har.rd (p := fun _ => True) (cap := 64) (by omega) (by omega) trivial
        rw [hl, hF] at this
        exact this
      have HNF := Lib.hid hnF
      have H1 := Lib.hid hF1
      have H2 := Lib.hid hF2
      have H3 := Lib.hid hF3
      have HLF := Lib.hid hFl
      clear hF hF1 hF2 hF3 hFl hnF har hM hl l
      go_wp2_with fail
      have q1 := num_lit wr 1 1 rfl (by omega) (by omega)
      have q2 := num_lit (wr.alloc (.cells #[.int .i64 1] 3)) 1 1 rfl (by omega) (by omega)
      have q3 := num_lit ((wr.alloc (.cells #[.int .i64 1] 3)).alloc (.cells #[.int .i64 1] 3)) 1 1 rfl (by omega) (by omega)
      simp only [World.size_alloc] at q2 q3
      have q1 := (q1.gr (Gr.alloc (Gr.refl _) (.cells #[.int .i64 1] 3))).gr (Gr.alloc (Gr.refl _) (.cells #[.int .i64 1] 3))
      have q2 := q2.gr (Gr.alloc (Gr.refl _) (.cells #[.int .i64 1] 3))
      have hs5 : (((wr.alloc (.cells #[.int .i64 1] 3)).alloc (.cells #[.int .i64 1] 3)).alloc (.cells #[.int .i64 1] 3)).heap.size = wr.heap.size + 1 + 1 + 1 := by simp
      have hG5 : Gr w (((wr.alloc (.cells #[.int .i64 1] 3)).alloc (.cells #[.int .i64 1] 3)).alloc (.cells #[.int .i64 1] 3)) := ((hG.alloc _).alloc _).alloc _
      have HNF := Lib.hid (HNF.out.gr (show Gr wr (((wr.alloc (.cells #[.int .i64 1] 3)).alloc (.cells #[.int .i64 1] 3)).alloc (.cells #[.int .i64 1] 3)) from (((Gr.refl _).alloc _).alloc _).alloc _))
      generalize ((wr.alloc (.cells #[.int .i64 1] 3)).alloc (.cells #[.int .i64 1] 3)).alloc (.cells #[.int .i64 1] 3) = w5 at *
      have cF := (C3.new w5 (.bool false) (.slice (some ⟨g, 0, none⟩) 64 64) (.slice (some ⟨wr.heap.size, 0, none⟩) 1 1) 27 (wr.heap.size + 1 + 1 + 1) hs5.symm).gr (Gr.alloc (Gr.refl _) (.cells #[.bool false, .slice (some ⟨wr.heap.size + 1, 0, none⟩) 1 1, .slice (some ⟨wr.heap.size + 1 + 1, 0, none⟩) 1 1] 27))
      have cO := C3.new (w5.alloc (.cells #[.bool false, .slice (some ⟨g, 0, none⟩) 64 64, .slice (some ⟨wr.heap.size, 0, none⟩) 1 1] 27)) (.bool false) (.slice (some ⟨wr.heap.size + 1, 0, none⟩) 1 1) (.slice (some ⟨wr.heap.size + 1 + 1, 0, none⟩) 1 1) 27 (wr.heap.size + 1 + 1 + 1 + 1) (by simp; omega)
      have hG7 : Gr w5 ((w5.alloc (.cells #[.bool false, .slice (some ⟨g, 0, none⟩) 64 64, .slice (some ⟨wr.heap.size, 0, none⟩) 1 1] 27)).alloc (.cells #[.bool false, .slice (some ⟨wr.heap.size + 1, 0, none⟩) 1 1, .slice (some ⟨wr.heap.size + 1 + 1, 0, none⟩) 1 1] 27)) := (Gr.alloc (Gr.refl _) _).alloc _
      generalize (w5.alloc (.cells #[.bool false, .slice (some ⟨g, 0, none⟩) 64 64, .slice (some ⟨wr.heap.size, 0, none⟩) 1 1] 27)).alloc (.cells #[.bool false, .slice (some ⟨wr.heap.size + 1, 0, none⟩) 1 1, .slice (some ⟨wr.heap.size + 1 + 1, 0, none⟩) 1 1] 27) = W0 at *
      have HF := Lib.hid (whole_fra (HNF.out.gr hG7) (q1.gr hG7) (by rw [HLF.out]; exact Nat.le_refl _))
      have HO := Lib.hid (whole_fra (q2.gr hG7) (q3.gr hG7) len_one)
      have HOR := Lib.hid (whole_red (q2.gr hG7) (q3.gr hG7))
      have hW : Gr w W0 := hG5.step hG7
      clear q1 q2 q3 hs5 hG5 hG7 HNF hG
      generalize wr.heap.size = b at *
      have G : Gr W0 W0 := Gr.refl _
      refine (fadd_any _ _ _ HF.out HO.out).mono ?_
      intro e w1 hres
      obtain ⟨rfl, hg⟩ := hres.no (by rw [whole_add, whole_bd]; have := H1.out 1 (by omega); omega)
      replace G := (G.step hg).alloc (.cells #[.bool false, .slice none 0 0, .slice none 0 0] 27)
      obtain ⟨fc0, fc1, fc2, -, -, -, -, -⟩ := cF.gr G
      have hs2 : (w1.alloc (.cells #[.bool false, .slice none 0 0, .slice none 0 0] 27)).heap.size = w1.heap.size + 1 := by simp
      clear hres hg
      go_wp2_with fail
      generalize w1.alloc (.cells #[.bool false, .slice none 0 0, .slice none 0 0] 27) = w2 at *
      have m2 := num_lit w2 2 2 rfl (by omega) (by omega)
      have m1 := num_lit (w2.alloc (.cells #[.int .i64 2] 3)) 1 1 rfl (by omega) (by omega)
      simp only [World.size_alloc] at m1
      rw [hs2] at m1 m2
      have m2 := m2.gr (Gr.alloc (Gr.refl _) (.cells #[.int .i64 1] 3))
      replace G := (G.alloc (.cells #[.int .i64 2] 3)).alloc (.cells #[.int .i64 1] 3)
      have l2 : (nd 2).length ≤ 64 := by rw [nd_one (x := 2) (by omega) (by omega)]; simp
      refine (fmul_any _ _ _ (HF.out.gr G) (whole_fra m2 m1 l2)).mono ?_
      intro e w3 hres
      obtain ⟨rfl, hg⟩ := hres.no (by rw [whole_mul, whole_bd]; have := H2.out; omega)
      replace G := (G.step hg).alloc (.cells #[.bool false, .slice none 0 0, .slice none 0 0] 27)
      clear fc0 fc1 fc2 m1 m2 hs2 hres hg
      obtain ⟨fc0, fc1, fc2, -, -, -, -, -⟩ := cF.gr G
      go_wp2_with fail
      generalize w3.alloc (.cells #[.bool false, .slice none 0 0, .slice none 0 0] 27) = w4 at *
      have hF0 : 0 < F := by
        apply Nat.pos_of_ne_zero; rintro rfl
        have := HLF.out; rw [nd_zero] at this; simp at this
      have hne : rat false F 1 ≠ 0 := fun e => by have := (rat_eq_zero (x := false) (A := F) (B := 1) (by omega)).1 e; omega
      refine (fdiv_any _ _ _ (HF.out.gr G) (HF.out.gr G) hne).mono ?_
      intro e w5' hres
      rw [whole_div hF0] at hres
      obtain ⟨b', x1, x2, n1, n2, c1, c2, rfl, hred, hg⟩ := hres.yes (whole_bd.2 len_one)
      clear hres hF0 hne
      have G5 := G.step hg
      have hX := C3.new w5' (.bool b') (.slice x1 n1 c1) (.slice x2 n2 c2) 27 w5'.heap.size rfl
      have hX6 := Lib.hid (hred.gr (Gr.alloc (Gr.refl w5') (.cells #[.bool b', .slice x1 n1 c1, .slice x2 n2 c2] 27)))
      replace G := G5.alloc (.cells #[.bool b', .slice x1 n1 c1, .slice x2 n2 c2] 27)
      clear fc0 fc1 fc2 hred hg G5
      obtain ⟨fc0, fc1, fc2, -, -, -, -, -⟩ := cF.gr G
      have hs6 : (w5'.alloc (.cells #[.bool b', .slice x1 n1 c1, .slice x2 n2 c2] 27)).heap.size = w5'.heap.size + 1 := by simp
      go_wp2_with fail
      generalize hxx : w5'.heap.size = bx at *
      generalize w5'.alloc (.cells #[.bool b', .slice x1 n1 c1, .slice x2 n2 c2] 27) = w6 at *
      have m2 := num_lit w6 (1 + d) (1 + (d : Int)) (by omega) (by omega) (by omega)
      have m1 := num_lit (w6.alloc (.cells #[.int .i64 (1 + (d : Int))] 3)) 1 1 rfl (by omega) (by omega)
      simp only [World.size_alloc] at m1
      rw [hs6] at m1 m2
      have m2 := m2.gr (Gr.alloc (Gr.refl _) (.cells #[.int .i64 1] 3))
      have hG6 : Gr w6 ((w6.alloc (.cells #[.int .i64 (1 + (d : Int))] 3)).alloc (.cells #[.int .i64 1] 3)) := ((Gr.refl _).alloc _).alloc _
      replace G := G.step hG6
      have ld : (nd (1 + d)).length ≤ 64 := by have := (nd_len (1 + d) 1).2 (by omega); omega
      have hle := H3.out (1 + d) (by omega)
      refine (fsub_any _ _ _ (HF.out.gr G) (whole_fra m2 m1 ld)).mono ?_
      intro e w7 hres
      rw [whole_sub hle.1] at hres
      obtain ⟨b'', y1, y2, k1, k2, e1', e2', rfl, hred, hg⟩ := hres.yes (whole_bd.2 (by rw [hle.2]; exact Nat.le_refl _))
      have hk := hred.len
      rw [(whole_num _).1, hle.2] at hk
      obtain rfl : k1 = 64 := hk
      replace G := (G.step hg).alloc (.cells #[.bool b'', .slice y1 64 e1', .slice y2 k2 e2'] 27)
      have G67 := (hG6.step hg).alloc (.cells #[.bool b'', .slice y1 64 e1', .slice y2 k2 e2'] 27)
      have cY := C3.new w7 (.bool b'') (.slice y1 64 e1') (.slice y2 k2 e2') 27 w7.heap.size rfl
      have cX := hX.gr G67
      have HXR := Lib.hid (hX6.out.gr G67)
      clear fc0 fc1 fc2 hred hg hres m1 m2 hs6 hG6 hle G67 hX hX6 ld
      obtain ⟨fc0, fc1, fc2, -, -, -, -, -⟩ := cF.gr G
      go_wp2_with fail
      generalize w7.heap.size = bY at *
      generalize w7.alloc (.cells #[.bool b'', .slice y1 64 e1', .slice y2 k2 e2'] 27) = w8 at *
      obtain ⟨x0, vn0, vd0, N0, D0, hv0, h20, h30, h40, h50, l60, l70, -⟩ := HF.out.gr G
      simp only [Value.agg.injEq, Array.mk.injEq, List.cons.injEq, and_true] at hv0
      obtain ⟨hb0, rfl, rfl⟩ := hv0
      cases hb0
      refine (fvalid_yes false _ _ _ h20 h30 h40 h50 l60 l70).mono ?_
      rintro e w9 ⟨rfl, hg⟩
      replace G := G.step hg
      replace cX := cX.gr hg
      replace cY := cY.gr hg
      have HXR := Lib.hid (HXR.out.gr hg)
      clear fc0 fc1 fc2 h20 h30 h40 h50 l60 l70 hg
      obtain ⟨fc0, fc1, fc2, -, -, -, -, -⟩ := cX
      obtain ⟨oc0, oc1, oc2, -, -, -, -, -⟩ := cO.gr G
      go_wp2_with fail
      refine (fsame_yes _ _ _ HXR.out (HOR.out.gr G) (whole_bd.2 len_one)).mono ?_
      rintro e w10 ⟨rfl, hg⟩
      replace G := G.step hg
      replace cY := cY.gr hg
      obtain ⟨yc0, yc1, yc2, -, -, -, -, -⟩ := cY
      clear fc0 fc1 fc2 oc0 oc1 oc2 hg
      go_wp2_with fail
      go_ret
      exact ⟨rfl, hW.step G⟩
end Go.Proofs.YtoaboflepfmkpaaDoor
