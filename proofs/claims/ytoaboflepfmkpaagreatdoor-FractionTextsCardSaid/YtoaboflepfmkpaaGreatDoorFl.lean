/- lowest. -/
import Derived.Test.YtoaboflepfmkpaaGreatDoorFw
import Derived.Test.YtoaboflepfmkpaaGreatDoorNgc
import Derived.WalkKit
import Derived.WalkSpells
import Derived.WalkLawsBesides
import Derived.WalkSmall
import Derived.Handy
import Derived.BigQuiet
import Derived.Deep.QuietTactic
import Derived.Deep.RegionHeld3
import Derived.Deep.DeepFit
import Derived.Below
import Derived.Lib.Hide
import Derived.Lib.QuietBelow
namespace Go.Proofs.YtoaboflepfmkpaaGreatDoor
open Go Go.RowKit Go.Sort
set_option maxRecDepth 100000
set_option linter.unusedVariables false
set_option maxHeartbeats 1000000 in
theorem lowest_at {N D : Nat} (x y : Bool) (vn vd : Value) (w : World) (hN : Num w vn N) (hD : Num w vd D) (hD0 : 0 < D) (hn : (nd N).length ≤ 256) (hd : (nd D).length ≤ 256) (hy : y = (x && decide (0 < (nd N).length))) :
    Calls Tryz.prog 73 #[.bool x, vn, vd] w (FRes w (rat x N D)) := by
  have HN := Lib.hid hN
  have HD := Lib.hid hD
  obtain ⟨an, cn, rfl⟩ := num_slice hN
  obtain ⟨ad, cd, rfl⟩ := num_slice hD
  clear hN hD
  have hgl : (nd (N.gcd D)).length ≤ 256 := nd_le_len' hd (Nat.gcd_le_right _ hD0)
  have hg0 : 0 < N.gcd D := Nat.gcd_pos_of_pos_right _ hD0
  have HG0 := Lib.hid hg0
  have HPOS : Hid (0 < D / N.gcd D) := Lib.hid (Nat.div_gcd_pos_of_pos_right _ hD0)
  have HLQ : Hid ((nd (N / N.gcd D)).length ≤ 256) := Lib.hid (nd_le_len' hn (Nat.div_le_self _ _))
  have HLP : Hid ((nd (D / N.gcd D)).length ≤ 256) := Lib.hid (nd_le_len' hd (Nat.div_le_self _ _))
  obtain ⟨b1, hb1⟩ : ∃ b, decide ((nd (N / N.gcd D)).length ≤ 64) = b := ⟨_, rfl⟩
  obtain ⟨b2, hb2⟩ : ∃ b, decide ((nd (D / N.gcd D)).length ≤ 64) = b := ⟨_, rfl⟩
  have HB1 := Lib.hid hb1
  have HB2 := Lib.hid hb2
  have HD0 := Lib.hid hD0
  clear hg0 hD0 hb1 hb2
  have HY := Lib.hid hy
  clear hy
  cases x
  · obtain rfl : y = false := by simpa using HY.out
    go_enter Tryz.func73, Tryz.ntmps73
    go_wp2_with fail
    have hR := C3.new w (.bool false) (.slice none 0 0) (.slice none 0 0) 29 w.heap.size rfl
    refine (gcd_any _ _ _ (HN.out.gr (Gr.alloc (Gr.refl _) _)) (HD.out.gr (Gr.alloc (Gr.refl _) _)) hn hd).mono ?_
    rintro e w1 ⟨vg, rfl, hg, hg1⟩
    have HG := Lib.hid hg
    have hR := hR.gr hg1
    have hs1 : w.heap.size < w1.heap.size := by have := Gr.size hg1; simp at this; omega
    have hG1 : Gr w w1 := (Gr.alloc (Gr.refl _) _).step hg1
    clear hg hg1
    go_wp2_with fail
    have hF := C3.new w1 (.bool false) (.slice none 0 0) (.slice none 0 0) 29 w1.heap.size rfl
    have hR := hR.gr (Gr.alloc (Gr.refl w1) (.cells #[.bool false, .slice none 0 0, .slice none 0 0] 29))
    have hG2 : Gr w1 (w1.alloc (.cells #[.bool false, .slice none 0 0, .slice none 0 0] 29)) := Gr.alloc (Gr.refl _) _
    generalize w1.alloc (.cells #[.bool false, .slice none 0 0, .slice none 0 0] 29) = W1 at *
    refine (divmod_any _ _ _ (HN.out.gr (hG1.step hG2)) (HG.out.gr hG2) HG0.out hn hgl).mono ?_
    rintro e w2 ⟨vq, vr, rfl, hq, -, hg2⟩
    obtain ⟨aq, cq, rfl⟩ := num_slice hq
    have hF := hF.gr hg2
    have hR := hR.gr hg2
    have hG2 := hG2.step hg2
    obtain ⟨hc0, hc1, hc2, hf0, hf1, hf2, hlt, -⟩ := id hF
    have HQ := Lib.hid (hF.num (o := 1) hq (.slice aq (nd (N / N.gcd D)).length cq))
    clear hq hg2
    go_wp2_with fail
    have hF := hF.set1 (.slice aq (nd (N / N.gcd D)).length cq)
    have hR := hR.other (o := 1) (.slice aq (nd (N / N.gcd D)).length cq) (Nat.ne_of_lt hs1)
    have hG2 := hG2.setCell (p := ⟨w1.heap.size, 1, none⟩) (Nat.le_refl _) (.slice aq (nd (N / N.gcd D)).length cq)
    clear hc0 hc1 hc2 hf0 hf1 hf2 hlt
    generalize w2.setCell ⟨w1.heap.size, 1, none⟩ (.slice aq (nd (N / N.gcd D)).length cq) = W2 at *
    refine (divmod_any _ _ _ (HD.out.gr (hG1.step hG2)) (HG.out.gr hG2) HG0.out hd hgl).mono ?_
    rintro e w3 ⟨vp, vs, rfl, hp, -, hg3⟩
    obtain ⟨ap, cp, rfl⟩ := num_slice hp
    have hF := hF.gr hg3
    have hR := hR.gr hg3
    have hG2 := hG2.step hg3
    obtain ⟨hc0, hc1, hc2, hf0, hf1, hf2, hlt, -⟩ := id hF
    have HP := Lib.hid (hF.num (o := 2) hp (.slice ap (nd (D / N.gcd D)).length cp))
    have HQ := Lib.hid (hF.num (o := 2) (HQ.out.gr hg3) (.slice ap (nd (D / N.gcd D)).length cp))
    have hF := hF.set2 (.slice ap (nd (D / N.gcd D)).length cp)
    have hR := hR.other (o := 2) (.slice ap (nd (D / N.gcd D)).length cp) (Nat.ne_of_lt hs1)
    have hG2 := hG2.setCell (p := ⟨w1.heap.size, 2, none⟩) (Nat.le_refl _) (.slice ap (nd (D / N.gcd D)).length cp)
    clear hp hg3
    obtain ⟨kc0, kc1, kc2, -, -, -, -, -⟩ := id hF
    go_wp2_with fail
    clear hc0 hc1 hc2 hf0 hf1 hf2 hlt kc0 kc1 kc2
    generalize w3.setCell ⟨w1.heap.size, 2, none⟩ (.slice ap (nd (D / N.gcd D)).length cp) = W3 at *
    refine (fvalid_any false _ _ _ _ _ HQ.out HP.out HPOS.out (fun h => by cases h) HLQ.out HLP.out HB1.out HB2.out).mono ?_
    rintro e w4 ⟨rfl, hg4⟩
    have hF := hF.gr hg4
    have hR := hR.gr hg4
    have hG2 := hG2.step hg4
    obtain ⟨hc0, hc1, hc2, hf0, hf1, hf2, hlt, -⟩ := id hF
    obtain ⟨rc0, rc1, rc2, rf0, rf1, rf2, rlt, -⟩ := id hR
    have HQ := Lib.hid (HQ.out.gr hg4)
    have HP := Lib.hid (HP.out.gr hg4)
    cases b1
    · skip
      have hfl := hR.fill false none none 0 0 0 0
      obtain ⟨sc0, sc1, sc2, -, -, -, -, -⟩ := hfl.1
      go_wp2
      refine bodyPost_ret (v := .tuple #[fzero, .int .i64 5]) (by simp [results, Tryz.results73, go_sem, sc0, sc1, sc2, fzero]) rfl ?_
      exact ⟨_, 5, rfl, .inr ⟨(fun h => by have := (low_bd HD0.out HB1.out HB2.out).1 h; cases this), rfl, rfl⟩, (((hG1.step hG2).setCell (p := ⟨w.heap.size, 0, none⟩) (Nat.le_refl _) _).setCell (p := ⟨w.heap.size, 1, none⟩) (Nat.le_refl _) _).setCell (p := ⟨w.heap.size, 2, none⟩) (Nat.le_refl _) _⟩
    · skip
      cases b2
      · skip
        have hfl := hR.fill false none none 0 0 0 0
        obtain ⟨sc0, sc1, sc2, -, -, -, -, -⟩ := hfl.1
        go_wp2
        refine bodyPost_ret (v := .tuple #[fzero, .int .i64 5]) (by simp [results, Tryz.results73, go_sem, sc0, sc1, sc2, fzero]) rfl ?_
        exact ⟨_, 5, rfl, .inr ⟨(fun h => by have := (low_bd HD0.out HB1.out HB2.out).1 h; cases this), rfl, rfl⟩, (((hG1.step hG2).setCell (p := ⟨w.heap.size, 0, none⟩) (Nat.le_refl _) _).setCell (p := ⟨w.heap.size, 1, none⟩) (Nat.le_refl _) _).setCell (p := ⟨w.heap.size, 2, none⟩) (Nat.le_refl _) _⟩
      · skip
        have hfl := hR.fill false aq ap (nd (N / N.gcd D)).length (nd (D / N.gcd D)).length cq cp
        obtain ⟨sc0, sc1, sc2, -, -, -, -, -⟩ := hfl.1
        go_wp2
        refine bodyPost_ret (v := .tuple #[.agg #[.bool false, .slice aq (nd (N / N.gcd D)).length cq, .slice ap (nd (D / N.gcd D)).length cp], .int .i64 0]) (by simp [results, Tryz.results73, go_sem, sc0, sc1, sc2]) rfl ?_
        exact ⟨_, 0, rfl, .inl ⟨(low_bd HD0.out HB1.out HB2.out).2 rfl, rfl, low_ok HD0.out HY.out (hfl.2 HQ.out) (hfl.2 HP.out)⟩, (((hG1.step hG2).setCell (p := ⟨w.heap.size, 0, none⟩) (Nat.le_refl _) _).setCell (p := ⟨w.heap.size, 1, none⟩) (Nat.le_refl _) _).setCell (p := ⟨w.heap.size, 2, none⟩) (Nat.le_refl _) _⟩
  · by_cases h0 : 0 < N
    · have hnl : 0 < (nd N).length := by rw [nd_pos h0]; simp
      have d2 : decide (0 < (nd N).length) = true := by simpa using hnl
      have HNP : Hid (0 < N / N.gcd D) := Lib.hid (Nat.div_gcd_pos_of_pos_left _ h0)
      obtain rfl : y = true := by rw [HY.out, d2]; rfl
      clear h0 hnl
      go_enter Tryz.func73, Tryz.ntmps73
      go_wp2_with fail
      have hR := C3.new w (.bool false) (.slice none 0 0) (.slice none 0 0) 29 w.heap.size rfl
      refine (gcd_any _ _ _ (HN.out.gr (Gr.alloc (Gr.refl _) _)) (HD.out.gr (Gr.alloc (Gr.refl _) _)) hn hd).mono ?_
      rintro e w1 ⟨vg, rfl, hg, hg1⟩
      have HG := Lib.hid hg
      have hR := hR.gr hg1
      have hs1 : w.heap.size < w1.heap.size := by have := Gr.size hg1; simp at this; omega
      have hG1 : Gr w w1 := (Gr.alloc (Gr.refl _) _).step hg1
      clear hg hg1
      go_wp2_with fail
      have hF := C3.new w1 (.bool true) (.slice none 0 0) (.slice none 0 0) 29 w1.heap.size rfl
      have hR := hR.gr (Gr.alloc (Gr.refl w1) (.cells #[.bool true, .slice none 0 0, .slice none 0 0] 29))
      have hG2 : Gr w1 (w1.alloc (.cells #[.bool true, .slice none 0 0, .slice none 0 0] 29)) := Gr.alloc (Gr.refl _) _
      generalize w1.alloc (.cells #[.bool true, .slice none 0 0, .slice none 0 0] 29) = W1 at *
      refine (divmod_any _ _ _ (HN.out.gr (hG1.step hG2)) (HG.out.gr hG2) HG0.out hn hgl).mono ?_
      rintro e w2 ⟨vq, vr, rfl, hq, -, hg2⟩
      obtain ⟨aq, cq, rfl⟩ := num_slice hq
      have hF := hF.gr hg2
      have hR := hR.gr hg2
      have hG2 := hG2.step hg2
      obtain ⟨hc0, hc1, hc2, hf0, hf1, hf2, hlt, -⟩ := id hF
      have HQ := Lib.hid (hF.num (o := 1) hq (.slice aq (nd (N / N.gcd D)).length cq))
      clear hq hg2
      go_wp2_with fail
      have hF := hF.set1 (.slice aq (nd (N / N.gcd D)).length cq)
      have hR := hR.other (o := 1) (.slice aq (nd (N / N.gcd D)).length cq) (Nat.ne_of_lt hs1)
      have hG2 := hG2.setCell (p := ⟨w1.heap.size, 1, none⟩) (Nat.le_refl _) (.slice aq (nd (N / N.gcd D)).length cq)
      clear hc0 hc1 hc2 hf0 hf1 hf2 hlt
      generalize w2.setCell ⟨w1.heap.size, 1, none⟩ (.slice aq (nd (N / N.gcd D)).length cq) = W2 at *
      refine (divmod_any _ _ _ (HD.out.gr (hG1.step hG2)) (HG.out.gr hG2) HG0.out hd hgl).mono ?_
      rintro e w3 ⟨vp, vs, rfl, hp, -, hg3⟩
      obtain ⟨ap, cp, rfl⟩ := num_slice hp
      have hF := hF.gr hg3
      have hR := hR.gr hg3
      have hG2 := hG2.step hg3
      obtain ⟨hc0, hc1, hc2, hf0, hf1, hf2, hlt, -⟩ := id hF
      have HP := Lib.hid (hF.num (o := 2) hp (.slice ap (nd (D / N.gcd D)).length cp))
      have HQ := Lib.hid (hF.num (o := 2) (HQ.out.gr hg3) (.slice ap (nd (D / N.gcd D)).length cp))
      have hF := hF.set2 (.slice ap (nd (D / N.gcd D)).length cp)
      have hR := hR.other (o := 2) (.slice ap (nd (D / N.gcd D)).length cp) (Nat.ne_of_lt hs1)
      have hG2 := hG2.setCell (p := ⟨w1.heap.size, 2, none⟩) (Nat.le_refl _) (.slice ap (nd (D / N.gcd D)).length cp)
      clear hp hg3
      obtain ⟨kc0, kc1, kc2, -, -, -, -, -⟩ := id hF
      go_wp2_with fail
      clear hc0 hc1 hc2 hf0 hf1 hf2 hlt kc0 kc1 kc2
      generalize w3.setCell ⟨w1.heap.size, 2, none⟩ (.slice ap (nd (D / N.gcd D)).length cp) = W3 at *
      refine (fvalid_any true _ _ _ _ _ HQ.out HP.out HPOS.out (fun _ => HNP.out) HLQ.out HLP.out HB1.out HB2.out).mono ?_
      rintro e w4 ⟨rfl, hg4⟩
      have hF := hF.gr hg4
      have hR := hR.gr hg4
      have hG2 := hG2.step hg4
      obtain ⟨hc0, hc1, hc2, hf0, hf1, hf2, hlt, -⟩ := id hF
      obtain ⟨rc0, rc1, rc2, rf0, rf1, rf2, rlt, -⟩ := id hR
      have HQ := Lib.hid (HQ.out.gr hg4)
      have HP := Lib.hid (HP.out.gr hg4)
      cases b1
      · skip
        have hfl := hR.fill false none none 0 0 0 0
        obtain ⟨sc0, sc1, sc2, -, -, -, -, -⟩ := hfl.1
        go_wp2
        refine bodyPost_ret (v := .tuple #[fzero, .int .i64 5]) (by simp [results, Tryz.results73, go_sem, sc0, sc1, sc2, fzero]) rfl ?_
        exact ⟨_, 5, rfl, .inr ⟨(fun h => by have := (low_bd HD0.out HB1.out HB2.out).1 h; cases this), rfl, rfl⟩, (((hG1.step hG2).setCell (p := ⟨w.heap.size, 0, none⟩) (Nat.le_refl _) _).setCell (p := ⟨w.heap.size, 1, none⟩) (Nat.le_refl _) _).setCell (p := ⟨w.heap.size, 2, none⟩) (Nat.le_refl _) _⟩
      · skip
        cases b2
        · skip
          have hfl := hR.fill false none none 0 0 0 0
          obtain ⟨sc0, sc1, sc2, -, -, -, -, -⟩ := hfl.1
          go_wp2
          refine bodyPost_ret (v := .tuple #[fzero, .int .i64 5]) (by simp [results, Tryz.results73, go_sem, sc0, sc1, sc2, fzero]) rfl ?_
          exact ⟨_, 5, rfl, .inr ⟨(fun h => by have := (low_bd HD0.out HB1.out HB2.out).1 h; cases this), rfl, rfl⟩, (((hG1.step hG2).setCell (p := ⟨w.heap.size, 0, none⟩) (Nat.le_refl _) _).setCell (p := ⟨w.heap.size, 1, none⟩) (Nat.le_refl _) _).setCell (p := ⟨w.heap.size, 2, none⟩) (Nat.le_refl _) _⟩
        · skip
          have hfl := hR.fill true aq ap (nd (N / N.gcd D)).length (nd (D / N.gcd D)).length cq cp
          obtain ⟨sc0, sc1, sc2, -, -, -, -, -⟩ := hfl.1
          go_wp2
          refine bodyPost_ret (v := .tuple #[.agg #[.bool true, .slice aq (nd (N / N.gcd D)).length cq, .slice ap (nd (D / N.gcd D)).length cp], .int .i64 0]) (by simp [results, Tryz.results73, go_sem, sc0, sc1, sc2]) rfl ?_
          exact ⟨_, 0, rfl, .inl ⟨(low_bd HD0.out HB1.out HB2.out).2 rfl, rfl, low_ok HD0.out HY.out (hfl.2 HQ.out) (hfl.2 HP.out)⟩, (((hG1.step hG2).setCell (p := ⟨w.heap.size, 0, none⟩) (Nat.le_refl _) _).setCell (p := ⟨w.heap.size, 1, none⟩) (Nat.le_refl _) _).setCell (p := ⟨w.heap.size, 2, none⟩) (Nat.le_refl _) _⟩
    · have hN0 : N = 0 := by omega
      have hnl : (nd N).length = 0 := by rw [hN0, nd_zero]; rfl
      have d2 : decide (0 < (nd N).length) = false := by rw [hnl]; rfl
      obtain rfl : y = false := by rw [HY.out, d2]; rfl
      clear h0 hnl hN0
      go_enter Tryz.func73, Tryz.ntmps73
      go_wp2_with fail
      have hR := C3.new w (.bool false) (.slice none 0 0) (.slice none 0 0) 29 w.heap.size rfl
      refine (gcd_any _ _ _ (HN.out.gr (Gr.alloc (Gr.refl _) _)) (HD.out.gr (Gr.alloc (Gr.refl _) _)) hn hd).mono ?_
      rintro e w1 ⟨vg, rfl, hg, hg1⟩
      have HG := Lib.hid hg
      have hR := hR.gr hg1
      have hs1 : w.heap.size < w1.heap.size := by have := Gr.size hg1; simp at this; omega
      have hG1 : Gr w w1 := (Gr.alloc (Gr.refl _) _).step hg1
      clear hg hg1
      go_wp2_with fail
      have hF := C3.new w1 (.bool false) (.slice none 0 0) (.slice none 0 0) 29 w1.heap.size rfl
      have hR := hR.gr (Gr.alloc (Gr.refl w1) (.cells #[.bool false, .slice none 0 0, .slice none 0 0] 29))
      have hG2 : Gr w1 (w1.alloc (.cells #[.bool false, .slice none 0 0, .slice none 0 0] 29)) := Gr.alloc (Gr.refl _) _
      generalize w1.alloc (.cells #[.bool false, .slice none 0 0, .slice none 0 0] 29) = W1 at *
      refine (divmod_any _ _ _ (HN.out.gr (hG1.step hG2)) (HG.out.gr hG2) HG0.out hn hgl).mono ?_
      rintro e w2 ⟨vq, vr, rfl, hq, -, hg2⟩
      obtain ⟨aq, cq, rfl⟩ := num_slice hq
      have hF := hF.gr hg2
      have hR := hR.gr hg2
      have hG2 := hG2.step hg2
      obtain ⟨hc0, hc1, hc2, hf0, hf1, hf2, hlt, -⟩ := id hF
      have HQ := Lib.hid (hF.num (o := 1) hq (.slice aq (nd (N / N.gcd D)).length cq))
      clear hq hg2
      go_wp2_with fail
      have hF := hF.set1 (.slice aq (nd (N / N.gcd D)).length cq)
      have hR := hR.other (o := 1) (.slice aq (nd (N / N.gcd D)).length cq) (Nat.ne_of_lt hs1)
      have hG2 := hG2.setCell (p := ⟨w1.heap.size, 1, none⟩) (Nat.le_refl _) (.slice aq (nd (N / N.gcd D)).length cq)
      clear hc0 hc1 hc2 hf0 hf1 hf2 hlt
      generalize w2.setCell ⟨w1.heap.size, 1, none⟩ (.slice aq (nd (N / N.gcd D)).length cq) = W2 at *
      refine (divmod_any _ _ _ (HD.out.gr (hG1.step hG2)) (HG.out.gr hG2) HG0.out hd hgl).mono ?_
      rintro e w3 ⟨vp, vs, rfl, hp, -, hg3⟩
      obtain ⟨ap, cp, rfl⟩ := num_slice hp
      have hF := hF.gr hg3
      have hR := hR.gr hg3
      have hG2 := hG2.step hg3
      obtain ⟨hc0, hc1, hc2, hf0, hf1, hf2, hlt, -⟩ := id hF
      have HP := Lib.hid (hF.num (o := 2) hp (.slice ap (nd (D / N.gcd D)).length cp))
      have HQ := Lib.hid (hF.num (o := 2) (HQ.out.gr hg3) (.slice ap (nd (D / N.gcd D)).length cp))
      have hF := hF.set2 (.slice ap (nd (D / N.gcd D)).length cp)
      have hR := hR.other (o := 2) (.slice ap (nd (D / N.gcd D)).length cp) (Nat.ne_of_lt hs1)
      have hG2 := hG2.setCell (p := ⟨w1.heap.size, 2, none⟩) (Nat.le_refl _) (.slice ap (nd (D / N.gcd D)).length cp)
      clear hp hg3
      obtain ⟨kc0, kc1, kc2, -, -, -, -, -⟩ := id hF
      go_wp2_with fail
      clear hc0 hc1 hc2 hf0 hf1 hf2 hlt kc0 kc1 kc2
      generalize w3.setCell ⟨w1.heap.size, 2, none⟩ (.slice ap (nd (D / N.gcd D)).length cp) = W3 at *
      refine (fvalid_any false _ _ _ _ _ HQ.out HP.out HPOS.out (fun h => by cases h) HLQ.out HLP.out HB1.out HB2.out).mono ?_
      rintro e w4 ⟨rfl, hg4⟩
      have hF := hF.gr hg4
      have hR := hR.gr hg4
      have hG2 := hG2.step hg4
      obtain ⟨hc0, hc1, hc2, hf0, hf1, hf2, hlt, -⟩ := id hF
      obtain ⟨rc0, rc1, rc2, rf0, rf1, rf2, rlt, -⟩ := id hR
      have HQ := Lib.hid (HQ.out.gr hg4)
      have HP := Lib.hid (HP.out.gr hg4)
      cases b1
      · skip
        have hfl := hR.fill false none none 0 0 0 0
        obtain ⟨sc0, sc1, sc2, -, -, -, -, -⟩ := hfl.1
        go_wp2
        refine bodyPost_ret (v := .tuple #[fzero, .int .i64 5]) (by simp [results, Tryz.results73, go_sem, sc0, sc1, sc2, fzero]) rfl ?_
        exact ⟨_, 5, rfl, .inr ⟨(fun h => by have := (low_bd HD0.out HB1.out HB2.out).1 h; cases this), rfl, rfl⟩, (((hG1.step hG2).setCell (p := ⟨w.heap.size, 0, none⟩) (Nat.le_refl _) _).setCell (p := ⟨w.heap.size, 1, none⟩) (Nat.le_refl _) _).setCell (p := ⟨w.heap.size, 2, none⟩) (Nat.le_refl _) _⟩
      · skip
        cases b2
        · skip
          have hfl := hR.fill false none none 0 0 0 0
          obtain ⟨sc0, sc1, sc2, -, -, -, -, -⟩ := hfl.1
          go_wp2
          refine bodyPost_ret (v := .tuple #[fzero, .int .i64 5]) (by simp [results, Tryz.results73, go_sem, sc0, sc1, sc2, fzero]) rfl ?_
          exact ⟨_, 5, rfl, .inr ⟨(fun h => by have := (low_bd HD0.out HB1.out HB2.out).1 h; cases this), rfl, rfl⟩, (((hG1.step hG2).setCell (p := ⟨w.heap.size, 0, none⟩) (Nat.le_refl _) _).setCell (p := ⟨w.heap.size, 1, none⟩) (Nat.le_refl _) _).setCell (p := ⟨w.heap.size, 2, none⟩) (Nat.le_refl _) _⟩
        · skip
          have hfl := hR.fill false aq ap (nd (N / N.gcd D)).length (nd (D / N.gcd D)).length cq cp
          obtain ⟨sc0, sc1, sc2, -, -, -, -, -⟩ := hfl.1
          go_wp2
          refine bodyPost_ret (v := .tuple #[.agg #[.bool false, .slice aq (nd (N / N.gcd D)).length cq, .slice ap (nd (D / N.gcd D)).length cp], .int .i64 0]) (by simp [results, Tryz.results73, go_sem, sc0, sc1, sc2]) rfl ?_
          exact ⟨_, 0, rfl, .inl ⟨(low_bd HD0.out HB1.out HB2.out).2 rfl, rfl, low_ok HD0.out HY.out (hfl.2 HQ.out) (hfl.2 HP.out)⟩, (((hG1.step hG2).setCell (p := ⟨w.heap.size, 0, none⟩) (Nat.le_refl _) _).setCell (p := ⟨w.heap.size, 1, none⟩) (Nat.le_refl _) _).setCell (p := ⟨w.heap.size, 2, none⟩) (Nat.le_refl _) _⟩
theorem lowest_any {N D : Nat} (x : Bool) (vn vd : Value) (w : World) (hN : Num w vn N) (hD : Num w vd D) (hD0 : 0 < D) (hn : (nd N).length ≤ 256) (hd : (nd D).length ≤ 256) :
    Calls Tryz.prog 73 #[.bool x, vn, vd] w (FRes w (rat x N D)) := lowest_at x _ vn vd w hN hD hD0 hn hd rfl
end Go.Proofs.YtoaboflepfmkpaaGreatDoor
