/- Several texts in one. -/
import Derived.Test.YtikkobmccagdlaaGreatDoorFw
import Derived.Test.YtikkobmccagdlaaGreatDoorNgc
import Derived.WalkKit
import Derived.WalkSpells
import Derived.WalkLawsBesides
import Derived.WalkSmall
import Derived.Handy
import Derived.BigQuiet
import Derived.Deep.QuietTactic
import Derived.Deep.RegionHeld3
import Derived.Deep.DeepFit
import Derived.Below
import Derived.Lib.Hide
import Derived.Lib.QuietBelow
import Derived.Test.YtikkobmccagdlaaGreatDoorNsub
import Derived.Test.YtikkobmccagdlaaGreatDoorNmul
import Derived.Test.YtikkobmccagdlaaGreatDoorNsm
/- lowest. -/
namespace Go.Proofs.YtikkobmccagdlaaGreatDoor
open Go Go.RowKit Go.Sort
set_option maxRecDepth 100000
set_option linter.unusedVariables false
set_option maxHeartbeats 1000000 in
theorem lowest_at {N D : Nat} (x y : Bool) (vn vd : Value) (w : World) (hN : Num w vn N) (hD : Num w vd D) (hD0 : 0 < D) (hn : (nd N).length ≤ 256) (hd : (nd D).length ≤ 256) (hy : y = (x && decide (0 < (nd N).length))) :
    Calls Tryz.prog 96 #[.bool x, vn, vd] w (FRes w (rat x N D)) := by
  have HN := Lib.hid hN
  have HD := Lib.hid hD
  obtain ⟨an, cn, rfl⟩ := num_slice hN
  obtain ⟨ad, cd, rfl⟩ := num_slice hD
  clear hN hD
  have hgl : (nd (N.gcd D)).length ≤ 256 := nd_le_len' hd (Nat.gcd_le_right _ hD0)
  have hg0 : 0 < N.gcd D := Nat.gcd_pos_of_pos_right _ hD0
  have HG0 := Lib.hid hg0
  have HPOS : Hid (0 < D / N.gcd D) := Lib.hid (Nat.div_gcd_pos_of_pos_right _ hD0)
  have HLQ : Hid ((nd (N / N.gcd D)).length ≤ 256) := Lib.hid (nd_le_len' hn (Nat.div_le_self _ _))
  have HLP : Hid ((nd (D / N.gcd D)).length ≤ 256) := Lib.hid (nd_le_len' hd (Nat.div_le_self _ _))
  obtain ⟨b1, hb1⟩ : ∃ b, decide ((nd (N / N.gcd D)).length ≤ 64) = b := ⟨_, rfl⟩
  obtain ⟨b2, hb2⟩ : ∃ b, decide ((nd (D / N.gcd D)).length ≤ 64) = b := ⟨_, rfl⟩
  have HB1 := Lib.hid hb1
  have HB2 := Lib.hid hb2
  have HD0 := Lib.hid hD0
  clear hg0 hD0 hb1 hb2
  have HY := Lib.hid hy
  clear hy
  cases x
  · obtain rfl : y = false := by simpa using HY.out
    go_enter Tryz.func96, Tryz.ntmps96
    go_wp2_with fail
    have hR := C3.new w (.bool false) (.slice none 0 0) (.slice none 0 0) 49 w.heap.size rfl
    refine (gcd_any _ _ _ (HN.out.gr (Gr.alloc (Gr.refl _) _)) (HD.out.gr (Gr.alloc (Gr.refl _) _)) hn hd).mono ?_
    rintro e w1 ⟨vg, rfl, hg, hg1⟩
    have HG := Lib.hid hg
    have hR := hR.gr hg1
    have hs1 : w.heap.size < w1.heap.size := by have := Gr.size hg1; simp at this; omega
    have hG1 : Gr w w1 := (Gr.alloc (Gr.refl _) _).step hg1
    clear hg hg1
    go_wp2_with fail
    have hF := C3.new w1 (.bool false) (.slice none 0 0) (.slice none 0 0) 49 w1.heap.size rfl
    have hR := hR.gr (Gr.alloc (Gr.refl w1) (.cells #[.bool false, .slice none 0 0, .slice none 0 0] 49))
    have hG2 : Gr w1 (w1.alloc (.cells #[.bool false, .slice none 0 0, .slice none 0 0] 49)) := Gr.alloc (Gr.refl _) _
    generalize w1.alloc (.cells #[.bool false, .slice none 0 0, .slice none 0 0] 49) = W1 at *
    refine (divmod_any _ _ _ (HN.out.gr (hG1.step hG2)) (HG.out.gr hG2) HG0.out hn hgl).mono ?_
    rintro e w2 ⟨vq, vr, rfl, hq, -, hg2⟩
    obtain ⟨aq, cq, rfl⟩ := num_slice hq
    have hF := hF.gr hg2
    have hR := hR.gr hg2
    have hG2 := hG2.step hg2
    obtain ⟨hc0, hc1, hc2, hf0, hf1, hf2, hlt, -⟩ := id hF
    have HQ := Lib.hid (hF.num (o := 1) hq (.slice aq (nd (N / N.gcd D)).length cq))
    clear hq hg2
    go_wp2_with fail
    have hF := hF.set1 (.slice aq (nd (N / N.gcd D)).length cq)
    have hR := hR.other (o := 1) (.slice aq (nd (N / N.gcd D)).length cq) (Nat.ne_of_lt hs1)
    have hG2 := hG2.setCell (p := ⟨w1.heap.size, 1, none⟩) (Nat.le_refl _) (.slice aq (nd (N / N.gcd D)).length cq)
    clear hc0 hc1 hc2 hf0 hf1 hf2 hlt
    generalize w2.setCell ⟨w1.heap.size, 1, none⟩ (.slice aq (nd (N / N.gcd D)).length cq) = W2 at *
    refine (divmod_any _ _ _ (HD.out.gr (hG1.step hG2)) (HG.out.gr hG2) HG0.out hd hgl).mono ?_
    rintro e w3 ⟨vp, vs, rfl, hp, -, hg3⟩
    obtain ⟨ap, cp, rfl⟩ := num_slice hp
    have hF := hF.gr hg3
    have hR := hR.gr hg3
    have hG2 := hG2.step hg3
    obtain ⟨hc0, hc1, hc2, hf0, hf1, hf2, hlt, -⟩ := id hF
    have HP := Lib.hid (hF.num (o := 2) hp (.slice ap (nd (D / N.gcd D)).length cp))
    have HQ := Lib.hid (hF.num (o := 2) (HQ.out.gr hg3) (.slice ap (nd (D / N.gcd D)).length cp))
    have hF := hF.set2 (.slice ap (nd (D / N.gcd D)).length cp)
    have hR := hR.other (o := 2) (.slice ap (nd (D / N.gcd D)).length cp) (Nat.ne_of_lt hs1)
    have hG2 := hG2.setCell (p := ⟨w1.heap.size, 2, none⟩) (Nat.le_refl _) (.slice ap (nd (D / N.gcd D)).length cp)
    clear hp hg3
    obtain ⟨kc0, kc1, kc2, -, -, -, -, -⟩ := id hF
    go_wp2_with fail
    clear hc0 hc1 hc2 hf0 hf1 hf2 hlt kc0 kc1 kc2
    generalize w3.setCell ⟨w1.heap.size, 2, none⟩ (.slice ap (nd (D / N.gcd D)).length cp) = W3 at *
    refine (fvalid_any false _ _ _ _ _ HQ.out HP.out HPOS.out (fun h => by cases h) HLQ.out HLP.out HB1.out HB2.out).mono ?_
    rintro e w4 ⟨rfl, hg4⟩
    have hF := hF.gr hg4
    have hR := hR.gr hg4
    have hG2 := hG2.step hg4
    obtain ⟨hc0, hc1, hc2, hf0, hf1, hf2, hlt, -⟩ := id hF
    obtain ⟨rc0, rc1, rc2, rf0, rf1, rf2, rlt, -⟩ := id hR
    have HQ := Lib.hid (HQ.out.gr hg4)
    have HP := Lib.hid (HP.out.gr hg4)
    cases b1
    · skip
      have hfl := hR.fill false none none 0 0 0 0
      obtain ⟨sc0, sc1, sc2, -, -, -, -, -⟩ := hfl.1
      go_wp2
      refine bodyPost_ret (v := .tuple #[fzero, .int .i64 5]) (by simp [results, Tryz.results96, go_sem, sc0, sc1, sc2, fzero]) rfl ?_
      exact ⟨_, 5, rfl, .inr ⟨(fun h => by have := (low_bd HD0.out HB1.out HB2.out).1 h; cases this), rfl, rfl⟩, (((hG1.step hG2).setCell (p := ⟨w.heap.size, 0, none⟩) (Nat.le_refl _) _).setCell (p := ⟨w.heap.size, 1, none⟩) (Nat.le_refl _) _).setCell (p := ⟨w.heap.size, 2, none⟩) (Nat.le_refl _) _⟩
    · skip
      cases b2
      · skip
        have hfl := hR.fill false none none 0 0 0 0
        obtain ⟨sc0, sc1, sc2, -, -, -, -, -⟩ := hfl.1
        go_wp2
        refine bodyPost_ret (v := .tuple #[fzero, .int .i64 5]) (by simp [results, Tryz.results96, go_sem, sc0, sc1, sc2, fzero]) rfl ?_
        exact ⟨_, 5, rfl, .inr ⟨(fun h => by have := (low_bd HD0.out HB1.out HB2.out).1 h; cases this), rfl, rfl⟩, (((hG1.step hG2).setCell (p := ⟨w.heap.size, 0, none⟩) (Nat.le_refl _) _).setCell (p := ⟨w.heap.size, 1, none⟩) (Nat.le_refl _) _).setCell (p := ⟨w.heap.size, 2, none⟩) (Nat.le_refl _) _⟩
      · skip
        have hfl := hR.fill false aq ap (nd (N / N.gcd D)).length (nd (D / N.gcd D)).length cq cp
        obtain ⟨sc0, sc1, sc2, -, -, -, -, -⟩ := hfl.1
        go_wp2
        refine bodyPost_ret (v := .tuple #[.agg #[.bool false, .slice aq (nd (N / N.gcd D)).length cq, .slice ap (nd (D / N.gcd D)).length cp], .int .i64 0]) (by simp [results, Tryz.results96, go_sem, sc0, sc1, sc2]) rfl ?_
        exact ⟨_, 0, rfl, .inl ⟨(low_bd HD0.out HB1.out HB2.out).2 rfl, rfl, low_ok HD0.out HY.out (hfl.2 HQ.out) (hfl.2 HP.out)⟩, (((hG1.step hG2).setCell (p := ⟨w.heap.size, 0, none⟩) (Nat.le_refl _) _).setCell (p := ⟨w.heap.size, 1, none⟩) (Nat.le_refl _) _).setCell (p := ⟨w.heap.size, 2, none⟩) (Nat.le_refl _) _⟩
  · by_cases h0 : 0 < N
    · have hnl : 0 < (nd N).length := by rw [nd_pos h0]; simp
      have d2 : decide (0 < (nd N).length) = true := by simpa using hnl
      have HNP : Hid (0 < N / N.gcd D) := Lib.hid (Nat.div_gcd_pos_of_pos_left _ h0)
      obtain rfl : y = true := by rw [HY.out, d2]; rfl
      clear h0 hnl
      go_enter Tryz.func96, Tryz.ntmps96
      go_wp2_with fail
      have hR := C3.new w (.bool false) (.slice none 0 0) (.slice none 0 0) 49 w.heap.size rfl
      refine (gcd_any _ _ _ (HN.out.gr (Gr.alloc (Gr.refl _) _)) (HD.out.gr (Gr.alloc (Gr.refl _) _)) hn hd).mono ?_
      rintro e w1 ⟨vg, rfl, hg, hg1⟩
      have HG := Lib.hid hg
      have hR := hR.gr hg1
      have hs1 : w.heap.size < w1.heap.size := by have := Gr.size hg1; simp at this; omega
      have hG1 : Gr w w1 := (Gr.alloc (Gr.refl _) _).step hg1
      clear hg hg1
      go_wp2_with fail
      have hF := C3.new w1 (.bool true) (.slice none 0 0) (.slice none 0 0) 49 w1.heap.size rfl
      have hR := hR.gr (Gr.alloc (Gr.refl w1) (.cells #[.bool true, .slice none 0 0, .slice none 0 0] 49))
      have hG2 : Gr w1 (w1.alloc (.cells #[.bool true, .slice none 0 0, .slice none 0 0] 49)) := Gr.alloc (Gr.refl _) _
      generalize w1.alloc (.cells #[.bool true, .slice none 0 0, .slice none 0 0] 49) = W1 at *
      refine (divmod_any _ _ _ (HN.out.gr (hG1.step hG2)) (HG.out.gr hG2) HG0.out hn hgl).mono ?_
      rintro e w2 ⟨vq, vr, rfl, hq, -, hg2⟩
      obtain ⟨aq, cq, rfl⟩ := num_slice hq
      have hF := hF.gr hg2
      have hR := hR.gr hg2
      have hG2 := hG2.step hg2
      obtain ⟨hc0, hc1, hc2, hf0, hf1, hf2, hlt, -⟩ := id hF
      have HQ := Lib.hid (hF.num (o := 1) hq (.slice aq (nd (N / N.gcd D)).length cq))
      clear hq hg2
      go_wp2_with fail
      have hF := hF.set1 (.slice aq (nd (N / N.gcd D)).length cq)
      have hR := hR.other (o := 1) (.slice aq (nd (N / N.gcd D)).length cq) (Nat.ne_of_lt hs1)
      have hG2 := hG2.setCell (p := ⟨w1.heap.size, 1, none⟩) (Nat.le_refl _) (.slice aq (nd (N / N.gcd D)).length cq)
      clear hc0 hc1 hc2 hf0 hf1 hf2 hlt
      generalize w2.setCell ⟨w1.heap.size, 1, none⟩ (.slice aq (nd (N / N.gcd D)).length cq) = W2 at *
      refine (divmod_any _ _ _ (HD.out.gr (hG1.step hG2)) (HG.out.gr hG2) HG0.out hd hgl).mono ?_
      rintro e w3 ⟨vp, vs, rfl, hp, -, hg3⟩
      obtain ⟨ap, cp, rfl⟩ := num_slice hp
      have hF := hF.gr hg3
      have hR := hR.gr hg3
      have hG2 := hG2.step hg3
      obtain ⟨hc0, hc1, hc2, hf0, hf1, hf2, hlt, -⟩ := id hF
      have HP := Lib.hid (hF.num (o := 2) hp (.slice ap (nd (D / N.gcd D)).length cp))
      have HQ := Lib.hid (hF.num (o := 2) (HQ.out.gr hg3) (.slice ap (nd (D / N.gcd D)).length cp))
      have hF := hF.set2 (.slice ap (nd (D / N.gcd D)).length cp)
      have hR := hR.other (o := 2) (.slice ap (nd (D / N.gcd D)).length cp) (Nat.ne_of_lt hs1)
      have hG2 := hG2.setCell (p := ⟨w1.heap.size, 2, none⟩) (Nat.le_refl _) (.slice ap (nd (D / N.gcd D)).length cp)
      clear hp hg3
      obtain ⟨kc0, kc1, kc2, -, -, -, -, -⟩ := id hF
      go_wp2_with fail
      clear hc0 hc1 hc2 hf0 hf1 hf2 hlt kc0 kc1 kc2
      generalize w3.setCell ⟨w1.heap.size, 2, none⟩ (.slice ap (nd (D / N.gcd D)).length cp) = W3 at *
      refine (fvalid_any true _ _ _ _ _ HQ.out HP.out HPOS.out (fun _ => HNP.out) HLQ.out HLP.out HB1.out HB2.out).mono ?_
      rintro e w4 ⟨rfl, hg4⟩
      have hF := hF.gr hg4
      have hR := hR.gr hg4
      have hG2 := hG2.step hg4
      obtain ⟨hc0, hc1, hc2, hf0, hf1, hf2, hlt, -⟩ := id hF
      obtain ⟨rc0, rc1, rc2, rf0, rf1, rf2, rlt, -⟩ := id hR
      have HQ := Lib.hid (HQ.out.gr hg4)
      have HP := Lib.hid (HP.out.gr hg4)
      cases b1
      · skip
        have hfl := hR.fill false none none 0 0 0 0
        obtain ⟨sc0, sc1, sc2, -, -, -, -, -⟩ := hfl.1
        go_wp2
        refine bodyPost_ret (v := .tuple #[fzero, .int .i64 5]) (by simp [results, Tryz.results96, go_sem, sc0, sc1, sc2, fzero]) rfl ?_
        exact ⟨_, 5, rfl, .inr ⟨(fun h => by have := (low_bd HD0.out HB1.out HB2.out).1 h; cases this), rfl, rfl⟩, (((hG1.step hG2).setCell (p := ⟨w.heap.size, 0, none⟩) (Nat.le_refl _) _).setCell (p := ⟨w.heap.size, 1, none⟩) (Nat.le_refl _) _).setCell (p := ⟨w.heap.size, 2, none⟩) (Nat.le_refl _) _⟩
      · skip
        cases b2
        · skip
          have hfl := hR.fill false none none 0 0 0 0
          obtain ⟨sc0, sc1, sc2, -, -, -, -, -⟩ := hfl.1
          go_wp2
          refine bodyPost_ret (v := .tuple #[fzero, .int .i64 5]) (by simp [results, Tryz.results96, go_sem, sc0, sc1, sc2, fzero]) rfl ?_
          exact ⟨_, 5, rfl, .inr ⟨(fun h => by have := (low_bd HD0.out HB1.out HB2.out).1 h; cases this), rfl, rfl⟩, (((hG1.step hG2).setCell (p := ⟨w.heap.size, 0, none⟩) (Nat.le_refl _) _).setCell (p := ⟨w.heap.size, 1, none⟩) (Nat.le_refl _) _).setCell (p := ⟨w.heap.size, 2, none⟩) (Nat.le_refl _) _⟩
        · skip
          have hfl := hR.fill true aq ap (nd (N / N.gcd D)).length (nd (D / N.gcd D)).length cq cp
          obtain ⟨sc0, sc1, sc2, -, -, -, -, -⟩ := hfl.1
          go_wp2
          refine bodyPost_ret (v := .tuple #[.agg #[.bool true, .slice aq (nd (N / N.gcd D)).length cq, .slice ap (nd (D / N.gcd D)).length cp], .int .i64 0]) (by simp [results, Tryz.results96, go_sem, sc0, sc1, sc2]) rfl ?_
          exact ⟨_, 0, rfl, .inl ⟨(low_bd HD0.out HB1.out HB2.out).2 rfl, rfl, low_ok HD0.out HY.out (hfl.2 HQ.out) (hfl.2 HP.out)⟩, (((hG1.step hG2).setCell (p := ⟨w.heap.size, 0, none⟩) (Nat.le_refl _) _).setCell (p := ⟨w.heap.size, 1, none⟩) (Nat.le_refl _) _).setCell (p := ⟨w.heap.size, 2, none⟩) (Nat.le_refl _) _⟩
    · have hN0 : N = 0 := by omega
      have hnl : (nd N).length = 0 := by rw [hN0, nd_zero]; rfl
      have d2 : decide (0 < (nd N).length) = false := by rw [hnl]; rfl
      obtain rfl : y = false := by rw [HY.out, d2]; rfl
      clear h0 hnl hN0
      go_enter Tryz.func96, Tryz.ntmps96
      go_wp2_with fail
      have hR := C3.new w (.bool false) (.slice none 0 0) (.slice none 0 0) 49 w.heap.size rfl
      refine (gcd_any _ _ _ (HN.out.gr (Gr.alloc (Gr.refl _) _)) (HD.out.gr (Gr.alloc (Gr.refl _) _)) hn hd).mono ?_
      rintro e w1 ⟨vg, rfl, hg, hg1⟩
      have HG := Lib.hid hg
      have hR := hR.gr hg1
      have hs1 : w.heap.size < w1.heap.size := by have := Gr.size hg1; simp at this; omega
      have hG1 : Gr w w1 := (Gr.alloc (Gr.refl _) _).step hg1
      clear hg hg1
      go_wp2_with fail
      have hF := C3.new w1 (.bool false) (.slice none 0 0) (.slice none 0 0) 49 w1.heap.size rfl
      have hR := hR.gr (Gr.alloc (Gr.refl w1) (.cells #[.bool false, .slice none 0 0, .slice none 0 0] 49))
      have hG2 : Gr w1 (w1.alloc (.cells #[.bool false, .slice none 0 0, .slice none 0 0] 49)) := Gr.alloc (Gr.refl _) _
      generalize w1.alloc (.cells #[.bool false, .slice none 0 0, .slice none 0 0] 49) = W1 at *
      refine (divmod_any _ _ _ (HN.out.gr (hG1.step hG2)) (HG.out.gr hG2) HG0.out hn hgl).mono ?_
      rintro e w2 ⟨vq, vr, rfl, hq, -, hg2⟩
      obtain ⟨aq, cq, rfl⟩ := num_slice hq
      have hF := hF.gr hg2
      have hR := hR.gr hg2
      have hG2 := hG2.step hg2
      obtain ⟨hc0, hc1, hc2, hf0, hf1, hf2, hlt, -⟩ := id hF
      have HQ := Lib.hid (hF.num (o := 1) hq (.slice aq (nd (N / N.gcd D)).length cq))
      clear hq hg2
      go_wp2_with fail
      have hF := hF.set1 (.slice aq (nd (N / N.gcd D)).length cq)
      have hR := hR.other (o := 1) (.slice aq (nd (N / N.gcd D)).length cq) (Nat.ne_of_lt hs1)
      have hG2 := hG2.setCell (p := ⟨w1.heap.size, 1, none⟩) (Nat.le_refl _) (.slice aq (nd (N / N.gcd D)).length cq)
      clear hc0 hc1 hc2 hf0 hf1 hf2 hlt
      generalize w2.setCell ⟨w1.heap.size, 1, none⟩ (.slice aq (nd (N / N.gcd D)).length cq) = W2 at *
      refine (divmod_any _ _ _ (HD.out.gr (hG1.step hG2)) (HG.out.gr hG2) HG0.out hd hgl).mono ?_
      rintro e w3 ⟨vp, vs, rfl, hp, -, hg3⟩
      obtain ⟨ap, cp, rfl⟩ := num_slice hp
      have hF := hF.gr hg3
      have hR := hR.gr hg3
      have hG2 := hG2.step hg3
      obtain ⟨hc0, hc1, hc2, hf0, hf1, hf2, hlt, -⟩ := id hF
      have HP := Lib.hid (hF.num (o := 2) hp (.slice ap (nd (D / N.gcd D)).length cp))
      have HQ := Lib.hid (hF.num (o := 2) (HQ.out.gr hg3) (.slice ap (nd (D / N.gcd D)).length cp))
      have hF := hF.set2 (.slice ap (nd (D / N.gcd D)).length cp)
      have hR := hR.other (o := 2) (.slice ap (nd (D / N.gcd D)).length cp) (Nat.ne_of_lt hs1)
      have hG2 := hG2.setCell (p := ⟨w1.heap.size, 2, none⟩) (Nat.le_refl _) (.slice ap (nd (D / N.gcd D)).length cp)
      clear hp hg3
      obtain ⟨kc0, kc1, kc2, -, -, -, -, -⟩ := id hF
      go_wp2_with fail
      clear hc0 hc1 hc2 hf0 hf1 hf2 hlt kc0 kc1 kc2
      generalize w3.setCell ⟨w1.heap.size, 2, none⟩ (.slice ap (nd (D / N.gcd D)).length cp) = W3 at *
      refine (fvalid_any false _ _ _ _ _ HQ.out HP.out HPOS.out (fun h => by cases h) HLQ.out HLP.out HB1.out HB2.out).mono ?_
      rintro e w4 ⟨rfl, hg4⟩
      have hF := hF.gr hg4
      have hR := hR.gr hg4
      have hG2 := hG2.step hg4
      obtain ⟨hc0, hc1, hc2, hf0, hf1, hf2, hlt, -⟩ := id hF
      obtain ⟨rc0, rc1, rc2, rf0, rf1, rf2, rlt, -⟩ := id hR
      have HQ := Lib.hid (HQ.out.gr hg4)
      have HP := Lib.hid (HP.out.gr hg4)
      cases b1
      · skip
        have hfl := hR.fill false none none 0 0 0 0
        obtain ⟨sc0, sc1, sc2, -, -, -, -, -⟩ := hfl.1
        go_wp2
        refine bodyPost_ret (v := .tuple #[fzero, .int .i64 5]) (by simp [results, Tryz.results96, go_sem, sc0, sc1, sc2, fzero]) rfl ?_
        exact ⟨_, 5, rfl, .inr ⟨(fun h => by have := (low_bd HD0.out HB1.out HB2.out).1 h; cases this), rfl, rfl⟩, (((hG1.step hG2).setCell (p := ⟨w.heap.size, 0, none⟩) (Nat.le_refl _) _).setCell (p := ⟨w.heap.size, 1, none⟩) (Nat.le_refl _) _).setCell (p := ⟨w.heap.size, 2, none⟩) (Nat.le_refl _) _⟩
      · skip
        cases b2
        · skip
          have hfl := hR.fill false none none 0 0 0 0
          obtain ⟨sc0, sc1, sc2, -, -, -, -, -⟩ := hfl.1
          go_wp2
          refine bodyPost_ret (v := .tuple #[fzero, .int .i64 5]) (by simp [results, Tryz.results96, go_sem, sc0, sc1, sc2, fzero]) rfl ?_
          exact ⟨_, 5, rfl, .inr ⟨(fun h => by have := (low_bd HD0.out HB1.out HB2.out).1 h; cases this), rfl, rfl⟩, (((hG1.step hG2).setCell (p := ⟨w.heap.size, 0, none⟩) (Nat.le_refl _) _).setCell (p := ⟨w.heap.size, 1, none⟩) (Nat.le_refl _) _).setCell (p := ⟨w.heap.size, 2, none⟩) (Nat.le_refl _) _⟩
        · skip
          have hfl := hR.fill false aq ap (nd (N / N.gcd D)).length (nd (D / N.gcd D)).length cq cp
          obtain ⟨sc0, sc1, sc2, -, -, -, -, -⟩ := hfl.1
          go_wp2
          refine bodyPost_ret (v := .tuple #[.agg #[.bool false, .slice aq (nd (N / N.gcd D)).length cq, .slice ap (nd (D / N.gcd D)).length cp], .int .i64 0]) (by simp [results, Tryz.results96, go_sem, sc0, sc1, sc2]) rfl ?_
          exact ⟨_, 0, rfl, .inl ⟨(low_bd HD0.out HB1.out HB2.out).2 rfl, rfl, low_ok HD0.out HY.out (hfl.2 HQ.out) (hfl.2 HP.out)⟩, (((hG1.step hG2).setCell (p := ⟨w.heap.size, 0, none⟩) (Nat.le_refl _) _).setCell (p := ⟨w.heap.size, 1, none⟩) (Nat.le_refl _) _).setCell (p := ⟨w.heap.size, 2, none⟩) (Nat.le_refl _) _⟩
theorem lowest_any {N D : Nat} (x : Bool) (vn vd : Value) (w : World) (hN : Num w vn N) (hD : Num w vd D) (hD0 : 0 < D) (hn : (nd N).length ≤ 256) (hd : (nd D).length ≤ 256) :
    Calls Tryz.prog 96 #[.bool x, vn, vd] w (FRes w (rat x N D)) := lowest_at x _ vn vd w hN hD hD0 hn hd rfl
end Go.Proofs.YtikkobmccagdlaaGreatDoor
/- crossed, Add, Sub, Mul, Div. -/
namespace Go.Proofs.YtikkobmccagdlaaGreatDoor
open Go Go.RowKit Go.Sort
set_option maxRecDepth 100000
set_option linter.unusedVariables false
theorem mul_128 {A B : Nat} (va vb : Value) (w : World) (hA : Num w va A) (hB : Num w vb B) (lA : (nd A).length ≤ 64) (lB : (nd B).length ≤ 64) :
    Calls Tryz.prog 13 #[va, vb] w fun e w' => ∃ v, e = .returned (.tuple #[v, .int .i64 0]) ∧ Num w' v (A * B) ∧ Gr w w' :=
  (mul_any va vb w hA hB (by omega) (by omega)).mono fun e w' h => by
    obtain ⟨v, er, rfl, ⟨-, rfl, hn⟩ | ⟨hf, -⟩, hg⟩ := h
    · exact ⟨v, rfl, hn, hg⟩
    · have := nd_mul' lA lB; omega
theorem add_129 {A B : Nat} (va vb : Value) (w : World) (hA : Num w va A) (hB : Num w vb B) (lA : (nd A).length ≤ 128) (lB : (nd B).length ≤ 128) :
    Calls Tryz.prog 8 #[va, vb] w fun e w' => ∃ v, e = .returned (.tuple #[v, .int .i64 0]) ∧ Num w' v (A + B) ∧ Gr w w' :=
  (add_any va vb w hA hB (by omega) (by omega)).mono fun e w' h => by
    obtain ⟨v, er, rfl, ⟨-, rfl, hn⟩ | ⟨hf, -⟩, hg⟩ := h
    · exact ⟨v, rfl, hn, hg⟩
    · have := nd_add' lA lB; omega
theorem sub_128 {A B : Nat} (va vb : Value) (w : World) (hA : Num w va A) (hB : Num w vb B) (hBA : B ≤ A) (lA : (nd A).length ≤ 128) (lB : (nd B).length ≤ 128) :
    Calls Tryz.prog 11 #[va, vb] w fun e w' => ∃ v, e = .returned (.tuple #[v, .int .i64 0]) ∧ Num w' v (A - B) ∧ Gr w w' :=
  (sub_any va vb w hA hB (by omega) (by omega)).mono fun e w' h => by
    obtain ⟨v, er, rfl, ⟨-, rfl, hn⟩ | ⟨hf, -⟩, hg⟩ := h
    · exact ⟨v, rfl, hn, hg⟩
    · omega
theorem FRes.form {w w' : World} {r : Rat} {e : Ending} (h : FRes w r e w') : ∃ (b : Bool) (a1 a2 : Option Addr) (n1 n2 c1 c2 : Nat) (er : Int), e = .returned (.tuple #[.agg #[.bool b, .slice a1 n1 c1, .slice a2 n2 c2], .int .i64 er]) ∧
    ((Bd 64 r ∧ er = 0 ∧ Red w' (.agg #[.bool b, .slice a1 n1 c1, .slice a2 n2 c2]) r) ∨ (¬ Bd 64 r ∧ er = 5 ∧ Value.agg #[.bool b, .slice a1 n1 c1, .slice a2 n2 c2] = fzero)) ∧ Gr w w' := by
  obtain ⟨v, er, rfl, ⟨h1, h2, vn, vd, rfl, h3, h4⟩ | ⟨h1, h2, rfl⟩, hg⟩ := h
  · obtain ⟨a1, c1, rfl⟩ := num_slice h3
    obtain ⟨a2, c2, rfl⟩ := num_slice h4
    exact ⟨_, a1, a2, _, _, c1, c2, er, rfl, .inl ⟨h1, h2, _, _, rfl, h3, h4⟩, hg⟩
  · exact ⟨false, none, none, 0, 0, 0, 0, er, rfl, .inr ⟨h1, h2, rfl⟩, hg⟩
theorem C3.red {w : World} {q : Nat} {b : Bool} {a1 a2 : Option Addr} {n1 n2 k1 k2 : Nat} (c : C3 w q (.bool b) (.slice a1 n1 k1) (.slice a2 n2 k2)) (b' : Bool) (p1 p2 : Option Addr) (m1 m2 j1 j2 : Nat) {v : Value} {r : Rat} (h : Red w v r) :
    Red (((w.setCell ⟨q, 0, none⟩ (.bool b')).setCell ⟨q, 1, none⟩ (.slice p1 m1 j1)).setCell ⟨q, 2, none⟩ (.slice p2 m2 j2)) v r := by
  obtain ⟨vn, vd, e, h1, h2⟩ := h
  exact ⟨vn, vd, e, (c.fill b' p1 p2 m1 m2 j1 j2).2 h1, (c.fill b' p1 p2 m1 m2 j1 j2).2 h2⟩
theorem C3.three {w W : World} {q : Nat} (g : Gr w W) (hq : w.heap.size ≤ q) (x y z : Value) : Gr w (((W.setCell ⟨q, 0, none⟩ x).setCell ⟨q, 1, none⟩ y).setCell ⟨q, 2, none⟩ z) :=
  ((g.setCell (p := ⟨q, 0, none⟩) hq _).setCell (p := ⟨q, 1, none⟩) hq _).setCell (p := ⟨q, 2, none⟩) hq _
theorem bne_bool (x y : Bool) : (x != y) = (!x == y) := by cases x <;> cases y <;> rfl
set_option maxHeartbeats 1000000 in
theorem crossed_any {A B C D : Nat} (x y : Bool) (va vb vc vd : Value) (w : World) (hA : Num w va A) (hB : Num w vb B) (hC : Num w vc C) (hD : Num w vd D) (lA : (nd A).length ≤ 64) (lB : (nd B).length ≤ 64) (lC : (nd C).length ≤ 64) (lD : (nd D).length ≤ 64) :
    Calls Tryz.prog 95 #[.agg #[.bool x, va, vb], .agg #[.bool y, vc, vd]] w fun e w' => ∃ vl vr, e = .returned (.tuple #[vl, vr]) ∧ Num w' vl (A * D) ∧ Num w' vr (C * B) ∧ Gr w w' := by
  have HA := Lib.hid hA
  have HB := Lib.hid hB
  have HC := Lib.hid hC
  have HD := Lib.hid hD
  obtain ⟨aa, ca, rfl⟩ := num_slice hA
  obtain ⟨ab, cb, rfl⟩ := num_slice hB
  obtain ⟨ac, cc, rfl⟩ := num_slice hC
  obtain ⟨ad, cd, rfl⟩ := num_slice hD
  clear hA hB hC hD
  have hX0 := C3.new w (.bool x) (.slice aa (nd A).length ca) (.slice ab (nd B).length cb) 49 w.heap.size rfl
  have hX1 := hX0.gr (Gr.alloc (Gr.refl _) (.cells #[.bool y, .slice ac (nd C).length cc, .slice ad (nd D).length cd] 49))
  have hY1 := C3.new (w.alloc (.cells #[.bool x, .slice aa (nd A).length ca, .slice ab (nd B).length cb] 49)) (.bool y) (.slice ac (nd C).length cc) (.slice ad (nd D).length cd) 49 (w.heap.size + 1) (by simp)
  have hG1 : Gr w ((w.alloc (.cells #[.bool x, .slice aa (nd A).length ca, .slice ab (nd B).length cb] 49)).alloc (.cells #[.bool y, .slice ac (nd C).length cc, .slice ad (nd D).length cd] 49)) := (Gr.alloc (Gr.refl _) _).alloc _
  go_enter Tryz.func95, Tryz.ntmps95
  go_wp2_with fail
  clear hX0
  generalize (w.alloc (.cells #[.bool x, .slice aa (nd A).length ca, .slice ab (nd B).length cb] 49)).alloc (.cells #[.bool y, .slice ac (nd C).length cc, .slice ad (nd D).length cd] 49) = W0 at *
  have hX := hX1
  have hY := hY1
  have hG := hG1
  clear hX1 hY1 hG1
  obtain ⟨xc0, xc1, xc2, -, -, -, -, -⟩ := id hX
  obtain ⟨yc0, yc1, yc2, -, -, -, -, -⟩ := id hY
  refine (mul_128 _ _ _ (HA.out.gr hG) (HD.out.gr hG) lA lD).mono ?_
  rintro e w1 ⟨vl, rfl, hl, hg⟩
  replace hX := hX.gr hg
  replace hY := hY.gr hg
  replace hG := hG.step hg
  clear xc0 xc1 xc2 yc0 yc1 yc2 hg
  obtain ⟨xc0, xc1, xc2, -, -, -, -, -⟩ := id hX
  obtain ⟨yc0, yc1, yc2, -, -, -, -, -⟩ := id hY
  go_wp2_with fail
  refine (mul_128 _ _ _ (HC.out.gr hG) (HB.out.gr hG) lC lB).mono ?_
  rintro e w2 ⟨vr, rfl, hr, hg⟩
  replace hl := hl.gr hg
  replace hX := hX.gr hg
  replace hY := hY.gr hg
  replace hG := hG.step hg
  clear xc0 xc1 xc2 yc0 yc1 yc2 hg
  obtain ⟨xc0, xc1, xc2, -, -, -, -, -⟩ := id hX
  obtain ⟨yc0, yc1, yc2, -, -, -, -, -⟩ := id hY
  go_wp2_with fail
  go_ret2
  exact ⟨_, _, rfl, hl, hr, hG⟩
set_option maxHeartbeats 2000000 in
theorem fmul_any {a b : Rat} (v u : Value) (w : World) (ha : Fra w v a) (hb : Fra w u b) :
    Calls Tryz.prog 44 #[v, u] w (FRes w (a * b)) := by
  obtain ⟨x, va, vb, A, B, rfl, hA, hB, hB0, hx, lA, lB, rfl⟩ := ha
  obtain ⟨y, vc, vd, C, D, rfl, hC, hD, hD0, hy, lC, lD, rfl⟩ := hb
  rw [rat_mul]
  have HA := Lib.hid hA
  have HB := Lib.hid hB
  have HC := Lib.hid hC
  have HD := Lib.hid hD
  obtain ⟨aa, ca, rfl⟩ := num_slice hA
  obtain ⟨ab, cb, rfl⟩ := num_slice hB
  obtain ⟨ac, cc, rfl⟩ := num_slice hC
  obtain ⟨ad, cd, rfl⟩ := num_slice hD
  clear hA hB hC hD
  have hX0 := C3.new w (.bool x) (.slice aa (nd A).length ca) (.slice ab (nd B).length cb) 49 w.heap.size rfl
  have hX1 := hX0.gr (Gr.alloc (Gr.refl _) (.cells #[.bool y, .slice ac (nd C).length cc, .slice ad (nd D).length cd] 49))
  have hY1 := C3.new (w.alloc (.cells #[.bool x, .slice aa (nd A).length ca, .slice ab (nd B).length cb] 49)) (.bool y) (.slice ac (nd C).length cc) (.slice ad (nd D).length cd) 49 (w.heap.size + 1) (by simp)
  have hG1 : Gr w ((w.alloc (.cells #[.bool x, .slice aa (nd A).length ca, .slice ab (nd B).length cb] 49)).alloc (.cells #[.bool y, .slice ac (nd C).length cc, .slice ad (nd D).length cd] 49)) := (Gr.alloc (Gr.refl _) _).alloc _
  have HB0 := Lib.hid hB0
  have HD0 := Lib.hid hD0
  have HX := Lib.hid hx
  have HY := Lib.hid hy
  have HBD := Lib.hid (Nat.mul_pos hB0 hD0)
  have l1 : (nd (A * C)).length ≤ 256 := by have := nd_mul' lA lC; omega
  have l2 : (nd (B * D)).length ≤ 256 := by have := nd_mul' lB lD; omega
  clear hB0 hD0 hx hy
  rw [bne_bool]
  go_enter Tryz.func44, Tryz.ntmps44
  go_wp2_with fail
  clear hX0
  have hsz : ((w.alloc (.cells #[.bool x, .slice aa (nd A).length ca, .slice ab (nd B).length cb] 49)).alloc (.cells #[.bool y, .slice ac (nd C).length cc, .slice ad (nd D).length cd] 49)).heap.size = w.heap.size + 1 + 1 := by simp
  generalize (w.alloc (.cells #[.bool x, .slice aa (nd A).length ca, .slice ab (nd B).length cb] 49)).alloc (.cells #[.bool y, .slice ac (nd C).length cc, .slice ad (nd D).length cd] 49) = W1 at *
  have hR := C3.new W1 (.bool false) (.slice none 0 0) (.slice none 0 0) 49 (w.heap.size + 1 + 1) hsz.symm
  have hX := hX1.gr (Gr.alloc (Gr.refl _) (.cells #[.bool false, .slice none 0 0, .slice none 0 0] 49))
  have hY := hY1.gr (Gr.alloc (Gr.refl _) (.cells #[.bool false, .slice none 0 0, .slice none 0 0] 49))
  have hG := hG1.alloc (.cells #[.bool false, .slice none 0 0, .slice none 0 0] 49)
  clear hX1 hY1 hG1 hsz
  generalize W1.alloc (.cells #[.bool false, .slice none 0 0, .slice none 0 0] 49) = W0 at *
  obtain ⟨xc0, xc1, xc2, -, -, -, -, -⟩ := id hX
  obtain ⟨yc0, yc1, yc2, -, -, -, -, -⟩ := id hY
  refine (fvalid_yes x _ _ _ (HA.out.gr hG) (HB.out.gr hG) HB0.out HX.out lA lB).mono ?_
  rintro e w1 ⟨rfl, hg⟩
  replace hR := hR.gr hg
  replace hX := hX.gr hg
  replace hY := hY.gr hg
  replace hG := hG.step hg
  clear xc0 xc1 xc2 yc0 yc1 yc2 hg
  obtain ⟨xc0, xc1, xc2, -, -, -, -, -⟩ := id hX
  obtain ⟨yc0, yc1, yc2, -, -, -, -, -⟩ := id hY
  go_wp2_with fail
  refine (fvalid_yes y _ _ _ (HC.out.gr hG) (HD.out.gr hG) HD0.out HY.out lC lD).mono ?_
  rintro e w2 ⟨rfl, hg⟩
  replace hR := hR.gr hg
  replace hX := hX.gr hg
  replace hY := hY.gr hg
  replace hG := hG.step hg
  clear xc0 xc1 xc2 yc0 yc1 yc2 hg
  obtain ⟨xc0, xc1, xc2, -, -, -, -, -⟩ := id hX
  obtain ⟨yc0, yc1, yc2, -, -, -, -, -⟩ := id hY
  go_wp2_with fail
  refine (mul_128 _ _ _ (HA.out.gr hG) (HC.out.gr hG) lA lC).mono ?_
  rintro e w3 ⟨vl, rfl, hl, hg⟩
  replace hR := hR.gr hg
  replace hX := hX.gr hg
  replace hY := hY.gr hg
  replace hG := hG.step hg
  clear xc0 xc1 xc2 yc0 yc1 yc2 hg
  obtain ⟨xc0, xc1, xc2, -, -, -, -, -⟩ := id hX
  obtain ⟨yc0, yc1, yc2, -, -, -, -, -⟩ := id hY
  go_wp2_with fail
  refine (mul_128 _ _ _ (HB.out.gr hG) (HD.out.gr hG) lB lD).mono ?_
  rintro e w4 ⟨vr, rfl, hr, hg⟩
  replace hl := hl.gr hg
  replace hR := hR.gr hg
  replace hX := hX.gr hg
  replace hY := hY.gr hg
  replace hG := hG.step hg
  clear xc0 xc1 xc2 yc0 yc1 yc2 hg
  obtain ⟨xc0, xc1, xc2, -, -, -, -, -⟩ := id hX
  obtain ⟨yc0, yc1, yc2, -, -, -, -, -⟩ := id hY
  go_wp2_with fail
  refine (lowest_any (!x == y) _ _ _ hl hr HBD.out l1 l2).mono ?_
  intro e w5 hres
  obtain ⟨b, a1, a2, n1, n2, c1, c2, er, rfl, hres, hg⟩ := hres.form
  have HRES := Lib.hid hres
  replace hR := hR.gr hg
  replace hG := hG.step hg
  have hfl := hR.fill b a1 a2 n1 n2 c1 c2
  obtain ⟨sc0, sc1, sc2, -, -, -, -, -⟩ := hfl.1
  obtain ⟨rc0, rc1, rc2, rf0, rf1, rf2, rlt, -⟩ := id hR
  clear hres hg
  go_wp2_with fail
  refine bodyPost_ret (v := .tuple #[.agg #[.bool b, .slice a1 n1 c1, .slice a2 n2 c2], .int .i64 er]) (by simp [results, Tryz.results44, go_sem, sc0, sc1, sc2]) rfl ?_
  exact ⟨_, er, rfl, HRES.out.imp (fun h => ⟨h.1, h.2.1, hR.red b a1 a2 n1 n2 c1 c2 h.2.2⟩) id, C3.three hG (by omega) _ _ _⟩
set_option maxHeartbeats 2000000 in
theorem fdiv_any {a b : Rat} (v u : Value) (w : World) (ha : Fra w v a) (hb : Fra w u b) (hb0 : b ≠ 0) :
    Calls Tryz.prog 46 #[v, u] w (FRes w (a / b)) := by
  obtain ⟨x, va, vb, A, B, rfl, hA, hB, hB0, hx, lA, lB, rfl⟩ := ha
  obtain ⟨y, vc, vd, C, D, rfl, hC, hD, hD0, hy, lC, lD, rfl⟩ := hb
  have hC0 : 0 < C := Nat.pos_of_ne_zero fun h => hb0 ((rat_eq_zero hD0).2 h)
  rw [rat_div hD0 hC0, bne_bool]
  have hcl : 0 < (nd C).length := by rw [nd_pos hC0]; simp
  have d1 : (((nd C).length : Int) == 0) = false := by rw [beq_eq_false_iff_ne]; omega
  have HCB := Lib.hid (Nat.mul_pos hC0 hB0)
  clear hb0 hC0
  have HA := Lib.hid hA
  have HB := Lib.hid hB
  have HC := Lib.hid hC
  have HD := Lib.hid hD
  obtain ⟨aa, ca, rfl⟩ := num_slice hA
  obtain ⟨ab, cb, rfl⟩ := num_slice hB
  obtain ⟨ac, cc, rfl⟩ := num_slice hC
  obtain ⟨ad, cd, rfl⟩ := num_slice hD
  clear hA hB hC hD
  have hX0 := C3.new w (.bool x) (.slice aa (nd A).length ca) (.slice ab (nd B).length cb) 49 w.heap.size rfl
  have hX1 := hX0.gr (Gr.alloc (Gr.refl _) (.cells #[.bool y, .slice ac (nd C).length cc, .slice ad (nd D).length cd] 49))
  have hY1 := C3.new (w.alloc (.cells #[.bool x, .slice aa (nd A).length ca, .slice ab (nd B).length cb] 49)) (.bool y) (.slice ac (nd C).length cc) (.slice ad (nd D).length cd) 49 (w.heap.size + 1) (by simp)
  have hG1 : Gr w ((w.alloc (.cells #[.bool x, .slice aa (nd A).length ca, .slice ab (nd B).length cb] 49)).alloc (.cells #[.bool y, .slice ac (nd C).length cc, .slice ad (nd D).length cd] 49)) := (Gr.alloc (Gr.refl _) _).alloc _
  have HB0 := Lib.hid hB0
  have HD0 := Lib.hid hD0
  have HX := Lib.hid hx
  have HY := Lib.hid hy
  have HBD := Lib.hid (Nat.mul_pos hB0 hD0)
  have lp : (nd (A * D)).length ≤ 128 := by have := nd_mul' lA lD; omega
  have lq : (nd (C * B)).length ≤ 128 := by have := nd_mul' lC lB; omega
  have lr : (nd (B * D)).length ≤ 256 := by have := nd_mul' lB lD; omega
  clear hB0 hD0 hx hy
  go_enter Tryz.func46, Tryz.ntmps46
  go_wp2_with fail
  clear hX0
  have hsz : ((w.alloc (.cells #[.bool x, .slice aa (nd A).length ca, .slice ab (nd B).length cb] 49)).alloc (.cells #[.bool y, .slice ac (nd C).length cc, .slice ad (nd D).length cd] 49)).heap.size = w.heap.size + 1 + 1 := by simp
  generalize (w.alloc (.cells #[.bool x, .slice aa (nd A).length ca, .slice ab (nd B).length cb] 49)).alloc (.cells #[.bool y, .slice ac (nd C).length cc, .slice ad (nd D).length cd] 49) = W1 at *
  have hR := C3.new W1 (.bool false) (.slice none 0 0) (.slice none 0 0) 49 (w.heap.size + 1 + 1) hsz.symm
  have hX := hX1.gr (Gr.alloc (Gr.refl _) (.cells #[.bool false, .slice none 0 0, .slice none 0 0] 49))
  have hY := hY1.gr (Gr.alloc (Gr.refl _) (.cells #[.bool false, .slice none 0 0, .slice none 0 0] 49))
  have hG := hG1.alloc (.cells #[.bool false, .slice none 0 0, .slice none 0 0] 49)
  clear hX1 hY1 hG1 hsz
  generalize W1.alloc (.cells #[.bool false, .slice none 0 0, .slice none 0 0] 49) = W0 at *
  obtain ⟨xc0, xc1, xc2, -, -, -, -, -⟩ := id hX
  obtain ⟨yc0, yc1, yc2, -, -, -, -, -⟩ := id hY
  refine (fvalid_yes x _ _ _ (HA.out.gr hG) (HB.out.gr hG) HB0.out HX.out lA lB).mono ?_
  rintro e w1 ⟨rfl, hg⟩
  replace hR := hR.gr hg
  replace hX := hX.gr hg
  replace hY := hY.gr hg
  replace hG := hG.step hg
  clear xc0 xc1 xc2 yc0 yc1 yc2 hg
  obtain ⟨xc0, xc1, xc2, -, -, -, -, -⟩ := id hX
  obtain ⟨yc0, yc1, yc2, -, -, -, -, -⟩ := id hY
  go_wp2_with fail
  refine (fvalid_yes y _ _ _ (HC.out.gr hG) (HD.out.gr hG) HD0.out HY.out lC lD).mono ?_
  rintro e w2 ⟨rfl, hg⟩
  replace hR := hR.gr hg
  replace hX := hX.gr hg
  replace hY := hY.gr hg
  replace hG := hG.step hg
  clear xc0 xc1 xc2 yc0 yc1 yc2 hg
  obtain ⟨xc0, xc1, xc2, -, -, -, -, -⟩ := id hX
  obtain ⟨yc0, yc1, yc2, -, -, -, -, -⟩ := id hY
  go_wp2_with fail
  refine (crossed_any x y _ _ _ _ _ (HA.out.gr hG) (HB.out.gr hG) (HC.out.gr hG) (HD.out.gr hG) lA lB lC lD).mono ?_
  rintro e w3 ⟨vl, vr, rfl, hl, hr, hg⟩
  replace hR := hR.gr hg
  replace hX := hX.gr hg
  replace hY := hY.gr hg
  replace hG := hG.step hg
  clear xc0 xc1 xc2 yc0 yc1 yc2 hg
  obtain ⟨xc0, xc1, xc2, -, -, -, -, -⟩ := id hX
  obtain ⟨yc0, yc1, yc2, -, -, -, -, -⟩ := id hY
  go_wp2_with fail
  refine (lowest_any (!x == y) _ _ _ hl hr HCB.out (by omega) (by omega)).mono ?_
  intro e w5 hres
  obtain ⟨b, a1, a2, n1, n2, c1, c2, er, rfl, hres, hg⟩ := hres.form
  have HRES := Lib.hid hres
  replace hR := hR.gr hg
  replace hG := hG.step hg
  have hfl := hR.fill b a1 a2 n1 n2 c1 c2
  obtain ⟨sc0, sc1, sc2, -, -, -, -, -⟩ := hfl.1
  obtain ⟨rc0, rc1, rc2, rf0, rf1, rf2, rlt, -⟩ := id hR
  clear hres hg
  go_wp2_with fail
  refine bodyPost_ret (v := .tuple #[.agg #[.bool b, .slice a1 n1 c1, .slice a2 n2 c2], .int .i64 er]) (by simp [results, Tryz.results46, go_sem, sc0, sc1, sc2]) rfl ?_
  exact ⟨_, er, rfl, HRES.out.imp (fun h => ⟨h.1, h.2.1, hR.red b a1 a2 n1 n2 c1 c2 h.2.2⟩) id, C3.three hG (by omega) _ _ _⟩
set_option maxHeartbeats 2000000 in
theorem fdiv_zero {a : Rat} (v u : Value) (w : World) (ha : Fra w v a) (hb : Fra w u 0) :
    Calls Tryz.prog 46 #[v, u] w fun e w' => e = .returned (.tuple #[fzero, .int .i64 14]) ∧ Gr w w' := by
  obtain ⟨x, va, vb, A, B, rfl, hA, hB, hB0, hx, lA, lB, rfl⟩ := ha
  obtain ⟨y, vc, vd, C, D, rfl, hC, hD, hD0, hy, lC, lD, hr0⟩ := hb
  have hC0 : C = 0 := (rat_eq_zero hD0).1 hr0.symm
  have d1 : (((nd C).length : Int) == 0) = true := by rw [hC0, nd_zero]; rfl
  clear hr0 hC0
  have HA := Lib.hid hA
  have HB := Lib.hid hB
  have HC := Lib.hid hC
  have HD := Lib.hid hD
  obtain ⟨aa, ca, rfl⟩ := num_slice hA
  obtain ⟨ab, cb, rfl⟩ := num_slice hB
  obtain ⟨ac, cc, rfl⟩ := num_slice hC
  obtain ⟨ad, cd, rfl⟩ := num_slice hD
  clear hA hB hC hD
  have hX0 := C3.new w (.bool x) (.slice aa (nd A).length ca) (.slice ab (nd B).length cb) 49 w.heap.size rfl
  have hX1 := hX0.gr (Gr.alloc (Gr.refl _) (.cells #[.bool y, .slice ac (nd C).length cc, .slice ad (nd D).length cd] 49))
  have hY1 := C3.new (w.alloc (.cells #[.bool x, .slice aa (nd A).length ca, .slice ab (nd B).length cb] 49)) (.bool y) (.slice ac (nd C).length cc) (.slice ad (nd D).length cd) 49 (w.heap.size + 1) (by simp)
  have hG1 : Gr w ((w.alloc (.cells #[.bool x, .slice aa (nd A).length ca, .slice ab (nd B).length cb] 49)).alloc (.cells #[.bool y, .slice ac (nd C).length cc, .slice ad (nd D).length cd] 49)) := (Gr.alloc (Gr.refl _) _).alloc _
  have HB0 := Lib.hid hB0
  have HD0 := Lib.hid hD0
  have HX := Lib.hid hx
  have HY := Lib.hid hy
  have HBD := Lib.hid (Nat.mul_pos hB0 hD0)
  have lp : (nd (A * D)).length ≤ 128 := by have := nd_mul' lA lD; omega
  have lq : (nd (C * B)).length ≤ 128 := by have := nd_mul' lC lB; omega
  have lr : (nd (B * D)).length ≤ 256 := by have := nd_mul' lB lD; omega
  clear hB0 hD0 hx hy
  go_enter Tryz.func46, Tryz.ntmps46
  go_wp2_with fail
  clear hX0
  have hsz : ((w.alloc (.cells #[.bool x, .slice aa (nd A).length ca, .slice ab (nd B).length cb] 49)).alloc (.cells #[.bool y, .slice ac (nd C).length cc, .slice ad (nd D).length cd] 49)).heap.size = w.heap.size + 1 + 1 := by simp
  generalize (w.alloc (.cells #[.bool x, .slice aa (nd A).length ca, .slice ab (nd B).length cb] 49)).alloc (.cells #[.bool y, .slice ac (nd C).length cc, .slice ad (nd D).length cd] 49) = W1 at *
  have hR := C3.new W1 (.bool false) (.slice none 0 0) (.slice none 0 0) 49 (w.heap.size + 1 + 1) hsz.symm
  have hX := hX1.gr (Gr.alloc (Gr.refl _) (.cells #[.bool false, .slice none 0 0, .slice none 0 0] 49))
  have hY := hY1.gr (Gr.alloc (Gr.refl _) (.cells #[.bool false, .slice none 0 0, .slice none 0 0] 49))
  have hG := hG1.alloc (.cells #[.bool false, .slice none 0 0, .slice none 0 0] 49)
  clear hX1 hY1 hG1 hsz
  generalize W1.alloc (.cells #[.bool false, .slice none 0 0, .slice none 0 0] 49) = W0 at *
  obtain ⟨xc0, xc1, xc2, -, -, -, -, -⟩ := id hX
  obtain ⟨yc0, yc1, yc2, -, -, -, -, -⟩ := id hY
  refine (fvalid_yes x _ _ _ (HA.out.gr hG) (HB.out.gr hG) HB0.out HX.out lA lB).mono ?_
  rintro e w1 ⟨rfl, hg⟩
  replace hR := hR.gr hg
  replace hX := hX.gr hg
  replace hY := hY.gr hg
  replace hG := hG.step hg
  clear xc0 xc1 xc2 yc0 yc1 yc2 hg
  obtain ⟨xc0, xc1, xc2, -, -, -, -, -⟩ := id hX
  obtain ⟨yc0, yc1, yc2, -, -, -, -, -⟩ := id hY
  go_wp2_with fail
  refine (fvalid_yes y _ _ _ (HC.out.gr hG) (HD.out.gr hG) HD0.out HY.out lC lD).mono ?_
  rintro e w2 ⟨rfl, hg⟩
  replace hR := hR.gr hg
  replace hX := hX.gr hg
  replace hY := hY.gr hg
  replace hG := hG.step hg
  clear xc0 xc1 xc2 yc0 yc1 yc2 hg
  obtain ⟨xc0, xc1, xc2, -, -, -, -, -⟩ := id hX
  obtain ⟨yc0, yc1, yc2, -, -, -, -, -⟩ := id hY
  have hfl := hR.fill false none none 0 0 0 0
  obtain ⟨sc0, sc1, sc2, -, -, -, -, -⟩ := hfl.1
  obtain ⟨rc0, rc1, rc2, rf0, rf1, rf2, rlt, -⟩ := id hR
  go_wp2_with fail
  refine bodyPost_ret (v := .tuple #[fzero, .int .i64 14]) (by simp [results, Tryz.results46, go_sem, sc0, sc1, sc2, fzero]) rfl ?_
  exact ⟨rfl, C3.three hG (by omega) _ _ _⟩
end Go.Proofs.YtikkobmccagdlaaGreatDoor
/- Add and Sub. -/
namespace Go.Proofs.YtikkobmccagdlaaGreatDoor
open Go Go.RowKit Go.Sort
set_option maxRecDepth 100000
set_option linter.unusedVariables false
set_option maxHeartbeats 2000000 in
theorem fadd_same {A B C D : Nat} (x : Bool) (va vb vc vd : Value) (w : World) (hA : Num w va A) (hB : Num w vb B) (hC : Num w vc C) (hD : Num w vd D) (hB0 : 0 < B) (hD0 : 0 < D) (hx : x = true → 0 < A) (hy : x = true → 0 < C) (lA : (nd A).length ≤ 64) (lB : (nd B).length ≤ 64) (lC : (nd C).length ≤ 64) (lD : (nd D).length ≤ 64) :
    Calls Tryz.prog 39 #[.agg #[.bool x, va, vb], .agg #[.bool x, vc, vd]] w (FRes w (rat x (A * D + C * B) (B * D))) := by
  obtain ⟨y, hxy⟩ : ∃ y, y = x := ⟨_, rfl⟩
  rw [show Value.agg #[.bool x, vc, vd] = Value.agg #[.bool y, vc, vd] by rw [hxy]]
  rw [← hxy] at hy
  have d1 : (x == y) = true := by rw [hxy]; cases x <;> rfl
  clear hxy
  have HA := Lib.hid hA
  have HB := Lib.hid hB
  have HC := Lib.hid hC
  have HD := Lib.hid hD
  obtain ⟨aa, ca, rfl⟩ := num_slice hA
  obtain ⟨ab, cb, rfl⟩ := num_slice hB
  obtain ⟨ac, cc, rfl⟩ := num_slice hC
  obtain ⟨ad, cd, rfl⟩ := num_slice hD
  clear hA hB hC hD
  have hX0 := C3.new w (.bool x) (.slice aa (nd A).length ca) (.slice ab (nd B).length cb) 49 w.heap.size rfl
  have hX1 := hX0.gr (Gr.alloc (Gr.refl _) (.cells #[.bool y, .slice ac (nd C).length cc, .slice ad (nd D).length cd] 49))
  have hY1 := C3.new (w.alloc (.cells #[.bool x, .slice aa (nd A).length ca, .slice ab (nd B).length cb] 49)) (.bool y) (.slice ac (nd C).length cc) (.slice ad (nd D).length cd) 49 (w.heap.size + 1) (by simp)
  have hG1 : Gr w ((w.alloc (.cells #[.bool x, .slice aa (nd A).length ca, .slice ab (nd B).length cb] 49)).alloc (.cells #[.bool y, .slice ac (nd C).length cc, .slice ad (nd D).length cd] 49)) := (Gr.alloc (Gr.refl _) _).alloc _
  have HB0 := Lib.hid hB0
  have HD0 := Lib.hid hD0
  have HX := Lib.hid hx
  have HY := Lib.hid hy
  have HBD := Lib.hid (Nat.mul_pos hB0 hD0)
  have lp : (nd (A * D)).length ≤ 128 := by have := nd_mul' lA lD; omega
  have lq : (nd (C * B)).length ≤ 128 := by have := nd_mul' lC lB; omega
  have lr : (nd (B * D)).length ≤ 256 := by have := nd_mul' lB lD; omega
  clear hB0 hD0 hx hy
  have ls : (nd (A * D + C * B)).length ≤ 256 := by have := nd_add' lp lq; omega
  go_enter Tryz.func39, Tryz.ntmps39
  go_wp2_with fail
  clear hX0
  have hsz : ((w.alloc (.cells #[.bool x, .slice aa (nd A).length ca, .slice ab (nd B).length cb] 49)).alloc (.cells #[.bool y, .slice ac (nd C).length cc, .slice ad (nd D).length cd] 49)).heap.size = w.heap.size + 1 + 1 := by simp
  generalize (w.alloc (.cells #[.bool x, .slice aa (nd A).length ca, .slice ab (nd B).length cb] 49)).alloc (.cells #[.bool y, .slice ac (nd C).length cc, .slice ad (nd D).length cd] 49) = W1 at *
  have hR := C3.new W1 (.bool false) (.slice none 0 0) (.slice none 0 0) 49 (w.heap.size + 1 + 1) hsz.symm
  have hX := hX1.gr (Gr.alloc (Gr.refl _) (.cells #[.bool false, .slice none 0 0, .slice none 0 0] 49))
  have hY := hY1.gr (Gr.alloc (Gr.refl _) (.cells #[.bool false, .slice none 0 0, .slice none 0 0] 49))
  have hG := hG1.alloc (.cells #[.bool false, .slice none 0 0, .slice none 0 0] 49)
  clear hX1 hY1 hG1 hsz
  generalize W1.alloc (.cells #[.bool false, .slice none 0 0, .slice none 0 0] 49) = W0 at *
  obtain ⟨xc0, xc1, xc2, -, -, -, -, -⟩ := id hX
  obtain ⟨yc0, yc1, yc2, -, -, -, -, -⟩ := id hY
  refine (fvalid_yes x _ _ _ (HA.out.gr hG) (HB.out.gr hG) HB0.out HX.out lA lB).mono ?_
  rintro e w1 ⟨rfl, hg⟩
  replace hR := hR.gr hg
  replace hX := hX.gr hg
  replace hY := hY.gr hg
  replace hG := hG.step hg
  clear xc0 xc1 xc2 yc0 yc1 yc2 hg
  obtain ⟨xc0, xc1, xc2, -, -, -, -, -⟩ := id hX
  obtain ⟨yc0, yc1, yc2, -, -, -, -, -⟩ := id hY
  go_wp2_with fail
  refine (fvalid_yes y _ _ _ (HC.out.gr hG) (HD.out.gr hG) HD0.out HY.out lC lD).mono ?_
  rintro e w2 ⟨rfl, hg⟩
  replace hR := hR.gr hg
  replace hX := hX.gr hg
  replace hY := hY.gr hg
  replace hG := hG.step hg
  clear xc0 xc1 xc2 yc0 yc1 yc2 hg
  obtain ⟨xc0, xc1, xc2, -, -, -, -, -⟩ := id hX
  obtain ⟨yc0, yc1, yc2, -, -, -, -, -⟩ := id hY
  go_wp2_with fail
  refine (crossed_any x y _ _ _ _ _ (HA.out.gr hG) (HB.out.gr hG) (HC.out.gr hG) (HD.out.gr hG) lA lB lC lD).mono ?_
  rintro e w3 ⟨vl, vr, rfl, hl, hr, hg⟩
  replace hR := hR.gr hg
  replace hX := hX.gr hg
  replace hY := hY.gr hg
  replace hG := hG.step hg
  clear xc0 xc1 xc2 yc0 yc1 yc2 hg
  obtain ⟨xc0, xc1, xc2, -, -, -, -, -⟩ := id hX
  obtain ⟨yc0, yc1, yc2, -, -, -, -, -⟩ := id hY
  go_wp2_with fail
  refine (mul_128 _ _ _ (HB.out.gr hG) (HD.out.gr hG) lB lD).mono ?_
  rintro e w4 ⟨vm, rfl, hm, hg⟩
  replace hl := hl.gr hg
  replace hr := hr.gr hg
  replace hR := hR.gr hg
  replace hX := hX.gr hg
  replace hY := hY.gr hg
  replace hG := hG.step hg
  clear xc0 xc1 xc2 yc0 yc1 yc2 hg
  obtain ⟨xc0, xc1, xc2, -, -, -, -, -⟩ := id hX
  obtain ⟨yc0, yc1, yc2, -, -, -, -, -⟩ := id hY
  go_wp2_with fail
  refine (add_129 _ _ _ hl hr lp lq).mono ?_
  rintro e w5 ⟨vs, rfl, hs, hg⟩
  replace hm := hm.gr hg
  replace hR := hR.gr hg
  replace hX := hX.gr hg
  replace hY := hY.gr hg
  replace hG := hG.step hg
  clear xc0 xc1 xc2 yc0 yc1 yc2 hg
  obtain ⟨xc0, xc1, xc2, -, -, -, -, -⟩ := id hX
  obtain ⟨yc0, yc1, yc2, -, -, -, -, -⟩ := id hY
  go_wp2_with fail
  refine (lowest_any x _ _ _ hs hm HBD.out ls lr).mono ?_
  intro e w6 hres
  obtain ⟨b, a1, a2, n1, n2, c1, c2, er, rfl, hres, hg⟩ := hres.form
  have HRES := Lib.hid hres
  replace hR := hR.gr hg
  replace hG := hG.step hg
  have hfl := hR.fill b a1 a2 n1 n2 c1 c2
  obtain ⟨sc0, sc1, sc2, -, -, -, -, -⟩ := hfl.1
  obtain ⟨rc0, rc1, rc2, rf0, rf1, rf2, rlt, -⟩ := id hR
  clear hres hg
  go_wp2_with fail
  refine bodyPost_ret (v := .tuple #[.agg #[.bool b, .slice a1 n1 c1, .slice a2 n2 c2], .int .i64 er]) (by simp [results, Tryz.results39, go_sem, sc0, sc1, sc2]) rfl ?_
  exact ⟨_, er, rfl, HRES.out.imp (fun h => ⟨h.1, h.2.1, hR.red b a1 a2 n1 n2 c1 c2 h.2.2⟩) id, C3.three hG (by omega) _ _ _⟩
set_option maxHeartbeats 2000000 in
theorem fadd_diff {A B C D : Nat} (x : Bool) (va vb vc vd : Value) (w : World) (hA : Num w va A) (hB : Num w vb B) (hC : Num w vc C) (hD : Num w vd D) (hB0 : 0 < B) (hD0 : 0 < D) (hx : x = true → 0 < A) (hy : (!x) = true → 0 < C) (lA : (nd A).length ≤ 64) (lB : (nd B).length ≤ 64) (lC : (nd C).length ≤ 64) (lD : (nd D).length ≤ 64) :
    Calls Tryz.prog 39 #[.agg #[.bool x, va, vb], .agg #[.bool (!x), vc, vd]] w (FRes w (mkRat (sgn x A * D + sgn (!x) C * B) (B * D))) := by
  by_cases hc : C * B ≤ A * D
  · rw [rat_diff_ge hc]
    obtain ⟨y, hxy⟩ : ∃ y, y = !x := ⟨_, rfl⟩
    rw [show Value.agg #[.bool (!x), vc, vd] = Value.agg #[.bool y, vc, vd] by rw [hxy]]
    rw [← hxy] at hy
    have d1 : (x == y) = false := by rw [hxy]; cases x <;> rfl
    have HC1 : Hid (0 ≤ ncmp (A * D) (C * B)) := Lib.hid (by rcases Nat.eq_or_lt_of_le hc with h | h; rw [h, ncmp_eq]; omega; rw [ncmp_gt h]; omega)
    have HLE := Lib.hid hc
    clear hxy hc
    have HA := Lib.hid hA
    have HB := Lib.hid hB
    have HC := Lib.hid hC
    have HD := Lib.hid hD
    obtain ⟨aa, ca, rfl⟩ := num_slice hA
    obtain ⟨ab, cb, rfl⟩ := num_slice hB
    obtain ⟨ac, cc, rfl⟩ := num_slice hC
    obtain ⟨ad, cd, rfl⟩ := num_slice hD
    clear hA hB hC hD
    have hX0 := C3.new w (.bool x) (.slice aa (nd A).length ca) (.slice ab (nd B).length cb) 49 w.heap.size rfl
    have hX1 := hX0.gr (Gr.alloc (Gr.refl _) (.cells #[.bool y, .slice ac (nd C).length cc, .slice ad (nd D).length cd] 49))
    have hY1 := C3.new (w.alloc (.cells #[.bool x, .slice aa (nd A).length ca, .slice ab (nd B).length cb] 49)) (.bool y) (.slice ac (nd C).length cc) (.slice ad (nd D).length cd) 49 (w.heap.size + 1) (by simp)
    have hG1 : Gr w ((w.alloc (.cells #[.bool x, .slice aa (nd A).length ca, .slice ab (nd B).length cb] 49)).alloc (.cells #[.bool y, .slice ac (nd C).length cc, .slice ad (nd D).length cd] 49)) := (Gr.alloc (Gr.refl _) _).alloc _
    have HB0 := Lib.hid hB0
    have HD0 := Lib.hid hD0
    have HX := Lib.hid hx
    have HY := Lib.hid hy
    have HBD := Lib.hid (Nat.mul_pos hB0 hD0)
    have lp : (nd (A * D)).length ≤ 128 := by have := nd_mul' lA lD; omega
    have lq : (nd (C * B)).length ≤ 128 := by have := nd_mul' lC lB; omega
    have lr : (nd (B * D)).length ≤ 256 := by have := nd_mul' lB lD; omega
    clear hB0 hD0 hx hy
    have ls : (nd (A * D - C * B)).length ≤ 256 := by have := nd_le_len' lp (Nat.sub_le (A * D) (C * B)); omega
    go_enter Tryz.func39, Tryz.ntmps39
    go_wp2_with fail
    clear hX0
    have hsz : ((w.alloc (.cells #[.bool x, .slice aa (nd A).length ca, .slice ab (nd B).length cb] 49)).alloc (.cells #[.bool y, .slice ac (nd C).length cc, .slice ad (nd D).length cd] 49)).heap.size = w.heap.size + 1 + 1 := by simp
    generalize (w.alloc (.cells #[.bool x, .slice aa (nd A).length ca, .slice ab (nd B).length cb] 49)).alloc (.cells #[.bool y, .slice ac (nd C).length cc, .slice ad (nd D).length cd] 49) = W1 at *
    have hR := C3.new W1 (.bool false) (.slice none 0 0) (.slice none 0 0) 49 (w.heap.size + 1 + 1) hsz.symm
    have hX := hX1.gr (Gr.alloc (Gr.refl _) (.cells #[.bool false, .slice none 0 0, .slice none 0 0] 49))
    have hY := hY1.gr (Gr.alloc (Gr.refl _) (.cells #[.bool false, .slice none 0 0, .slice none 0 0] 49))
    have hG := hG1.alloc (.cells #[.bool false, .slice none 0 0, .slice none 0 0] 49)
    clear hX1 hY1 hG1 hsz
    generalize W1.alloc (.cells #[.bool false, .slice none 0 0, .slice none 0 0] 49) = W0 at *
    obtain ⟨xc0, xc1, xc2, -, -, -, -, -⟩ := id hX
    obtain ⟨yc0, yc1, yc2, -, -, -, -, -⟩ := id hY
    refine (fvalid_yes x _ _ _ (HA.out.gr hG) (HB.out.gr hG) HB0.out HX.out lA lB).mono ?_
    rintro e w1 ⟨rfl, hg⟩
    replace hR := hR.gr hg
    replace hX := hX.gr hg
    replace hY := hY.gr hg
    replace hG := hG.step hg
    clear xc0 xc1 xc2 yc0 yc1 yc2 hg
    obtain ⟨xc0, xc1, xc2, -, -, -, -, -⟩ := id hX
    obtain ⟨yc0, yc1, yc2, -, -, -, -, -⟩ := id hY
    go_wp2_with fail
    refine (fvalid_yes y _ _ _ (HC.out.gr hG) (HD.out.gr hG) HD0.out HY.out lC lD).mono ?_
    rintro e w2 ⟨rfl, hg⟩
    replace hR := hR.gr hg
    replace hX := hX.gr hg
    replace hY := hY.gr hg
    replace hG := hG.step hg
    clear xc0 xc1 xc2 yc0 yc1 yc2 hg
    obtain ⟨xc0, xc1, xc2, -, -, -, -, -⟩ := id hX
    obtain ⟨yc0, yc1, yc2, -, -, -, -, -⟩ := id hY
    go_wp2_with fail
    refine (crossed_any x y _ _ _ _ _ (HA.out.gr hG) (HB.out.gr hG) (HC.out.gr hG) (HD.out.gr hG) lA lB lC lD).mono ?_
    rintro e w3 ⟨vl, vr, rfl, hl, hr, hg⟩
    replace hR := hR.gr hg
    replace hX := hX.gr hg
    replace hY := hY.gr hg
    replace hG := hG.step hg
    clear xc0 xc1 xc2 yc0 yc1 yc2 hg
    obtain ⟨xc0, xc1, xc2, -, -, -, -, -⟩ := id hX
    obtain ⟨yc0, yc1, yc2, -, -, -, -, -⟩ := id hY
    go_wp2_with fail
    refine (mul_128 _ _ _ (HB.out.gr hG) (HD.out.gr hG) lB lD).mono ?_
    rintro e w4 ⟨vm, rfl, hm, hg⟩
    replace hl := hl.gr hg
    replace hr := hr.gr hg
    replace hR := hR.gr hg
    replace hX := hX.gr hg
    replace hY := hY.gr hg
    replace hG := hG.step hg
    clear xc0 xc1 xc2 yc0 yc1 yc2 hg
    obtain ⟨xc0, xc1, xc2, -, -, -, -, -⟩ := id hX
    obtain ⟨yc0, yc1, yc2, -, -, -, -, -⟩ := id hY
    go_wp2_with fail
    refine (cmp_any _ _ _ hl hr (by omega)).mono ?_
    rintro e w5 ⟨rfl, hg⟩
    have d2 : decide (ncmp (A * D) (C * B) < 0) = false := by have := HC1.out; simpa using this
    replace hl := hl.gr hg
    replace hr := hr.gr hg
    replace hm := hm.gr hg
    replace hR := hR.gr hg
    replace hX := hX.gr hg
    replace hY := hY.gr hg
    replace hG := hG.step hg
    clear xc0 xc1 xc2 yc0 yc1 yc2 hg
    obtain ⟨xc0, xc1, xc2, -, -, -, -, -⟩ := id hX
    obtain ⟨yc0, yc1, yc2, -, -, -, -, -⟩ := id hY
    go_wp2_with fail
    refine (sub_128 _ _ _ hl hr HLE.out lp lq).mono ?_
    rintro e w5 ⟨vs, rfl, hs, hg⟩
    replace hm := hm.gr hg
    replace hR := hR.gr hg
    replace hX := hX.gr hg
    replace hY := hY.gr hg
    replace hG := hG.step hg
    clear xc0 xc1 xc2 yc0 yc1 yc2 hg
    obtain ⟨xc0, xc1, xc2, -, -, -, -, -⟩ := id hX
    obtain ⟨yc0, yc1, yc2, -, -, -, -, -⟩ := id hY
    go_wp2_with fail
    refine (lowest_any x _ _ _ hs hm HBD.out ls lr).mono ?_
    intro e w6 hres
    obtain ⟨b, a1, a2, n1, n2, c1, c2, er, rfl, hres, hg⟩ := hres.form
    have HRES := Lib.hid hres
    replace hR := hR.gr hg
    replace hG := hG.step hg
    have hfl := hR.fill b a1 a2 n1 n2 c1 c2
    obtain ⟨sc0, sc1, sc2, -, -, -, -, -⟩ := hfl.1
    obtain ⟨rc0, rc1, rc2, rf0, rf1, rf2, rlt, -⟩ := id hR
    clear hres hg
    go_wp2_with fail
    refine bodyPost_ret (v := .tuple #[.agg #[.bool b, .slice a1 n1 c1, .slice a2 n2 c2], .int .i64 er]) (by simp [results, Tryz.results39, go_sem, sc0, sc1, sc2]) rfl ?_
    exact ⟨_, er, rfl, HRES.out.imp (fun h => ⟨h.1, h.2.1, hR.red b a1 a2 n1 n2 c1 c2 h.2.2⟩) id, C3.three hG (by omega) _ _ _⟩
  · have hlt : A * D < C * B := by omega
    rw [rat_diff_lt (Nat.le_of_lt hlt)]
    obtain ⟨y, hxy⟩ : ∃ y, y = !x := ⟨_, rfl⟩
    rw [show Value.agg #[.bool (!x), vc, vd] = Value.agg #[.bool y, vc, vd] by rw [hxy]]
    rw [← hxy] at hy ⊢
    have d1 : (x == y) = false := by rw [hxy]; cases x <;> rfl
    have HC1 : Hid (ncmp (A * D) (C * B) = -1) := Lib.hid (ncmp_lt hlt)
    have HLE := Lib.hid (Nat.le_of_lt hlt)
    clear hxy hc hlt
    have HA := Lib.hid hA
    have HB := Lib.hid hB
    have HC := Lib.hid hC
    have HD := Lib.hid hD
    obtain ⟨aa, ca, rfl⟩ := num_slice hA
    obtain ⟨ab, cb, rfl⟩ := num_slice hB
    obtain ⟨ac, cc, rfl⟩ := num_slice hC
    obtain ⟨ad, cd, rfl⟩ := num_slice hD
    clear hA hB hC hD
    have hX0 := C3.new w (.bool x) (.slice aa (nd A).length ca) (.slice ab (nd B).length cb) 49 w.heap.size rfl
    have hX1 := hX0.gr (Gr.alloc (Gr.refl _) (.cells #[.bool y, .slice ac (nd C).length cc, .slice ad (nd D).length cd] 49))
    have hY1 := C3.new (w.alloc (.cells #[.bool x, .slice aa (nd A).length ca, .slice ab (nd B).length cb] 49)) (.bool y) (.slice ac (nd C).length cc) (.slice ad (nd D).length cd) 49 (w.heap.size + 1) (by simp)
    have hG1 : Gr w ((w.alloc (.cells #[.bool x, .slice aa (nd A).length ca, .slice ab (nd B).length cb] 49)).alloc (.cells #[.bool y, .slice ac (nd C).length cc, .slice ad (nd D).length cd] 49)) := (Gr.alloc (Gr.refl _) _).alloc _
    have HB0 := Lib.hid hB0
    have HD0 := Lib.hid hD0
    have HX := Lib.hid hx
    have HY := Lib.hid hy
    have HBD := Lib.hid (Nat.mul_pos hB0 hD0)
    have lp : (nd (A * D)).length ≤ 128 := by have := nd_mul' lA lD; omega
    have lq : (nd (C * B)).length ≤ 128 := by have := nd_mul' lC lB; omega
    have lr : (nd (B * D)).length ≤ 256 := by have := nd_mul' lB lD; omega
    clear hB0 hD0 hx hy
    have ls : (nd (C * B - A * D)).length ≤ 256 := by have := nd_le_len' lq (Nat.sub_le (C * B) (A * D)); omega
    go_enter Tryz.func39, Tryz.ntmps39
    go_wp2_with fail
    clear hX0
    have hsz : ((w.alloc (.cells #[.bool x, .slice aa (nd A).length ca, .slice ab (nd B).length cb] 49)).alloc (.cells #[.bool y, .slice ac (nd C).length cc, .slice ad (nd D).length cd] 49)).heap.size = w.heap.size + 1 + 1 := by simp
    generalize (w.alloc (.cells #[.bool x, .slice aa (nd A).length ca, .slice ab (nd B).length cb] 49)).alloc (.cells #[.bool y, .slice ac (nd C).length cc, .slice ad (nd D).length cd] 49) = W1 at *
    have hR := C3.new W1 (.bool false) (.slice none 0 0) (.slice none 0 0) 49 (w.heap.size + 1 + 1) hsz.symm
    have hX := hX1.gr (Gr.alloc (Gr.refl _) (.cells #[.bool false, .slice none 0 0, .slice none 0 0] 49))
    have hY := hY1.gr (Gr.alloc (Gr.refl _) (.cells #[.bool false, .slice none 0 0, .slice none 0 0] 49))
    have hG := hG1.alloc (.cells #[.bool false, .slice none 0 0, .slice none 0 0] 49)
    clear hX1 hY1 hG1 hsz
    generalize W1.alloc (.cells #[.bool false, .slice none 0 0, .slice none 0 0] 49) = W0 at *
    obtain ⟨xc0, xc1, xc2, -, -, -, -, -⟩ := id hX
    obtain ⟨yc0, yc1, yc2, -, -, -, -, -⟩ := id hY
    refine (fvalid_yes x _ _ _ (HA.out.gr hG) (HB.out.gr hG) HB0.out HX.out lA lB).mono ?_
    rintro e w1 ⟨rfl, hg⟩
    replace hR := hR.gr hg
    replace hX := hX.gr hg
    replace hY := hY.gr hg
    replace hG := hG.step hg
    clear xc0 xc1 xc2 yc0 yc1 yc2 hg
    obtain ⟨xc0, xc1, xc2, -, -, -, -, -⟩ := id hX
    obtain ⟨yc0, yc1, yc2, -, -, -, -, -⟩ := id hY
    go_wp2_with fail
    refine (fvalid_yes y _ _ _ (HC.out.gr hG) (HD.out.gr hG) HD0.out HY.out lC lD).mono ?_
    rintro e w2 ⟨rfl, hg⟩
    replace hR := hR.gr hg
    replace hX := hX.gr hg
    replace hY := hY.gr hg
    replace hG := hG.step hg
    clear xc0 xc1 xc2 yc0 yc1 yc2 hg
    obtain ⟨xc0, xc1, xc2, -, -, -, -, -⟩ := id hX
    obtain ⟨yc0, yc1, yc2, -, -, -, -, -⟩ := id hY
    go_wp2_with fail
    refine (crossed_any x y _ _ _ _ _ (HA.out.gr hG) (HB.out.gr hG) (HC.out.gr hG) (HD.out.gr hG) lA lB lC lD).mono ?_
    rintro e w3 ⟨vl, vr, rfl, hl, hr, hg⟩
    replace hR := hR.gr hg
    replace hX := hX.gr hg
    replace hY := hY.gr hg
    replace hG := hG.step hg
    clear xc0 xc1 xc2 yc0 yc1 yc2 hg
    obtain ⟨xc0, xc1, xc2, -, -, -, -, -⟩ := id hX
    obtain ⟨yc0, yc1, yc2, -, -, -, -, -⟩ := id hY
    go_wp2_with fail
    refine (mul_128 _ _ _ (HB.out.gr hG) (HD.out.gr hG) lB lD).mono ?_
    rintro e w4 ⟨vm, rfl, hm, hg⟩
    replace hl := hl.gr hg
    replace hr := hr.gr hg
    replace hR := hR.gr hg
    replace hX := hX.gr hg
    replace hY := hY.gr hg
    replace hG := hG.step hg
    clear xc0 xc1 xc2 yc0 yc1 yc2 hg
    obtain ⟨xc0, xc1, xc2, -, -, -, -, -⟩ := id hX
    obtain ⟨yc0, yc1, yc2, -, -, -, -, -⟩ := id hY
    go_wp2_with fail
    refine (cmp_any _ _ _ hl hr (by omega)).mono ?_
    rintro e w5 ⟨rfl, hg⟩
    rw [HC1.out]
    replace hl := hl.gr hg
    replace hr := hr.gr hg
    replace hm := hm.gr hg
    replace hR := hR.gr hg
    replace hX := hX.gr hg
    replace hY := hY.gr hg
    replace hG := hG.step hg
    clear xc0 xc1 xc2 yc0 yc1 yc2 hg
    obtain ⟨xc0, xc1, xc2, -, -, -, -, -⟩ := id hX
    obtain ⟨yc0, yc1, yc2, -, -, -, -, -⟩ := id hY
    go_wp2_with fail
    go_quiet (fail)
    have hg : Gr w5 (w5.drewN nq) := Gr.drewN (Gr.refl _) nq
    generalize w5.drewN nq = w7 at *
    replace hl := hl.gr hg
    replace hr := hr.gr hg
    replace hm := hm.gr hg
    replace hR := hR.gr hg
    replace hX := hX.gr hg
    replace hY := hY.gr hg
    replace hG := hG.step hg
    clear xc0 xc1 xc2 yc0 yc1 yc2 hg
    obtain ⟨xc0, xc1, xc2, -, -, -, -, -⟩ := id hX
    obtain ⟨yc0, yc1, yc2, -, -, -, -, -⟩ := id hY
    go_wp2_with fail
    refine (sub_128 _ _ _ hr hl HLE.out lq lp).mono ?_
    rintro e w8 ⟨vs, rfl, hs, hg⟩
    replace hm := hm.gr hg
    replace hR := hR.gr hg
    replace hX := hX.gr hg
    replace hY := hY.gr hg
    replace hG := hG.step hg
    clear xc0 xc1 xc2 yc0 yc1 yc2 hg
    obtain ⟨xc0, xc1, xc2, -, -, -, -, -⟩ := id hX
    obtain ⟨yc0, yc1, yc2, -, -, -, -, -⟩ := id hY
    go_wp2_with fail
    refine (lowest_any y _ _ _ hs hm HBD.out ls lr).mono ?_
    intro e w6 hres
    obtain ⟨b, a1, a2, n1, n2, c1, c2, er, rfl, hres, hg⟩ := hres.form
    have HRES := Lib.hid hres
    replace hR := hR.gr hg
    replace hG := hG.step hg
    have hfl := hR.fill b a1 a2 n1 n2 c1 c2
    obtain ⟨sc0, sc1, sc2, -, -, -, -, -⟩ := hfl.1
    obtain ⟨rc0, rc1, rc2, rf0, rf1, rf2, rlt, -⟩ := id hR
    clear hres hg
    go_wp2_with fail
    refine bodyPost_ret (v := .tuple #[.agg #[.bool b, .slice a1 n1 c1, .slice a2 n2 c2], .int .i64 er]) (by simp [results, Tryz.results39, go_sem, sc0, sc1, sc2]) rfl ?_
    exact ⟨_, er, rfl, HRES.out.imp (fun h => ⟨h.1, h.2.1, hR.red b a1 a2 n1 n2 c1 c2 h.2.2⟩) id, C3.three hG (by omega) _ _ _⟩
theorem fadd_any {a b : Rat} (v u : Value) (w : World) (ha : Fra w v a) (hb : Fra w u b) :
    Calls Tryz.prog 39 #[v, u] w (FRes w (a + b)) := by
  obtain ⟨x, va, vb, A, B, rfl, hA, hB, hB0, hx, lA, lB, rfl⟩ := ha
  obtain ⟨y, vc, vd, C, D, rfl, hC, hD, hD0, hy, lC, lD, rfl⟩ := hb
  rw [rat_add hB0 hD0]
  by_cases h : y = x
  · subst h
    rw [rat_same]
    exact fadd_same _ _ _ _ _ w hA hB hC hD hB0 hD0 hx hy lA lB lC lD
  · obtain rfl : y = !x := by cases x <;> cases y <;> simp_all
    exact fadd_diff _ _ _ _ _ w hA hB hC hD hB0 hD0 hx hy lA lB lC lD
end Go.Proofs.YtikkobmccagdlaaGreatDoor
/- Sub, Reduce, Same. -/
namespace Go.Proofs.YtikkobmccagdlaaGreatDoor
open Go Go.RowKit Go.Sort
set_option maxRecDepth 100000
set_option linter.unusedVariables false
set_option maxHeartbeats 2000000 in
theorem fsub_any {a b : Rat} (v u : Value) (w : World) (ha : Fra w v a) (hb : Fra w u b) :
    Calls Tryz.prog 42 #[v, u] w (FRes w (a - b)) := by
  obtain ⟨x, va, vb, A, B, rfl, hA, hB, hB0, hx, lA, lB, rfl⟩ := ha
  obtain ⟨y, vc, vd, C, D, rfl, hC, hD, hD0, hy, lC, lD, rfl⟩ := hb
  rw [Rat.sub_eq_add_neg, rat_opp hy]
  have hz : ∃ z : Bool, (!y && decide (0 < C)) = z := ⟨_, rfl⟩
  obtain ⟨z, hz⟩ := hz
  rw [hz]
  have HZ := Lib.hid hz
  clear hz
  cases y
  · by_cases h0 : 0 < C
    · obtain rfl : z = true := by rw [← HZ.out, decide_eq_true h0]; rfl
      have hnl : 0 < (nd C).length := by rw [nd_pos h0]; simp
      have d2 : decide (0 < (nd C).length) = true := by simpa using hnl
      have HNP := Lib.hid h0
      clear h0 hnl
      have HA := Lib.hid hA
      have HB := Lib.hid hB
      have HC := Lib.hid hC
      have HD := Lib.hid hD
      obtain ⟨aa, ca, rfl⟩ := num_slice hA
      obtain ⟨ab, cb, rfl⟩ := num_slice hB
      obtain ⟨ac, cc, rfl⟩ := num_slice hC
      obtain ⟨ad, cd, rfl⟩ := num_slice hD
      clear hA hB hC hD
      have hX0 := C3.new w (.bool x) (.slice aa (nd A).length ca) (.slice ab (nd B).length cb) 49 w.heap.size rfl
      have hX1 := hX0.gr (Gr.alloc (Gr.refl _) (.cells #[.bool false, .slice ac (nd C).length cc, .slice ad (nd D).length cd] 49))
      have hY1 := C3.new (w.alloc (.cells #[.bool x, .slice aa (nd A).length ca, .slice ab (nd B).length cb] 49)) (.bool false) (.slice ac (nd C).length cc) (.slice ad (nd D).length cd) 49 (w.heap.size + 1) (by simp)
      have hG1 : Gr w ((w.alloc (.cells #[.bool x, .slice aa (nd A).length ca, .slice ab (nd B).length cb] 49)).alloc (.cells #[.bool false, .slice ac (nd C).length cc, .slice ad (nd D).length cd] 49)) := (Gr.alloc (Gr.refl _) _).alloc _
      have HB0 := Lib.hid hB0
      have HD0 := Lib.hid hD0
      have HX := Lib.hid hx
      have HY := Lib.hid hy
      have HBD := Lib.hid (Nat.mul_pos hB0 hD0)
      have lp : (nd (A * D)).length ≤ 128 := by have := nd_mul' lA lD; omega
      have lq : (nd (C * B)).length ≤ 128 := by have := nd_mul' lC lB; omega
      have lr : (nd (B * D)).length ≤ 256 := by have := nd_mul' lB lD; omega
      clear hB0 hD0 hx hy
      go_enter Tryz.func42, Tryz.ntmps42
      go_wp2_with fail
      clear hX0
      have hsz : ((w.alloc (.cells #[.bool x, .slice aa (nd A).length ca, .slice ab (nd B).length cb] 49)).alloc (.cells #[.bool false, .slice ac (nd C).length cc, .slice ad (nd D).length cd] 49)).heap.size = w.heap.size + 1 + 1 := by simp
      generalize (w.alloc (.cells #[.bool x, .slice aa (nd A).length ca, .slice ab (nd B).length cb] 49)).alloc (.cells #[.bool false, .slice ac (nd C).length cc, .slice ad (nd D).length cd] 49) = W1 at *
      have hR := C3.new W1 (.bool false) (.slice none 0 0) (.slice none 0 0) 49 (w.heap.size + 1 + 1) hsz.symm
      have hX := hX1.gr (Gr.alloc (Gr.refl _) (.cells #[.bool false, .slice none 0 0, .slice none 0 0] 49))
      have hY := hY1.gr (Gr.alloc (Gr.refl _) (.cells #[.bool false, .slice none 0 0, .slice none 0 0] 49))
      have hG := hG1.alloc (.cells #[.bool false, .slice none 0 0, .slice none 0 0] 49)
      clear hX1 hY1 hG1 hsz
      generalize W1.alloc (.cells #[.bool false, .slice none 0 0, .slice none 0 0] 49) = W0 at *
      obtain ⟨xc0, xc1, xc2, -, -, -, -, -⟩ := id hX
      obtain ⟨yc0, yc1, yc2, -, -, -, -, -⟩ := id hY
      refine (fvalid_yes false _ _ _ (HC.out.gr hG) (HD.out.gr hG) HD0.out (fun h => by cases h) lC lD).mono ?_
      rintro e w1 ⟨rfl, hg⟩
      replace hR := hR.gr hg
      replace hX := hX.gr hg
      replace hY := hY.gr hg
      replace hG := hG.step hg
      clear xc0 xc1 xc2 yc0 yc1 yc2 hg
      obtain ⟨xc0, xc1, xc2, -, -, -, -, -⟩ := id hX
      obtain ⟨yc0, yc1, yc2, -, -, -, -, -⟩ := id hY
      have hY2 := hY.set0 (.bool true)
      have hX2 := hX.other (o := 0) (.bool true) (s := w.heap.size + 1) (by omega)
      have hR2 := hR.other (o := 0) (.bool true) (s := w.heap.size + 1) (by omega)
      obtain ⟨-, -, -, yf0, yf1, yf2, ylt, -⟩ := id hY
      obtain ⟨zc0, zc1, zc2, -, -, -, -, -⟩ := id hY2
      obtain ⟨qc0, qc1, qc2, -, -, -, -, -⟩ := id hX2
      have hG2 := hG.setCell (p := ⟨w.heap.size + 1, 0, none⟩) (by simp) (.bool true)
      go_wp2_with fail
      clear xc0 xc1 xc2 yc0 yc1 yc2 yf0 yf1 yf2 ylt
      generalize w1.setCell ⟨w.heap.size + 1, 0, none⟩ (.bool true) = w2 at *
      have fa : Fra w2 (.agg #[.bool x, .slice aa (nd A).length ca, .slice ab (nd B).length cb]) (rat x A B) := ⟨x, _, _, A, B, rfl, HA.out.gr hG2, HB.out.gr hG2, HB0.out, HX.out, lA, lB, rfl⟩
      have fb : Fra w2 (.agg #[.bool true, .slice ac (nd C).length cc, .slice ad (nd D).length cd]) (rat true C D) := ⟨true, _, _, C, D, rfl, HC.out.gr hG2, HD.out.gr hG2, HD0.out, (fun _ => HNP.out), lC, lD, rfl⟩
      refine (fadd_any _ _ _ fa fb).mono ?_
      intro e w5 hres
      have hR := hR2
      have hG := hG2
      obtain ⟨b, a1, a2, n1, n2, c1, c2, er, rfl, hres, hg⟩ := hres.form
      have HRES := Lib.hid hres
      replace hR := hR.gr hg
      replace hG := hG.step hg
      have hfl := hR.fill b a1 a2 n1 n2 c1 c2
      obtain ⟨sc0, sc1, sc2, -, -, -, -, -⟩ := hfl.1
      obtain ⟨rc0, rc1, rc2, rf0, rf1, rf2, rlt, -⟩ := id hR
      clear hres hg
      go_wp2_with fail
      refine bodyPost_ret (v := .tuple #[.agg #[.bool b, .slice a1 n1 c1, .slice a2 n2 c2], .int .i64 er]) (by simp [results, Tryz.results42, go_sem, sc0, sc1, sc2]) rfl ?_
      exact ⟨_, er, rfl, HRES.out.imp (fun h => ⟨h.1, h.2.1, hR.red b a1 a2 n1 n2 c1 c2 h.2.2⟩) id, C3.three hG (by omega) _ _ _⟩
    · obtain rfl : z = false := by rw [← HZ.out, decide_eq_false h0]; rfl
      have hnl : (nd C).length = 0 := by rw [show C = 0 by omega, nd_zero]; rfl
      have d2 : decide (0 < (nd C).length) = false := by rw [hnl]; rfl
      clear h0 hnl
      have HA := Lib.hid hA
      have HB := Lib.hid hB
      have HC := Lib.hid hC
      have HD := Lib.hid hD
      obtain ⟨aa, ca, rfl⟩ := num_slice hA
      obtain ⟨ab, cb, rfl⟩ := num_slice hB
      obtain ⟨ac, cc, rfl⟩ := num_slice hC
      obtain ⟨ad, cd, rfl⟩ := num_slice hD
      clear hA hB hC hD
      have hX0 := C3.new w (.bool x) (.slice aa (nd A).length ca) (.slice ab (nd B).length cb) 49 w.heap.size rfl
      have hX1 := hX0.gr (Gr.alloc (Gr.refl _) (.cells #[.bool false, .slice ac (nd C).length cc, .slice ad (nd D).length cd] 49))
      have hY1 := C3.new (w.alloc (.cells #[.bool x, .slice aa (nd A).length ca, .slice ab (nd B).length cb] 49)) (.bool false) (.slice ac (nd C).length cc) (.slice ad (nd D).length cd) 49 (w.heap.size + 1) (by simp)
      have hG1 : Gr w ((w.alloc (.cells #[.bool x, .slice aa (nd A).length ca, .slice ab (nd B).length cb] 49)).alloc (.cells #[.bool false, .slice ac (nd C).length cc, .slice ad (nd D).length cd] 49)) := (Gr.alloc (Gr.refl _) _).alloc _
      have HB0 := Lib.hid hB0
      have HD0 := Lib.hid hD0
      have HX := Lib.hid hx
      have HY := Lib.hid hy
      have HBD := Lib.hid (Nat.mul_pos hB0 hD0)
      have lp : (nd (A * D)).length ≤ 128 := by have := nd_mul' lA lD; omega
      have lq : (nd (C * B)).length ≤ 128 := by have := nd_mul' lC lB; omega
      have lr : (nd (B * D)).length ≤ 256 := by have := nd_mul' lB lD; omega
      clear hB0 hD0 hx hy
      go_enter Tryz.func42, Tryz.ntmps42
      go_wp2_with fail
      clear hX0
      have hsz : ((w.alloc (.cells #[.bool x, .slice aa (nd A).length ca, .slice ab (nd B).length cb] 49)).alloc (.cells #[.bool false, .slice ac (nd C).length cc, .slice ad (nd D).length cd] 49)).heap.size = w.heap.size + 1 + 1 := by simp
      generalize (w.alloc (.cells #[.bool x, .slice aa (nd A).length ca, .slice ab (nd B).length cb] 49)).alloc (.cells #[.bool false, .slice ac (nd C).length cc, .slice ad (nd D).length cd] 49) = W1 at *
      have hR := C3.new W1 (.bool false) (.slice none 0 0) (.slice none 0 0) 49 (w.heap.size + 1 + 1) hsz.symm
      have hX := hX1.gr (Gr.alloc (Gr.refl _) (.cells #[.bool false, .slice none 0 0, .slice none 0 0] 49))
      have hY := hY1.gr (Gr.alloc (Gr.refl _) (.cells #[.bool false, .slice none 0 0, .slice none 0 0] 49))
      have hG := hG1.alloc (.cells #[.bool false, .slice none 0 0, .slice none 0 0] 49)
      clear hX1 hY1 hG1 hsz
      generalize W1.alloc (.cells #[.bool false, .slice none 0 0, .slice none 0 0] 49) = W0 at *
      obtain ⟨xc0, xc1, xc2, -, -, -, -, -⟩ := id hX
      obtain ⟨yc0, yc1, yc2, -, -, -, -, -⟩ := id hY
      refine (fvalid_yes false _ _ _ (HC.out.gr hG) (HD.out.gr hG) HD0.out (fun h => by cases h) lC lD).mono ?_
      rintro e w1 ⟨rfl, hg⟩
      replace hR := hR.gr hg
      replace hX := hX.gr hg
      replace hY := hY.gr hg
      replace hG := hG.step hg
      clear xc0 xc1 xc2 yc0 yc1 yc2 hg
      obtain ⟨xc0, xc1, xc2, -, -, -, -, -⟩ := id hX
      obtain ⟨yc0, yc1, yc2, -, -, -, -, -⟩ := id hY
      have hY2 := hY.set0 (.bool false)
      have hX2 := hX.other (o := 0) (.bool false) (s := w.heap.size + 1) (by omega)
      have hR2 := hR.other (o := 0) (.bool false) (s := w.heap.size + 1) (by omega)
      obtain ⟨-, -, -, yf0, yf1, yf2, ylt, -⟩ := id hY
      obtain ⟨zc0, zc1, zc2, -, -, -, -, -⟩ := id hY2
      obtain ⟨qc0, qc1, qc2, -, -, -, -, -⟩ := id hX2
      have hG2 := hG.setCell (p := ⟨w.heap.size + 1, 0, none⟩) (by simp) (.bool false)
      go_wp2_with fail
      clear xc0 xc1 xc2 yc0 yc1 yc2 yf0 yf1 yf2 ylt
      generalize w1.setCell ⟨w.heap.size + 1, 0, none⟩ (.bool false) = w2 at *
      have fa : Fra w2 (.agg #[.bool x, .slice aa (nd A).length ca, .slice ab (nd B).length cb]) (rat x A B) := ⟨x, _, _, A, B, rfl, HA.out.gr hG2, HB.out.gr hG2, HB0.out, HX.out, lA, lB, rfl⟩
      have fb : Fra w2 (.agg #[.bool false, .slice ac (nd C).length cc, .slice ad (nd D).length cd]) (rat false C D) := ⟨false, _, _, C, D, rfl, HC.out.gr hG2, HD.out.gr hG2, HD0.out, (fun h => by cases h), lC, lD, rfl⟩
      refine (fadd_any _ _ _ fa fb).mono ?_
      intro e w5 hres
      have hR := hR2
      have hG := hG2
      obtain ⟨b, a1, a2, n1, n2, c1, c2, er, rfl, hres, hg⟩ := hres.form
      have HRES := Lib.hid hres
      replace hR := hR.gr hg
      replace hG := hG.step hg
      have hfl := hR.fill b a1 a2 n1 n2 c1 c2
      obtain ⟨sc0, sc1, sc2, -, -, -, -, -⟩ := hfl.1
      obtain ⟨rc0, rc1, rc2, rf0, rf1, rf2, rlt, -⟩ := id hR
      clear hres hg
      go_wp2_with fail
      refine bodyPost_ret (v := .tuple #[.agg #[.bool b, .slice a1 n1 c1, .slice a2 n2 c2], .int .i64 er]) (by simp [results, Tryz.results42, go_sem, sc0, sc1, sc2]) rfl ?_
      exact ⟨_, er, rfl, HRES.out.imp (fun h => ⟨h.1, h.2.1, hR.red b a1 a2 n1 n2 c1 c2 h.2.2⟩) id, C3.three hG (by omega) _ _ _⟩
  · obtain rfl : z = false := by rw [← HZ.out]; rfl
    have HA := Lib.hid hA
    have HB := Lib.hid hB
    have HC := Lib.hid hC
    have HD := Lib.hid hD
    obtain ⟨aa, ca, rfl⟩ := num_slice hA
    obtain ⟨ab, cb, rfl⟩ := num_slice hB
    obtain ⟨ac, cc, rfl⟩ := num_slice hC
    obtain ⟨ad, cd, rfl⟩ := num_slice hD
    clear hA hB hC hD
    have hX0 := C3.new w (.bool x) (.slice aa (nd A).length ca) (.slice ab (nd B).length cb) 49 w.heap.size rfl
    have hX1 := hX0.gr (Gr.alloc (Gr.refl _) (.cells #[.bool true, .slice ac (nd C).length cc, .slice ad (nd D).length cd] 49))
    have hY1 := C3.new (w.alloc (.cells #[.bool x, .slice aa (nd A).length ca, .slice ab (nd B).length cb] 49)) (.bool true) (.slice ac (nd C).length cc) (.slice ad (nd D).length cd) 49 (w.heap.size + 1) (by simp)
    have hG1 : Gr w ((w.alloc (.cells #[.bool x, .slice aa (nd A).length ca, .slice ab (nd B).length cb] 49)).alloc (.cells #[.bool true, .slice ac (nd C).length cc, .slice ad (nd D).length cd] 49)) := (Gr.alloc (Gr.refl _) _).alloc _
    have HB0 := Lib.hid hB0
    have HD0 := Lib.hid hD0
    have HX := Lib.hid hx
    have HY := Lib.hid hy
    have HBD := Lib.hid (Nat.mul_pos hB0 hD0)
    have lp : (nd (A * D)).length ≤ 128 := by have := nd_mul' lA lD; omega
    have lq : (nd (C * B)).length ≤ 128 := by have := nd_mul' lC lB; omega
    have lr : (nd (B * D)).length ≤ 256 := by have := nd_mul' lB lD; omega
    clear hB0 hD0 hx hy
    go_enter Tryz.func42, Tryz.ntmps42
    go_wp2_with fail
    clear hX0
    have hsz : ((w.alloc (.cells #[.bool x, .slice aa (nd A).length ca, .slice ab (nd B).length cb] 49)).alloc (.cells #[.bool true, .slice ac (nd C).length cc, .slice ad (nd D).length cd] 49)).heap.size = w.heap.size + 1 + 1 := by simp
    generalize (w.alloc (.cells #[.bool x, .slice aa (nd A).length ca, .slice ab (nd B).length cb] 49)).alloc (.cells #[.bool true, .slice ac (nd C).length cc, .slice ad (nd D).length cd] 49) = W1 at *
    have hR := C3.new W1 (.bool false) (.slice none 0 0) (.slice none 0 0) 49 (w.heap.size + 1 + 1) hsz.symm
    have hX := hX1.gr (Gr.alloc (Gr.refl _) (.cells #[.bool false, .slice none 0 0, .slice none 0 0] 49))
    have hY := hY1.gr (Gr.alloc (Gr.refl _) (.cells #[.bool false, .slice none 0 0, .slice none 0 0] 49))
    have hG := hG1.alloc (.cells #[.bool false, .slice none 0 0, .slice none 0 0] 49)
    clear hX1 hY1 hG1 hsz
    generalize W1.alloc (.cells #[.bool false, .slice none 0 0, .slice none 0 0] 49) = W0 at *
    obtain ⟨xc0, xc1, xc2, -, -, -, -, -⟩ := id hX
    obtain ⟨yc0, yc1, yc2, -, -, -, -, -⟩ := id hY
    refine (fvalid_yes true _ _ _ (HC.out.gr hG) (HD.out.gr hG) HD0.out (fun _ => HY.out trivial) lC lD).mono ?_
    rintro e w1 ⟨rfl, hg⟩
    replace hR := hR.gr hg
    replace hX := hX.gr hg
    replace hY := hY.gr hg
    replace hG := hG.step hg
    clear xc0 xc1 xc2 yc0 yc1 yc2 hg
    obtain ⟨xc0, xc1, xc2, -, -, -, -, -⟩ := id hX
    obtain ⟨yc0, yc1, yc2, -, -, -, -, -⟩ := id hY
    have hY2 := hY.set0 (.bool false)
    have hX2 := hX.other (o := 0) (.bool false) (s := w.heap.size + 1) (by omega)
    have hR2 := hR.other (o := 0) (.bool false) (s := w.heap.size + 1) (by omega)
    obtain ⟨-, -, -, yf0, yf1, yf2, ylt, -⟩ := id hY
    obtain ⟨zc0, zc1, zc2, -, -, -, -, -⟩ := id hY2
    obtain ⟨qc0, qc1, qc2, -, -, -, -, -⟩ := id hX2
    have hG2 := hG.setCell (p := ⟨w.heap.size + 1, 0, none⟩) (by simp) (.bool false)
    go_wp2_with fail
    clear xc0 xc1 xc2 yc0 yc1 yc2 yf0 yf1 yf2 ylt
    generalize w1.setCell ⟨w.heap.size + 1, 0, none⟩ (.bool false) = w2 at *
    have fa : Fra w2 (.agg #[.bool x, .slice aa (nd A).length ca, .slice ab (nd B).length cb]) (rat x A B) := ⟨x, _, _, A, B, rfl, HA.out.gr hG2, HB.out.gr hG2, HB0.out, HX.out, lA, lB, rfl⟩
    have fb : Fra w2 (.agg #[.bool false, .slice ac (nd C).length cc, .slice ad (nd D).length cd]) (rat false C D) := ⟨false, _, _, C, D, rfl, HC.out.gr hG2, HD.out.gr hG2, HD0.out, (fun h => by cases h), lC, lD, rfl⟩
    refine (fadd_any _ _ _ fa fb).mono ?_
    intro e w5 hres
    have hR := hR2
    have hG := hG2
    obtain ⟨b, a1, a2, n1, n2, c1, c2, er, rfl, hres, hg⟩ := hres.form
    have HRES := Lib.hid hres
    replace hR := hR.gr hg
    replace hG := hG.step hg
    have hfl := hR.fill b a1 a2 n1 n2 c1 c2
    obtain ⟨sc0, sc1, sc2, -, -, -, -, -⟩ := hfl.1
    obtain ⟨rc0, rc1, rc2, rf0, rf1, rf2, rlt, -⟩ := id hR
    clear hres hg
    go_wp2_with fail
    refine bodyPost_ret (v := .tuple #[.agg #[.bool b, .slice a1 n1 c1, .slice a2 n2 c2], .int .i64 er]) (by simp [results, Tryz.results42, go_sem, sc0, sc1, sc2]) rfl ?_
    exact ⟨_, er, rfl, HRES.out.imp (fun h => ⟨h.1, h.2.1, hR.red b a1 a2 n1 n2 c1 c2 h.2.2⟩) id, C3.three hG (by omega) _ _ _⟩
set_option maxHeartbeats 2000000 in
theorem freduce_any {a : Rat} (v : Value) (w : World) (ha : Fra w v a) :
    Calls Tryz.prog 57 #[v] w fun e w' => ∃ u, e = .returned u ∧ Red w' u a ∧ Bd 64 a ∧ Gr w w' := by
  obtain ⟨x, va, vb, A, B, rfl, hA, hB, hB0, hx, lA, lB, rfl⟩ := ha
  have hbd := bd_rat (x := x) hB0 lA lB
  have HBD := Lib.hid hbd
  have HA := Lib.hid hA
  have HB := Lib.hid hB
  have HB0 := Lib.hid hB0
  have HX := Lib.hid hx
  obtain ⟨aa, ca, rfl⟩ := num_slice hA
  obtain ⟨ab, cb, rfl⟩ := num_slice hB
  clear hA hB hB0 hx hbd
  have hX0 := C3.new w (.bool x) (.slice aa (nd A).length ca) (.slice ab (nd B).length cb) 49 w.heap.size rfl
  have hX1 := hX0.gr (Gr.alloc (Gr.refl _) (.cells #[.bool false, .slice none 0 0, .slice none 0 0] 49))
  have hR1 := C3.new (w.alloc (.cells #[.bool x, .slice aa (nd A).length ca, .slice ab (nd B).length cb] 49)) (.bool false) (.slice none 0 0) (.slice none 0 0) 49 (w.heap.size + 1) (by simp)
  have hG1 : Gr w ((w.alloc (.cells #[.bool x, .slice aa (nd A).length ca, .slice ab (nd B).length cb] 49)).alloc (.cells #[.bool false, .slice none 0 0, .slice none 0 0] 49)) := (Gr.alloc (Gr.refl _) _).alloc _
  clear hX0
  go_enter Tryz.func57, Tryz.ntmps57
  go_wp2_with fail
  generalize (w.alloc (.cells #[.bool x, .slice aa (nd A).length ca, .slice ab (nd B).length cb] 49)).alloc (.cells #[.bool false, .slice none 0 0, .slice none 0 0] 49) = W0 at *
  refine (fvalid_yes x _ _ _ (HA.out.gr hG1) (HB.out.gr hG1) HB0.out HX.out lA lB).mono ?_
  rintro e w1 ⟨rfl, hg⟩
  have hX := hX1.gr hg
  have hR := hR1.gr hg
  have hG := hG1.step hg
  obtain ⟨xc0, xc1, xc2, -, -, -, -, -⟩ := id hX
  clear hX1 hR1 hG1 hg
  go_wp2_with fail
  refine (lowest_any x _ _ _ (HA.out.gr hG) (HB.out.gr hG) HB0.out (by omega) (by omega)).mono ?_
  intro e w2 hres
  obtain ⟨b, a1, a2, n1, n2, c1, c2, er, rfl, hres, hg⟩ := hres.form
  have hR := hR.gr hg
  have hG := hG.step hg
  have HRED := Lib.hid (hres.resolve_right (fun h => h.1 HBD.out)).2.2
  have hF := C3.new w2 (.bool b) (.slice a1 n1 c1) (.slice a2 n2 c2) 49 w2.heap.size rfl
  have hR2 := hR.gr (Gr.alloc (Gr.refl w2) (.cells #[.bool b, .slice a1 n1 c1, .slice a2 n2 c2] 49))
  have hG2 := hG.alloc (.cells #[.bool b, .slice a1 n1 c1, .slice a2 n2 c2] 49)
  have HRED2 := Lib.hid (HRED.out.gr (Gr.alloc (Gr.refl w2) (.cells #[.bool b, .slice a1 n1 c1, .slice a2 n2 c2] 49)))
  obtain ⟨fc0, fc1, fc2, -, -, -, -, -⟩ := id hF
  obtain ⟨rc0, rc1, rc2, rf0, rf1, rf2, rlt, -⟩ := id hR2
  have hfl := hR2.fill b a1 a2 n1 n2 c1 c2
  obtain ⟨sc0, sc1, sc2, -, -, -, -, -⟩ := hfl.1
  clear hres hg
  go_wp2_with fail
  refine bodyPost_ret (v := .agg #[.bool b, .slice a1 n1 c1, .slice a2 n2 c2]) (by simp [results, Tryz.results57, go_sem, sc0, sc1, sc2]) rfl ?_
  exact ⟨_, rfl, hR2.red b a1 a2 n1 n2 c1 c2 HRED2.out, HBD.out, C3.three hG2 (by omega) _ _ _⟩
set_option maxHeartbeats 2000000 in
/-- Same at reduced fractions of one value -/
theorem fsame_yes {r : Rat} (v u : Value) (w : World) (ha : Red w v r) (hb : Red w u r) (hbd : Bd 64 r) :
    Calls Tryz.prog 56 #[v, u] w fun e w' => e = .returned (.bool true) ∧ Gr w w' := by
  obtain ⟨va, vb, rfl, hA, hB⟩ := ha
  obtain ⟨vc, vd, rfl, hC, hD⟩ := hb
  obtain ⟨lA, lB⟩ := hbd
  generalize decide (r.num < 0) = x at *
  generalize r.num.natAbs = A at *
  generalize r.den = B at *
  obtain ⟨C, hAC⟩ : ∃ C, C = A := ⟨_, rfl⟩
  obtain ⟨D, hBD⟩ : ∃ D, D = B := ⟨_, rfl⟩
  rw [← hAC] at hC
  rw [← hBD] at hD
  have HAC := Lib.hid hAC
  have HBD := Lib.hid hBD
  clear hAC hBD
  have HA := Lib.hid hA
  have HB := Lib.hid hB
  have HC := Lib.hid hC
  have HD := Lib.hid hD
  obtain ⟨aa, ca, rfl⟩ := num_slice hA
  obtain ⟨ab, cb, rfl⟩ := num_slice hB
  obtain ⟨ac, cc, rfl⟩ := num_slice hC
  obtain ⟨ad, cd, rfl⟩ := num_slice hD
  clear hA hB hC hD
  have hX0 := C3.new w (.bool x) (.slice aa (nd A).length ca) (.slice ab (nd B).length cb) 49 w.heap.size rfl
  have hX1 := hX0.gr (Gr.alloc (Gr.refl _) (.cells #[.bool x, .slice ac (nd C).length cc, .slice ad (nd D).length cd] 49))
  have hY1 := C3.new (w.alloc (.cells #[.bool x, .slice aa (nd A).length ca, .slice ab (nd B).length cb] 49)) (.bool x) (.slice ac (nd C).length cc) (.slice ad (nd D).length cd) 49 (w.heap.size + 1) (by simp)
  have hG1 : Gr w ((w.alloc (.cells #[.bool x, .slice aa (nd A).length ca, .slice ab (nd B).length cb] 49)).alloc (.cells #[.bool x, .slice ac (nd C).length cc, .slice ad (nd D).length cd] 49)) := (Gr.alloc (Gr.refl _) _).alloc _
  have dx : (x == x) = true := by cases x <;> rfl
  go_enter Tryz.func56, Tryz.ntmps56
  go_wp2_with fail
  clear hX0
  generalize (w.alloc (.cells #[.bool x, .slice aa (nd A).length ca, .slice ab (nd B).length cb] 49)).alloc (.cells #[.bool x, .slice ac (nd C).length cc, .slice ad (nd D).length cd] 49) = W0 at *
  have hX := hX1
  have hY := hY1
  have hG := hG1
  clear hX1 hY1 hG1
  obtain ⟨xc0, xc1, xc2, -, -, -, -, -⟩ := id hX
  obtain ⟨yc0, yc1, yc2, -, -, -, -, -⟩ := id hY
  refine (num_same (A := A) (B := C) _ _ _ (HA.out.gr hG) (HC.out.gr hG) HAC.out.symm (by omega)).mono ?_
  rintro e w1 ⟨rfl, hg⟩
  replace hX := hX.gr hg
  replace hY := hY.gr hg
  replace hG := hG.step hg
  clear xc0 xc1 xc2 yc0 yc1 yc2 hg
  obtain ⟨xc0, xc1, xc2, -, -, -, -, -⟩ := id hX
  obtain ⟨yc0, yc1, yc2, -, -, -, -, -⟩ := id hY
  go_wp2_with fail
  refine (num_same (A := B) (B := D) _ _ _ (HB.out.gr hG) (HD.out.gr hG) HBD.out.symm (by omega)).mono ?_
  rintro e w2 ⟨rfl, hg⟩
  replace hX := hX.gr hg
  replace hY := hY.gr hg
  replace hG := hG.step hg
  clear xc0 xc1 xc2 yc0 yc1 yc2 hg
  obtain ⟨xc0, xc1, xc2, -, -, -, -, -⟩ := id hX
  obtain ⟨yc0, yc1, yc2, -, -, -, -, -⟩ := id hY
  go_wp2_with fail
  go_ret
  exact ⟨rfl, hG⟩
end Go.Proofs.YtikkobmccagdlaaGreatDoor
