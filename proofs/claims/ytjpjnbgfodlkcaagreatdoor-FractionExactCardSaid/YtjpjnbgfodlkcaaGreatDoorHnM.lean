/- The document's Parse of fractions. -/
import Derived.Test.YtjpjnbgfodlkcaaGreatDoorHmM
import Derived.Test.YtjpjnbgfodlkcaaGreatDoorEsM
import Derived.WalkKit
import Derived.WalkSpells
import Derived.WalkLawsBesides
import Derived.WalkSmall
import Derived.Handy
import Derived.BigQuiet
import Derived.Deep.QuietTactic
import Derived.Deep.RegionHeld3
import Derived.Deep.DeepFit
import Derived.Below
import Derived.Lib.Hide
import Derived.Lib.QuietBelow
import Derived.Deep.DeepCutAuto
namespace Go.Proofs.YtjpjnbgfodlkcaaGreatDoor
open Go Go.RowKit Go.Sort
set_option maxRecDepth 100000
set_option linter.unusedVariables false
theorem psres_txt {w w' : World} {l : List UInt8} {e : Ending} (ht : txt l) (h : PsRes w l e w') : ∃ (a : Option Addr) (n c : Nat) (er : Int), e = .returned (.tuple #[.slice a n c, .int .i64 er]) ∧ ((nok l ∧ er = 0 ∧ Num w' (.slice a n c) (nval l)) ∨ (¬ nok l ∧ er = 5 ∧ (Value.slice a n c) = .slice none 0 0)) ∧ Gr w w' := by
  unfold PsRes at h
  rw [if_neg (fun k => k ht)] at h
  by_cases h1 : 2400 < l.length
  · rw [if_pos h1] at h
    exact ⟨_, _, _, _, h.1, .inr ⟨fun k => by have := k.1; omega, rfl, rfl⟩, h.2⟩
  · rw [if_neg h1] at h
    obtain ⟨v, er, rfl, h2, g⟩ := h
    rcases h2 with ⟨a1, rfl, hn⟩ | ⟨a1, rfl, rfl⟩
    · obtain ⟨a, c, rfl⟩ := num_slice hn
      exact ⟨_, _, _, _, rfl, .inl ⟨⟨by omega, a1⟩, rfl, hn⟩, g⟩
    · exact ⟨_, _, _, _, rfl, .inr ⟨fun k => by have := k.2; omega, rfl, rfl⟩, g⟩
theorem txt_zero {x : List UInt8} (h : txt x) (h0 : nval x = 0) : x = [48] := by
  obtain ⟨hd, hne, hl⟩ := h
  rcases hl with hl | hl
  · exact hl
  · cases x with
    | nil => exact absurd rfl hne
    | cons c r =>
      exfalso
      rw [nval_cons] at h0
      have hc := (hd c (List.mem_cons_self ..)).1
      have hp : 0 < 10 ^ r.length := Nat.pow_pos (by omega)
      have hz : (c.toNat - 48) * 10 ^ r.length = 0 := by omega
      rcases Nat.mul_eq_zero.1 hz with h1 | h1
      · apply hl
        have : c.toNat = (48 : UInt8).toNat := by show c.toNat = 48; omega
        rw [UInt8.toNat_inj.1 this]; rfl
      · omega
theorem txt_one {x : List UInt8} (h : txt x) (h0 : nval x = 1) : x = [49] := by
  obtain ⟨hd, hne, hl⟩ := h
  rcases hl with hl | hl
  · exact absurd (by rw [← h0, hl]) (show nval [48] ≠ 1 by decide)
  · cases x with
    | nil => exact absurd rfl hne
    | cons c r =>
      rw [nval_cons] at h0
      have hc := (hd c (List.mem_cons_self ..)).1
      have h48 : c.toNat ≠ 48 := by
        intro e; apply hl
        have : c.toNat = (48 : UInt8).toNat := e
        rw [UInt8.toNat_inj.1 this]; rfl
      have h1 : 10 ^ r.length ≤ (c.toNat - 48) * 10 ^ r.length := Nat.le_mul_of_pos_left _ (by omega)
      cases r with
      | nil =>
        have h2 : c.toNat - 48 = 1 := by simpa [nval] using h0
        have : c.toNat = (49 : UInt8).toNat := by show c.toNat = 49; omega
        rw [UInt8.toNat_inj.1 this]
      | cons y t =>
        exfalso
        have hp : 0 < 10 ^ t.length := Nat.pow_pos (by omega)
        rw [List.length_cons, Nat.pow_succ] at h1 h0
        omega
theorem bot_pos {l : List UInt8} (h : fform l) : 0 < nval (fbot l) := by
  apply Nat.pos_of_ne_zero
  intro h0
  have hb := txt_zero h.2.1 h0
  cases hs : fslash l
  · unfold fbot at hb; rw [hs, if_neg Bool.false_ne_true] at hb; cases hb
  · exact (h.2.2.1 hs).1 hb
theorem top_pos {l : List UInt8} (h : fform l) (hg : (nval (ftop l)).gcd (nval (fbot l)) = 1) (hn : fneg l = true) : 0 < nval (ftop l) := by
  apply Nat.pos_of_ne_zero
  intro h0
  have ht := txt_zero h.1 h0
  rw [h0, Nat.gcd_zero_left] at hg
  have hb := txt_one h.2.1 hg
  cases hs : fslash l
  · exact h.2.2.2 ⟨hn, ht, hs⟩
  · exact (h.2.2.1 hs).2 hb
theorem neg_top {l : List UInt8} (h : fform l) (hg : (nval (ftop l)).gcd (nval (fbot l)) = 1) : fneg l = (fneg l && decide (0 < (nd (nval (ftop l))).length)) := by
  cases hn : fneg l
  · rfl
  · have := top_pos h hg hn
    rw [nd_pos this]; simp
theorem red_full {l : List UInt8} {w : World} {u v : Value} (h : fform l) (hg : (nval (ftop l)).gcd (nval (fbot l)) = 1) (hu : Num w u (nval (ftop l))) (hv : Num w v (nval (fbot l))) : Red w (.agg #[.bool (fneg l), u, v]) (rat (fneg l) (nval (ftop l)) (nval (fbot l))) :=
  low_ok (bot_pos h) (neg_top h hg) (by rw [hg, Nat.div_one]; exact hu) (by rw [hg, Nat.div_one]; exact hv)
set_option maxHeartbeats 8000000 in
theorem rfparse_neg (l : List UInt8) (w : World) (hl : l.length ≤ 100000) (hn : fneg l = true) :
    Calls Tryz.prog 33 #[.string (str l)] w (FpRes w l) := by
  obtain ⟨d, rfl⟩ : ∃ d, l = 45 :: d := by
    cases l with
    | nil => cases hn
    | cons x r => unfold fneg at hn; simp at hn; exact ⟨r, by rw [hn]⟩
  have hd : fdig (45 :: d) = d := rfl
  have h3 := parts_three (45 :: d)
  rw [hd] at h3
  have sz : (str (45 :: d)).size = d.length + 1 := by rw [str_size]; rfl
  have szI : (0 : Int) < ((str (45 :: d)).size : Int) := by omega
  have ex : (str (45 :: d)).extract 1 (d.length + 1) = str d := by
    rw [str_ext, str_data]; simp
  have x0 : (str (45 :: d))[0]'(by omega) = 45 := rfl
  have HC := Lib.hid (fun w => rcut_any (str d) 47 w (by rw [str_size]; simp at hl; omega))
  rw [str_data] at HC
  go_enter Tryz.func33, Tryz.ntmps33
  go_wp2_with fail
  have hR := (C3.new w (.bool false) (.slice none 0 0) (.slice none 0 0) 26 w.heap.size rfl).gr (Gr.alloc (Gr.refl _) (.cells #[.bool true, .slice none 0 0, .slice none 0 0] 26))
  have hF := C3.new (w.alloc (.cells #[.bool false, .slice none 0 0, .slice none 0 0] 26)) (.bool true) (.slice none 0 0) (.slice none 0 0) 26 (w.heap.size + 1) (by simp)
  have hG : Gr w ((w.alloc (.cells #[.bool false, .slice none 0 0, .slice none 0 0] 26)).alloc (.cells #[.bool true, .slice none 0 0, .slice none 0 0] 26)) := (Gr.alloc (Gr.refl _) _).alloc _
  generalize (w.alloc (.cells #[.bool false, .slice none 0 0, .slice none 0 0] 26)).alloc (.cells #[.bool true, .slice none 0 0, .slice none 0 0] 26) = W0 at *
  clear ex x0 szI sz
  have hd' := hd
  clear hd
  refine (HC.out _).mono ?_
  rintro e w1 ⟨v, rfl, hown, hg⟩
  obtain ⟨p, cp, rfl, hcp, hp⟩ := sv_form hown
  have hR := hR.gr hg
  have hF := hF.gr hg
  have hG := hG.step hg
  clear hg
  have HP := Lib.hid hp
  clear hp hown HC
  rcases h3 with ⟨hs, hps⟩ | ⟨hs, hps⟩ | ⟨hlen, hbad⟩
  · rw [hps] at HP hcp ⊢
    clear hps
    obtain ⟨g0, rfl, hc0⟩ := HP.out 0 _ rfl
    have hfb : fbot (45 :: d) = [49] := by unfold fbot; rw [hs]; rfl
    have HD := Lib.hid (fun w => rdigits_any (str (ftop (45 :: d))) w (by rw [str_size]; have := (part_le (45 :: d)).1; simp at hl; simp at this; omega))
    rw [str_data] at HD
    by_cases ht : txt (ftop (45 :: d))
    · rw [decide_eq_true ht] at HD
      have HT := Lib.hid ht
      have HTB : Hid (txt (fbot (45 :: d))) := Lib.hid (by rw [hfb]; decide)
      clear ht
      by_cases hz : ftop (45 :: d) = [48]
      · have t1 : (str (ftop (45 :: d))).toList = [48] := by rw [Lib.toList_data, str_data]; exact hz
        have HB : Hid (¬ fform (45 :: d)) := Lib.hid fun h => h.2.2.2 ⟨hn, hz, hs⟩
        clear hz
        obtain ⟨rc0, rc1, rc2, rf0, rf1, rf2, rlt, -⟩ := id hR
        obtain ⟨fc0, fc1, fc2, ff0, ff1, ff2, flt, -⟩ := id hF
        have hfl := (hR.fill false none none 0 0 0 0).1
        obtain ⟨sc0, sc1, sc2, -, -, -, -, -⟩ := id hfl
        have HG2 := Lib.hid (C3.three hG (q := w.heap.size) (Nat.le_refl _) (.bool false) (.slice none 0 0) (.slice none 0 0))
        go_wp2_with fail
        refine (HD.out _).mono ?_
        rintro e w' ⟨rfl, rfl⟩
        go_wp2_with fail
        refine bodyPost_ret (v := .tuple #[fzero, .int .i64 2]) (by simp [results, Tryz.results33, go_sem, sc0, sc1, sc2, fzero]) rfl ?_
        exact FpRes.form HB.out rfl HG2.out
      · have t1 : ¬ (str (ftop (45 :: d))).toList = [48] := by rw [Lib.toList_data, str_data]; exact hz
        have HFF : Hid (fform (45 :: d)) := Lib.hid ⟨HT.out, HTB.out, (fun h => by rw [hs] at h; cases h), fun h => hz h.2.1⟩
        have HFB := Lib.hid (show (⟨#[49]⟩ : ByteArray) = str (fbot (45 :: d)) by rw [hfb]; rfl)
        clear hz hfb
        obtain ⟨rc0, rc1, rc2, rf0, rf1, rf2, rlt, -⟩ := id hR
        obtain ⟨fc0, fc1, fc2, ff0, ff1, ff2, flt, -⟩ := id hF
        go_wp2_with fail
        refine (HD.out _).mono ?_
        rintro e w' ⟨rfl, rfl⟩
        go_wp2_with fail
        rw [HFB.out]
        clear t1 HD
        refine (rparse_any (str (ftop (45 :: d))) _ (by rw [str_size]; have := (part_le (45 :: d)).1; simp at hl; simp at this; omega)).mono ?_
        rintro e w2 h
        rw [str_data] at h
        obtain ⟨a1, m1, k1, e1, rfl, hv1, hg⟩ := psres_txt HT.out h
        have HV1 := Lib.hid hv1
        clear h hv1 rc0 rc1 rc2 rf0 rf1 rf2 rlt fc0 fc1 fc2 ff0 ff1 ff2 flt
        have HP := Lib.hid (HP.out.gr hg)
        have hR := hR.gr hg
        have hF := hF.gr hg
        have hG := hG.step hg
        clear hg
        obtain ⟨rc0, rc1, rc2, rf0, rf1, rf2, rlt, -⟩ := id hR
        obtain ⟨fc0, fc1, fc2, ff0, ff1, ff2, flt, -⟩ := id hF
        go_wp2_with fail
        refine (rparse_any (str (fbot (45 :: d))) _ (by rw [str_size]; have := (part_le (45 :: d)).2; simp at hl; simp at this; omega)).mono ?_
        rintro e w3 h
        rw [str_data] at h
        obtain ⟨a2, m2, k2, e2, rfl, hv2, hg⟩ := psres_txt HTB.out h
        have HV1 := Lib.hid (HV1.out.imp (fun q => (⟨q.1, q.2.1, q.2.2.gr hg⟩ : _ ∧ _ ∧ Num w3 _ _)) id)
        clear h rc0 rc1 rc2 rf0 rf1 rf2 rlt fc0 fc1 fc2 ff0 ff1 ff2 flt
        have hR := hR.gr hg
        have hF := hF.gr hg
        have hG := hG.step hg
        clear hg
        obtain ⟨rc0, rc1, rc2, rf0, rf1, rf2, rlt, -⟩ := id hR
        obtain ⟨fc0, fc1, fc2, ff0, ff1, ff2, flt, -⟩ := id hF
        rcases HV1.out with ⟨q1, rfl, hn1⟩ | ⟨q1, rfl, -⟩
        · rcases hv2 with ⟨q2, rfl, hn2⟩ | ⟨q2, rfl, -⟩
          · clear HV1
            have HN1 := Lib.hid hn1
            have HN2 := Lib.hid hn2
            have HNK : Hid (nok (ftop (45 :: d)) ∧ nok (fbot (45 :: d))) := Lib.hid ⟨q1, q2⟩
            clear hn1 hn2 q1 q2
            go_wp2_with fail
            have hk1 := HNK.out.1.2
            have hk2 := HNK.out.2.2
            refine (rgcd_any _ _ _ HN1.out HN2.out (by omega) (by omega)).mono ?_
            rintro e w4 ⟨vg, rfl, hvg, hg⟩
            obtain ⟨ag, cg, rfl⟩ := num_slice hvg
            have HVG := Lib.hid hvg
            have HN1 := Lib.hid (HN1.out.gr hg)
            have HN2 := Lib.hid (HN2.out.gr hg)
            clear hvg rc0 rc1 rc2 rf0 rf1 rf2 rlt fc0 fc1 fc2 ff0 ff1 ff2 flt
            have hR := hR.gr hg
            have hF := hF.gr hg
            have hG := hG.step hg
            clear hg
            obtain ⟨rc0, rc1, rc2, rf0, rf1, rf2, rlt, -⟩ := id hR
            obtain ⟨fc0, fc1, fc2, ff0, ff1, ff2, flt, -⟩ := id hF
            go_wp2_with fail
            have hk2' := nd_le_len'' hk2 (Nat.gcd_le_right (nval (ftop (45 :: d))) (bot_pos HFF.out))
            have hg := Gr.alloc (Gr.refl w4) (.cells #[.int .i64 1] 3)
            have HO := Lib.hid (one_num w4)
            have HVG := Lib.hid (HVG.out.gr hg)
            have HN1 := Lib.hid (HN1.out.gr hg)
            have HN2 := Lib.hid (HN2.out.gr hg)
            have hR := hR.gr hg
            have hF := hF.gr hg
            have hG := hG.step hg
            clear hg
            generalize w4.alloc (.cells #[.int .i64 1] 3) = w4' at *
            refine (rcmp_nat _ _ _ HVG.out HO.out (by omega) (by rw [nd_one (by omega) (by omega)]; simp)).mono ?_
            rintro e w5 ⟨rfl, hg⟩
            have HN1 := Lib.hid (HN1.out.gr hg)
            have HN2 := Lib.hid (HN2.out.gr hg)
            clear HVG HO rc0 rc1 rc2 rf0 rf1 rf2 rlt fc0 fc1 fc2 ff0 ff1 ff2 flt
            have hR := hR.gr hg
            have hF := hF.gr hg
            have hG := hG.step hg
            clear hg
            by_cases hgc : (nval (ftop (45 :: d))).gcd (nval (fbot (45 :: d))) = 1
            · rw [hgc, ncmp_eq]
              have HGC := Lib.hid hgc
              clear hgc
              obtain ⟨rc0, rc1, rc2, rf0, rf1, rf2, rlt, -⟩ := id hR
              obtain ⟨fc0, fc1, fc2, ff0, ff1, ff2, flt, -⟩ := id hF
              have hF2 := (hF.set1 (.slice a1 m1 k1)).set2 (.slice a2 m2 k2)
              have hR2 := (hR.other (o := 1) (.slice a1 m1 k1) (s := w.heap.size + 1) (by omega)).other (o := 2) (.slice a2 m2 k2) (s := w.heap.size + 1) (by omega)
              have hG2 := (hG.setCell (p := ⟨w.heap.size + 1, 1, none⟩) (by simp) (.slice a1 m1 k1)).setCell (p := ⟨w.heap.size + 1, 2, none⟩) (by simp) (.slice a2 m2 k2)
              have HN1' := Lib.hid ((hF.set1 (.slice a1 m1 k1)).num (o := 2) (hF.num (o := 1) HN1.out (.slice a1 m1 k1)) (.slice a2 m2 k2))
              have HN2' := Lib.hid ((hF.set1 (.slice a1 m1 k1)).num (o := 2) (hF.num (o := 1) HN2.out (.slice a1 m1 k1)) (.slice a2 m2 k2))
              obtain ⟨gc0, gc1, gc2, -, -, -, -, -⟩ := id hF2
              clear HN1 HN2
              go_wp2_with fail
              generalize (w5.setCell ⟨w.heap.size + 1, 1, none⟩ (.slice a1 m1 k1)).setCell ⟨w.heap.size + 1, 2, none⟩ (.slice a2 m2 k2) = w6 at *
              have hred : Red w6 (.agg #[.bool true, .slice a1 m1 k1, .slice a2 m2 k2]) (rat (fneg (45 :: d)) (nval (ftop (45 :: d))) (nval (fbot (45 :: d)))) := by
                have h := red_full HFF.out HGC.out HN1'.out HN2'.out
                rw [hn] at h ⊢
                exact h
              refine (rlimited_any _ _ hred).mono ?_
              rintro e w7 ⟨v, er, rfl, hv, hg⟩
              have hR := hR2.gr hg
              have hG := hG2.step hg
              clear hg hred hR2 hG2 hF2 HN1' HN2' gc0 gc1 gc2 rc0 rc1 rc2 rf0 rf1 rf2 rlt fc0 fc1 fc2 ff0 ff1 ff2 flt
              obtain ⟨rc0, rc1, rc2, rf0, rf1, rf2, rlt, -⟩ := id hR
              rcases hv with ⟨hb, rfl, vn, vd, rfl, hvn, hvd⟩ | ⟨hb, rfl, rfl⟩
              · obtain ⟨an, cn, rfl⟩ := num_slice hvn
                obtain ⟨ad, cd, rfl⟩ := num_slice hvd
                have HVN := Lib.hid hvn
                have HVD := Lib.hid hvd
                have HBD := Lib.hid hb
                clear hvn hvd hb
                obtain ⟨nb, hnb⟩ : ∃ nb : Bool, nb = decide ((rat (fneg (45 :: d)) (nval (ftop (45 :: d))) (nval (fbot (45 :: d)))).num < 0) := ⟨_, rfl⟩
                have HNB := Lib.hid hnb.symm
                rw [HNB.out]
                clear hnb
                generalize (nd (rat (fneg (45 :: d)) (nval (ftop (45 :: d))) (nval (fbot (45 :: d)))).num.natAbs).length = ln at *
                generalize (nd (rat (fneg (45 :: d)) (nval (ftop (45 :: d))) (nval (fbot (45 :: d)))).den).length = ld at *
                have hfl := hR.fill nb an ad ln ld cn cd
                obtain ⟨sc0, sc1, sc2, -, -, -, -, -⟩ := id hfl.1
                have HG2 := Lib.hid (C3.three hG (q := w.heap.size) (Nat.le_refl _) (.bool nb) (.slice an ln cn) (.slice ad ld cd))
                have HVN := Lib.hid (hfl.2 HVN.out)
                have HVD := Lib.hid (hfl.2 HVD.out)
                clear hfl
                go_wp2_with fail
                refine bodyPost_ret (v := .tuple #[.agg #[.bool nb, .slice an ln cn, .slice ad ld cd], .int .i64 0]) (by simp [results, Tryz.results33, go_sem, sc0, sc1, sc2]) rfl ?_
                refine FpRes.full HFF.out HNK.out HGC.out ⟨_, _, rfl, .inl ⟨HBD.out, rfl, ?_⟩, HG2.out⟩
                exact ⟨_, _, by rw [HNB.out], HVN.out, HVD.out⟩
              · have HBD := Lib.hid hb
                clear hb
                unfold fzero
                have hfl := (hR.fill false none none 0 0 0 0).1
                obtain ⟨sc0, sc1, sc2, -, -, -, -, -⟩ := id hfl
                have HG2 := Lib.hid (C3.three hG (q := w.heap.size) (Nat.le_refl _) (.bool false) (.slice none 0 0) (.slice none 0 0))
                go_wp2_with fail
                refine bodyPost_ret (v := .tuple #[fzero, .int .i64 5]) (by simp [results, Tryz.results33, go_sem, sc0, sc1, sc2, fzero]) rfl ?_
                exact FpRes.full HFF.out HNK.out HGC.out ⟨_, _, rfl, .inr ⟨HBD.out, rfl, rfl⟩, HG2.out⟩
            · have d1 : (ncmp ((nval (ftop (45 :: d))).gcd (nval (fbot (45 :: d)))) 1 == 0) = false := by
                rw [beq_eq_false_iff_ne]
                rcases Nat.lt_or_gt_of_ne hgc with h | h
                · rw [ncmp_lt h]; omega
                · rw [ncmp_gt h]; omega
              have HGC := Lib.hid hgc
              clear hgc
              generalize ncmp ((nval (ftop (45 :: d))).gcd (nval (fbot (45 :: d)))) 1 = cc at *
              obtain ⟨rc0, rc1, rc2, rf0, rf1, rf2, rlt, -⟩ := id hR
              obtain ⟨fc0, fc1, fc2, ff0, ff1, ff2, flt, -⟩ := id hF
              have hfl := (hR.fill false none none 0 0 0 0).1
              obtain ⟨sc0, sc1, sc2, -, -, -, -, -⟩ := id hfl
              have HG2 := Lib.hid (C3.three hG (q := w.heap.size) (Nat.le_refl _) (.bool false) (.slice none 0 0) (.slice none 0 0))
              go_wp2_with fail
              refine bodyPost_ret (v := .tuple #[fzero, .int .i64 2]) (by simp [results, Tryz.results33, go_sem, sc0, sc1, sc2, fzero]) rfl ?_
              exact FpRes.low HFF.out HNK.out HGC.out rfl HG2.out
          · have HB : Hid (¬ (nok (ftop (45 :: d)) ∧ nok (fbot (45 :: d)))) := Lib.hid fun h => q2 h.2
            clear q1 q2 hn1 HV1
            have hfl := (hR.fill false none none 0 0 0 0).1
            obtain ⟨sc0, sc1, sc2, -, -, -, -, -⟩ := id hfl
            have HG2 := Lib.hid (C3.three hG (q := w.heap.size) (Nat.le_refl _) (.bool false) (.slice none 0 0) (.slice none 0 0))
            go_wp2_with fail
            refine bodyPost_ret (v := .tuple #[fzero, .int .i64 5]) (by simp [results, Tryz.results33, go_sem, sc0, sc1, sc2, fzero]) rfl ?_
            exact FpRes.limit HFF.out HB.out rfl HG2.out
        · have HB : Hid (¬ (nok (ftop (45 :: d)) ∧ nok (fbot (45 :: d)))) := Lib.hid fun h => q1 h.1
          clear q1 HV1 hv2
          have hfl := (hR.fill false none none 0 0 0 0).1
          obtain ⟨sc0, sc1, sc2, -, -, -, -, -⟩ := id hfl
          have HG2 := Lib.hid (C3.three hG (q := w.heap.size) (Nat.le_refl _) (.bool false) (.slice none 0 0) (.slice none 0 0))
          go_wp2_with fail
          refine bodyPost_ret (v := .tuple #[fzero, .int .i64 5]) (by simp [results, Tryz.results33, go_sem, sc0, sc1, sc2, fzero]) rfl ?_
          exact FpRes.limit HFF.out HB.out rfl HG2.out
    · rw [decide_eq_false ht] at HD
      have HB : Hid (¬ fform (45 :: d)) := Lib.hid fun h => ht h.1
      clear ht
      obtain ⟨rc0, rc1, rc2, rf0, rf1, rf2, rlt, -⟩ := id hR
      obtain ⟨fc0, fc1, fc2, ff0, ff1, ff2, flt, -⟩ := id hF
      have hfl := (hR.fill false none none 0 0 0 0).1
      obtain ⟨sc0, sc1, sc2, -, -, -, -, -⟩ := id hfl
      have HG2 := Lib.hid (C3.three hG (q := w.heap.size) (Nat.le_refl _) (.bool false) (.slice none 0 0) (.slice none 0 0))
      go_wp2_with fail
      refine (HD.out _).mono ?_
      rintro e w' ⟨rfl, rfl⟩
      go_wp2_with fail
      refine bodyPost_ret (v := .tuple #[fzero, .int .i64 2]) (by simp [results, Tryz.results33, go_sem, sc0, sc1, sc2, fzero]) rfl ?_
      exact FpRes.form HB.out rfl HG2.out
  · rw [hps] at HP hcp ⊢
    clear hps
    obtain ⟨g0, rfl, hc0⟩ := HP.out 0 _ rfl
    obtain ⟨g1, hgg, hc1⟩ := HP.out 1 _ rfl
    cases hgg
    have HD := Lib.hid (fun w => rdigits_any (str (ftop (45 :: d))) w (by rw [str_size]; have := (part_le (45 :: d)).1; simp at hl; simp at this; omega))
    rw [str_data] at HD
    have HDB := Lib.hid (fun w => rdigits_any (str (fbot (45 :: d))) w (by rw [str_size]; have := (part_le (45 :: d)).2; simp at hl; simp at this; omega))
    rw [str_data] at HDB
    by_cases ht : txt (ftop (45 :: d))
    · rw [decide_eq_true ht] at HD
      have HT := Lib.hid ht
      clear ht
      by_cases hz : ftop (45 :: d) = [48]
      · have t1 : (str (ftop (45 :: d))).toList = [48] := by rw [Lib.toList_data, str_data]; exact hz
        clear hz
        by_cases hb : txt (fbot (45 :: d))
        · rw [decide_eq_true hb] at HDB
          have HTB := Lib.hid hb
          clear hb
          by_cases h0 : fbot (45 :: d) = [48]
          · have u0 : (str (fbot (45 :: d))).toList = [48] := by rw [Lib.toList_data, str_data]; exact h0
            have HB : Hid (¬ fform (45 :: d)) := Lib.hid fun h => (h.2.2.1 hs).1 h0
            clear h0
            have hfl := (hR.fill false none none 0 0 0 0).1
            obtain ⟨sc0, sc1, sc2, -, -, -, -, -⟩ := id hfl
            have HG2 := Lib.hid (C3.three hG (q := w.heap.size) (Nat.le_refl _) (.bool false) (.slice none 0 0) (.slice none 0 0))
            obtain ⟨rc0, rc1, rc2, rf0, rf1, rf2, rlt, -⟩ := id hR
            obtain ⟨fc0, fc1, fc2, ff0, ff1, ff2, flt, -⟩ := id hF
            go_wp2_with fail
            refine (HD.out _).mono ?_
            rintro e w' ⟨rfl, rfl⟩
            go_wp2_with fail
            refine (HDB.out _).mono ?_
            rintro e w' ⟨rfl, rfl⟩
            go_wp2_with fail
            refine bodyPost_ret (v := .tuple #[fzero, .int .i64 2]) (by simp [results, Tryz.results33, go_sem, sc0, sc1, sc2, fzero]) rfl ?_
            exact FpRes.form HB.out rfl HG2.out
          · have u0 : ¬ (str (fbot (45 :: d))).toList = [48] := by rw [Lib.toList_data, str_data]; exact h0
            by_cases h1 : fbot (45 :: d) = [49]
            · have u1 : (str (fbot (45 :: d))).toList = [49] := by rw [Lib.toList_data, str_data]; exact h1
              have HB : Hid (¬ fform (45 :: d)) := Lib.hid fun h => (h.2.2.1 hs).2 h1
              clear h0 h1
              have hfl := (hR.fill false none none 0 0 0 0).1
              obtain ⟨sc0, sc1, sc2, -, -, -, -, -⟩ := id hfl
              have HG2 := Lib.hid (C3.three hG (q := w.heap.size) (Nat.le_refl _) (.bool false) (.slice none 0 0) (.slice none 0 0))
              obtain ⟨rc0, rc1, rc2, rf0, rf1, rf2, rlt, -⟩ := id hR
              obtain ⟨fc0, fc1, fc2, ff0, ff1, ff2, flt, -⟩ := id hF
              go_wp2_with fail
              refine (HD.out _).mono ?_
              rintro e w' ⟨rfl, rfl⟩
              go_wp2_with fail
              refine (HDB.out _).mono ?_
              rintro e w' ⟨rfl, rfl⟩
              go_wp2_with fail
              refine bodyPost_ret (v := .tuple #[fzero, .int .i64 2]) (by simp [results, Tryz.results33, go_sem, sc0, sc1, sc2, fzero]) rfl ?_
              exact FpRes.form HB.out rfl HG2.out
            · have u1 : ¬ (str (fbot (45 :: d))).toList = [49] := by rw [Lib.toList_data, str_data]; exact h1
              have HFF : Hid (fform (45 :: d)) := Lib.hid ⟨HT.out, HTB.out, fun _ => ⟨h0, h1⟩, fun h => by rw [hs] at h; cases h.2.2⟩
              clear h0 h1
              have u0b : ((str (fbot (45 :: d))).toList == [48]) = false := by rw [beq_eq_false_iff_ne]; exact u0
              have u1b : ((str (fbot (45 :: d))).toList == [49]) = false := by rw [beq_eq_false_iff_ne]; exact u1
              obtain ⟨rc0, rc1, rc2, rf0, rf1, rf2, rlt, -⟩ := id hR
              obtain ⟨fc0, fc1, fc2, ff0, ff1, ff2, flt, -⟩ := id hF
              go_wp2_with fail
              refine (HD.out _).mono ?_
              rintro e w' ⟨rfl, rfl⟩
              go_wp2_with fail
              refine (HDB.out _).mono ?_
              rintro e w' ⟨rfl, rfl⟩
              go_wp2_with fail
              iterate 1 (first | (exfalso; rename_i hx; rcases hx with hx | hx; exact u0 (by simpa using hx); exact u1 (by simpa using hx)) | skip)
              clear t1 u0 u1 u0b u1b HD HDB
              refine (rparse_any (str (ftop (45 :: d))) _ (by rw [str_size]; have := (part_le (45 :: d)).1; simp at hl; simp at this; omega)).mono ?_
              rintro e w2 h
              rw [str_data] at h
              obtain ⟨a1, m1, k1, e1, rfl, hv1, hg⟩ := psres_txt HT.out h
              have HV1 := Lib.hid hv1
              clear h hv1 rc0 rc1 rc2 rf0 rf1 rf2 rlt fc0 fc1 fc2 ff0 ff1 ff2 flt
              have HP := Lib.hid (HP.out.gr hg)
              have hR := hR.gr hg
              have hF := hF.gr hg
              have hG := hG.step hg
              clear hg
              obtain ⟨rc0, rc1, rc2, rf0, rf1, rf2, rlt, -⟩ := id hR
              obtain ⟨fc0, fc1, fc2, ff0, ff1, ff2, flt, -⟩ := id hF
              go_wp2_with fail
              refine (rparse_any (str (fbot (45 :: d))) _ (by rw [str_size]; have := (part_le (45 :: d)).2; simp at hl; simp at this; omega)).mono ?_
              rintro e w3 h
              rw [str_data] at h
              obtain ⟨a2, m2, k2, e2, rfl, hv2, hg⟩ := psres_txt HTB.out h
              have HV1 := Lib.hid (HV1.out.imp (fun q => (⟨q.1, q.2.1, q.2.2.gr hg⟩ : _ ∧ _ ∧ Num w3 _ _)) id)
              clear h rc0 rc1 rc2 rf0 rf1 rf2 rlt fc0 fc1 fc2 ff0 ff1 ff2 flt
              have hR := hR.gr hg
              have hF := hF.gr hg
              have hG := hG.step hg
              clear hg
              obtain ⟨rc0, rc1, rc2, rf0, rf1, rf2, rlt, -⟩ := id hR
              obtain ⟨fc0, fc1, fc2, ff0, ff1, ff2, flt, -⟩ := id hF
              rcases HV1.out with ⟨q1, rfl, hn1⟩ | ⟨q1, rfl, -⟩
              · rcases hv2 with ⟨q2, rfl, hn2⟩ | ⟨q2, rfl, -⟩
                · clear HV1
                  have HN1 := Lib.hid hn1
                  have HN2 := Lib.hid hn2
                  have HNK : Hid (nok (ftop (45 :: d)) ∧ nok (fbot (45 :: d))) := Lib.hid ⟨q1, q2⟩
                  clear hn1 hn2 q1 q2
                  go_wp2_with fail
                  have hk1 := HNK.out.1.2
                  have hk2 := HNK.out.2.2
                  refine (rgcd_any _ _ _ HN1.out HN2.out (by omega) (by omega)).mono ?_
                  rintro e w4 ⟨vg, rfl, hvg, hg⟩
                  obtain ⟨ag, cg, rfl⟩ := num_slice hvg
                  have HVG := Lib.hid hvg
                  have HN1 := Lib.hid (HN1.out.gr hg)
                  have HN2 := Lib.hid (HN2.out.gr hg)
                  clear hvg rc0 rc1 rc2 rf0 rf1 rf2 rlt fc0 fc1 fc2 ff0 ff1 ff2 flt
                  have hR := hR.gr hg
                  have hF := hF.gr hg
                  have hG := hG.step hg
                  clear hg
                  obtain ⟨rc0, rc1, rc2, rf0, rf1, rf2, rlt, -⟩ := id hR
                  obtain ⟨fc0, fc1, fc2, ff0, ff1, ff2, flt, -⟩ := id hF
                  go_wp2_with fail
                  have hk2' := nd_le_len'' hk2 (Nat.gcd_le_right (nval (ftop (45 :: d))) (bot_pos HFF.out))
                  have hg := Gr.alloc (Gr.refl w4) (.cells #[.int .i64 1] 3)
                  have HO := Lib.hid (one_num w4)
                  have HVG := Lib.hid (HVG.out.gr hg)
                  have HN1 := Lib.hid (HN1.out.gr hg)
                  have HN2 := Lib.hid (HN2.out.gr hg)
                  have hR := hR.gr hg
                  have hF := hF.gr hg
                  have hG := hG.step hg
                  clear hg
                  generalize w4.alloc (.cells #[.int .i64 1] 3) = w4' at *
                  refine (rcmp_nat _ _ _ HVG.out HO.out (by omega) (by rw [nd_one (by omega) (by omega)]; simp)).mono ?_
                  rintro e w5 ⟨rfl, hg⟩
                  have HN1 := Lib.hid (HN1.out.gr hg)
                  have HN2 := Lib.hid (HN2.out.gr hg)
                  clear HVG HO rc0 rc1 rc2 rf0 rf1 rf2 rlt fc0 fc1 fc2 ff0 ff1 ff2 flt
                  have hR := hR.gr hg
                  have hF := hF.gr hg
                  have hG := hG.step hg
                  clear hg
                  by_cases hgc : (nval (ftop (45 :: d))).gcd (nval (fbot (45 :: d))) = 1
                  · rw [hgc, ncmp_eq]
                    have HGC := Lib.hid hgc
                    clear hgc
                    obtain ⟨rc0, rc1, rc2, rf0, rf1, rf2, rlt, -⟩ := id hR
                    obtain ⟨fc0, fc1, fc2, ff0, ff1, ff2, flt, -⟩ := id hF
                    have hF2 := (hF.set1 (.slice a1 m1 k1)).set2 (.slice a2 m2 k2)
                    have hR2 := (hR.other (o := 1) (.slice a1 m1 k1) (s := w.heap.size + 1) (by omega)).other (o := 2) (.slice a2 m2 k2) (s := w.heap.size + 1) (by omega)
                    have hG2 := (hG.setCell (p := ⟨w.heap.size + 1, 1, none⟩) (by simp) (.slice a1 m1 k1)).setCell (p := ⟨w.heap.size + 1, 2, none⟩) (by simp) (.slice a2 m2 k2)
                    have HN1' := Lib.hid ((hF.set1 (.slice a1 m1 k1)).num (o := 2) (hF.num (o := 1) HN1.out (.slice a1 m1 k1)) (.slice a2 m2 k2))
                    have HN2' := Lib.hid ((hF.set1 (.slice a1 m1 k1)).num (o := 2) (hF.num (o := 1) HN2.out (.slice a1 m1 k1)) (.slice a2 m2 k2))
                    obtain ⟨gc0, gc1, gc2, -, -, -, -, -⟩ := id hF2
                    clear HN1 HN2
                    go_wp2_with fail
                    generalize (w5.setCell ⟨w.heap.size + 1, 1, none⟩ (.slice a1 m1 k1)).setCell ⟨w.heap.size + 1, 2, none⟩ (.slice a2 m2 k2) = w6 at *
                    have hred : Red w6 (.agg #[.bool true, .slice a1 m1 k1, .slice a2 m2 k2]) (rat (fneg (45 :: d)) (nval (ftop (45 :: d))) (nval (fbot (45 :: d)))) := by
                      have h := red_full HFF.out HGC.out HN1'.out HN2'.out
                      rw [hn] at h ⊢
                      exact h
                    refine (rlimited_any _ _ hred).mono ?_
                    rintro e w7 ⟨v, er, rfl, hv, hg⟩
                    have hR := hR2.gr hg
                    have hG := hG2.step hg
                    clear hg hred hR2 hG2 hF2 HN1' HN2' gc0 gc1 gc2 rc0 rc1 rc2 rf0 rf1 rf2 rlt fc0 fc1 fc2 ff0 ff1 ff2 flt
                    obtain ⟨rc0, rc1, rc2, rf0, rf1, rf2, rlt, -⟩ := id hR
                    rcases hv with ⟨hb, rfl, vn, vd, rfl, hvn, hvd⟩ | ⟨hb, rfl, rfl⟩
                    · obtain ⟨an, cn, rfl⟩ := num_slice hvn
                      obtain ⟨ad, cd, rfl⟩ := num_slice hvd
                      have HVN := Lib.hid hvn
                      have HVD := Lib.hid hvd
                      have HBD := Lib.hid hb
                      clear hvn hvd hb
                      obtain ⟨nb, hnb⟩ : ∃ nb : Bool, nb = decide ((rat (fneg (45 :: d)) (nval (ftop (45 :: d))) (nval (fbot (45 :: d)))).num < 0) := ⟨_, rfl⟩
                      have HNB := Lib.hid hnb.symm
                      rw [HNB.out]
                      clear hnb
                      generalize (nd (rat (fneg (45 :: d)) (nval (ftop (45 :: d))) (nval (fbot (45 :: d)))).num.natAbs).length = ln at *
                      generalize (nd (rat (fneg (45 :: d)) (nval (ftop (45 :: d))) (nval (fbot (45 :: d)))).den).length = ld at *
                      have hfl := hR.fill nb an ad ln ld cn cd
                      obtain ⟨sc0, sc1, sc2, -, -, -, -, -⟩ := id hfl.1
                      have HG2 := Lib.hid (C3.three hG (q := w.heap.size) (Nat.le_refl _) (.bool nb) (.slice an ln cn) (.slice ad ld cd))
                      have HVN := Lib.hid (hfl.2 HVN.out)
                      have HVD := Lib.hid (hfl.2 HVD.out)
                      clear hfl
                      go_wp2_with fail
                      refine bodyPost_ret (v := .tuple #[.agg #[.bool nb, .slice an ln cn, .slice ad ld cd], .int .i64 0]) (by simp [results, Tryz.results33, go_sem, sc0, sc1, sc2]) rfl ?_
                      refine FpRes.full HFF.out HNK.out HGC.out ⟨_, _, rfl, .inl ⟨HBD.out, rfl, ?_⟩, HG2.out⟩
                      exact ⟨_, _, by rw [HNB.out], HVN.out, HVD.out⟩
                    · have HBD := Lib.hid hb
                      clear hb
                      unfold fzero
                      have hfl := (hR.fill false none none 0 0 0 0).1
                      obtain ⟨sc0, sc1, sc2, -, -, -, -, -⟩ := id hfl
                      have HG2 := Lib.hid (C3.three hG (q := w.heap.size) (Nat.le_refl _) (.bool false) (.slice none 0 0) (.slice none 0 0))
                      go_wp2_with fail
                      refine bodyPost_ret (v := .tuple #[fzero, .int .i64 5]) (by simp [results, Tryz.results33, go_sem, sc0, sc1, sc2, fzero]) rfl ?_
                      exact FpRes.full HFF.out HNK.out HGC.out ⟨_, _, rfl, .inr ⟨HBD.out, rfl, rfl⟩, HG2.out⟩
                  · have d1 : (ncmp ((nval (ftop (45 :: d))).gcd (nval (fbot (45 :: d)))) 1 == 0) = false := by
                      rw [beq_eq_false_iff_ne]
                      rcases Nat.lt_or_gt_of_ne hgc with h | h
                      · rw [ncmp_lt h]; omega
                      · rw [ncmp_gt h]; omega
                    have HGC := Lib.hid hgc
                    clear hgc
                    generalize ncmp ((nval (ftop (45 :: d))).gcd (nval (fbot (45 :: d)))) 1 = cc at *
                    obtain ⟨rc0, rc1, rc2, rf0, rf1, rf2, rlt, -⟩ := id hR
                    obtain ⟨fc0, fc1, fc2, ff0, ff1, ff2, flt, -⟩ := id hF
                    have hfl := (hR.fill false none none 0 0 0 0).1
                    obtain ⟨sc0, sc1, sc2, -, -, -, -, -⟩ := id hfl
                    have HG2 := Lib.hid (C3.three hG (q := w.heap.size) (Nat.le_refl _) (.bool false) (.slice none 0 0) (.slice none 0 0))
                    go_wp2_with fail
                    refine bodyPost_ret (v := .tuple #[fzero, .int .i64 2]) (by simp [results, Tryz.results33, go_sem, sc0, sc1, sc2, fzero]) rfl ?_
                    exact FpRes.low HFF.out HNK.out HGC.out rfl HG2.out
                · have HB : Hid (¬ (nok (ftop (45 :: d)) ∧ nok (fbot (45 :: d)))) := Lib.hid fun h => q2 h.2
                  clear q1 q2 hn1 HV1
                  have hfl := (hR.fill false none none 0 0 0 0).1
                  obtain ⟨sc0, sc1, sc2, -, -, -, -, -⟩ := id hfl
                  have HG2 := Lib.hid (C3.three hG (q := w.heap.size) (Nat.le_refl _) (.bool false) (.slice none 0 0) (.slice none 0 0))
                  go_wp2_with fail
                  refine bodyPost_ret (v := .tuple #[fzero, .int .i64 5]) (by simp [results, Tryz.results33, go_sem, sc0, sc1, sc2, fzero]) rfl ?_
                  exact FpRes.limit HFF.out HB.out rfl HG2.out
              · have HB : Hid (¬ (nok (ftop (45 :: d)) ∧ nok (fbot (45 :: d)))) := Lib.hid fun h => q1 h.1
                clear q1 HV1 hv2
                have hfl := (hR.fill false none none 0 0 0 0).1
                obtain ⟨sc0, sc1, sc2, -, -, -, -, -⟩ := id hfl
                have HG2 := Lib.hid (C3.three hG (q := w.heap.size) (Nat.le_refl _) (.bool false) (.slice none 0 0) (.slice none 0 0))
                go_wp2_with fail
                refine bodyPost_ret (v := .tuple #[fzero, .int .i64 5]) (by simp [results, Tryz.results33, go_sem, sc0, sc1, sc2, fzero]) rfl ?_
                exact FpRes.limit HFF.out HB.out rfl HG2.out
        · rw [decide_eq_false hb] at HDB
          have HB : Hid (¬ fform (45 :: d)) := Lib.hid fun h => hb h.2.1
          clear hb
          have hfl := (hR.fill false none none 0 0 0 0).1
          obtain ⟨sc0, sc1, sc2, -, -, -, -, -⟩ := id hfl
          have HG2 := Lib.hid (C3.three hG (q := w.heap.size) (Nat.le_refl _) (.bool false) (.slice none 0 0) (.slice none 0 0))
          obtain ⟨rc0, rc1, rc2, rf0, rf1, rf2, rlt, -⟩ := id hR
          obtain ⟨fc0, fc1, fc2, ff0, ff1, ff2, flt, -⟩ := id hF
          go_wp2_with fail
          refine (HD.out _).mono ?_
          rintro e w' ⟨rfl, rfl⟩
          go_wp2_with fail
          refine (HDB.out _).mono ?_
          rintro e w' ⟨rfl, rfl⟩
          go_wp2_with fail
          refine bodyPost_ret (v := .tuple #[fzero, .int .i64 2]) (by simp [results, Tryz.results33, go_sem, sc0, sc1, sc2, fzero]) rfl ?_
          exact FpRes.form HB.out rfl HG2.out
      · have t1 : ¬ (str (ftop (45 :: d))).toList = [48] := by rw [Lib.toList_data, str_data]; exact hz
        clear hz
        by_cases hb : txt (fbot (45 :: d))
        · rw [decide_eq_true hb] at HDB
          have HTB := Lib.hid hb
          clear hb
          by_cases h0 : fbot (45 :: d) = [48]
          · have u0 : (str (fbot (45 :: d))).toList = [48] := by rw [Lib.toList_data, str_data]; exact h0
            have HB : Hid (¬ fform (45 :: d)) := Lib.hid fun h => (h.2.2.1 hs).1 h0
            clear h0
            have hfl := (hR.fill false none none 0 0 0 0).1
            obtain ⟨sc0, sc1, sc2, -, -, -, -, -⟩ := id hfl
            have HG2 := Lib.hid (C3.three hG (q := w.heap.size) (Nat.le_refl _) (.bool false) (.slice none 0 0) (.slice none 0 0))
            obtain ⟨rc0, rc1, rc2, rf0, rf1, rf2, rlt, -⟩ := id hR
            obtain ⟨fc0, fc1, fc2, ff0, ff1, ff2, flt, -⟩ := id hF
            go_wp2_with fail
            refine (HD.out _).mono ?_
            rintro e w' ⟨rfl, rfl⟩
            go_wp2_with fail
            refine (HDB.out _).mono ?_
            rintro e w' ⟨rfl, rfl⟩
            go_wp2_with fail
            refine bodyPost_ret (v := .tuple #[fzero, .int .i64 2]) (by simp [results, Tryz.results33, go_sem, sc0, sc1, sc2, fzero]) rfl ?_
            exact FpRes.form HB.out rfl HG2.out
          · have u0 : ¬ (str (fbot (45 :: d))).toList = [48] := by rw [Lib.toList_data, str_data]; exact h0
            by_cases h1 : fbot (45 :: d) = [49]
            · have u1 : (str (fbot (45 :: d))).toList = [49] := by rw [Lib.toList_data, str_data]; exact h1
              have HB : Hid (¬ fform (45 :: d)) := Lib.hid fun h => (h.2.2.1 hs).2 h1
              clear h0 h1
              have hfl := (hR.fill false none none 0 0 0 0).1
              obtain ⟨sc0, sc1, sc2, -, -, -, -, -⟩ := id hfl
              have HG2 := Lib.hid (C3.three hG (q := w.heap.size) (Nat.le_refl _) (.bool false) (.slice none 0 0) (.slice none 0 0))
              obtain ⟨rc0, rc1, rc2, rf0, rf1, rf2, rlt, -⟩ := id hR
              obtain ⟨fc0, fc1, fc2, ff0, ff1, ff2, flt, -⟩ := id hF
              go_wp2_with fail
              refine (HD.out _).mono ?_
              rintro e w' ⟨rfl, rfl⟩
              go_wp2_with fail
              refine (HDB.out _).mono ?_
              rintro e w' ⟨rfl, rfl⟩
              go_wp2_with fail
              refine bodyPost_ret (v := .tuple #[fzero, .int .i64 2]) (by simp [results, Tryz.results33, go_sem, sc0, sc1, sc2, fzero]) rfl ?_
              exact FpRes.form HB.out rfl HG2.out
            · have u1 : ¬ (str (fbot (45 :: d))).toList = [49] := by rw [Lib.toList_data, str_data]; exact h1
              have HFF : Hid (fform (45 :: d)) := Lib.hid ⟨HT.out, HTB.out, fun _ => ⟨h0, h1⟩, fun h => by rw [hs] at h; cases h.2.2⟩
              clear h0 h1
              have u0b : ((str (fbot (45 :: d))).toList == [48]) = false := by rw [beq_eq_false_iff_ne]; exact u0
              have u1b : ((str (fbot (45 :: d))).toList == [49]) = false := by rw [beq_eq_false_iff_ne]; exact u1
              obtain ⟨rc0, rc1, rc2, rf0, rf1, rf2, rlt, -⟩ := id hR
              obtain ⟨fc0, fc1, fc2, ff0, ff1, ff2, flt, -⟩ := id hF
              go_wp2_with fail
              refine (HD.out _).mono ?_
              rintro e w' ⟨rfl, rfl⟩
              go_wp2_with fail
              refine (HDB.out _).mono ?_
              rintro e w' ⟨rfl, rfl⟩
              go_wp2_with fail
              iterate 1 (first | (exfalso; rename_i hx; rcases hx with hx | hx; exact u0 (by simpa using hx); exact u1 (by simpa using hx)) | skip)
              clear t1 u0 u1 u0b u1b HD HDB
              refine (rparse_any (str (ftop (45 :: d))) _ (by rw [str_size]; have := (part_le (45 :: d)).1; simp at hl; simp at this; omega)).mono ?_
              rintro e w2 h
              rw [str_data] at h
              obtain ⟨a1, m1, k1, e1, rfl, hv1, hg⟩ := psres_txt HT.out h
              have HV1 := Lib.hid hv1
              clear h hv1 rc0 rc1 rc2 rf0 rf1 rf2 rlt fc0 fc1 fc2 ff0 ff1 ff2 flt
              have HP := Lib.hid (HP.out.gr hg)
              have hR := hR.gr hg
              have hF := hF.gr hg
              have hG := hG.step hg
              clear hg
              obtain ⟨rc0, rc1, rc2, rf0, rf1, rf2, rlt, -⟩ := id hR
              obtain ⟨fc0, fc1, fc2, ff0, ff1, ff2, flt, -⟩ := id hF
              go_wp2_with fail
              refine (rparse_any (str (fbot (45 :: d))) _ (by rw [str_size]; have := (part_le (45 :: d)).2; simp at hl; simp at this; omega)).mono ?_
              rintro e w3 h
              rw [str_data] at h
              obtain ⟨a2, m2, k2, e2, rfl, hv2, hg⟩ := psres_txt HTB.out h
              have HV1 := Lib.hid (HV1.out.imp (fun q => (⟨q.1, q.2.1, q.2.2.gr hg⟩ : _ ∧ _ ∧ Num w3 _ _)) id)
              clear h rc0 rc1 rc2 rf0 rf1 rf2 rlt fc0 fc1 fc2 ff0 ff1 ff2 flt
              have hR := hR.gr hg
              have hF := hF.gr hg
              have hG := hG.step hg
              clear hg
              obtain ⟨rc0, rc1, rc2, rf0, rf1, rf2, rlt, -⟩ := id hR
              obtain ⟨fc0, fc1, fc2, ff0, ff1, ff2, flt, -⟩ := id hF
              rcases HV1.out with ⟨q1, rfl, hn1⟩ | ⟨q1, rfl, -⟩
              · rcases hv2 with ⟨q2, rfl, hn2⟩ | ⟨q2, rfl, -⟩
                · clear HV1
                  have HN1 := Lib.hid hn1
                  have HN2 := Lib.hid hn2
                  have HNK : Hid (nok (ftop (45 :: d)) ∧ nok (fbot (45 :: d))) := Lib.hid ⟨q1, q2⟩
                  clear hn1 hn2 q1 q2
                  go_wp2_with fail
                  have hk1 := HNK.out.1.2
                  have hk2 := HNK.out.2.2
                  refine (rgcd_any _ _ _ HN1.out HN2.out (by omega) (by omega)).mono ?_
                  rintro e w4 ⟨vg, rfl, hvg, hg⟩
                  obtain ⟨ag, cg, rfl⟩ := num_slice hvg
                  have HVG := Lib.hid hvg
                  have HN1 := Lib.hid (HN1.out.gr hg)
                  have HN2 := Lib.hid (HN2.out.gr hg)
                  clear hvg rc0 rc1 rc2 rf0 rf1 rf2 rlt fc0 fc1 fc2 ff0 ff1 ff2 flt
                  have hR := hR.gr hg
                  have hF := hF.gr hg
                  have hG := hG.step hg
                  clear hg
                  obtain ⟨rc0, rc1, rc2, rf0, rf1, rf2, rlt, -⟩ := id hR
                  obtain ⟨fc0, fc1, fc2, ff0, ff1, ff2, flt, -⟩ := id hF
                  go_wp2_with fail
                  have hk2' := nd_le_len'' hk2 (Nat.gcd_le_right (nval (ftop (45 :: d))) (bot_pos HFF.out))
                  have hg := Gr.alloc (Gr.refl w4) (.cells #[.int .i64 1] 3)
                  have HO := Lib.hid (one_num w4)
                  have HVG := Lib.hid (HVG.out.gr hg)
                  have HN1 := Lib.hid (HN1.out.gr hg)
                  have HN2 := Lib.hid (HN2.out.gr hg)
                  have hR := hR.gr hg
                  have hF := hF.gr hg
                  have hG := hG.step hg
                  clear hg
                  generalize w4.alloc (.cells #[.int .i64 1] 3) = w4' at *
                  refine (rcmp_nat _ _ _ HVG.out HO.out (by omega) (by rw [nd_one (by omega) (by omega)]; simp)).mono ?_
                  rintro e w5 ⟨rfl, hg⟩
                  have HN1 := Lib.hid (HN1.out.gr hg)
                  have HN2 := Lib.hid (HN2.out.gr hg)
                  clear HVG HO rc0 rc1 rc2 rf0 rf1 rf2 rlt fc0 fc1 fc2 ff0 ff1 ff2 flt
                  have hR := hR.gr hg
                  have hF := hF.gr hg
                  have hG := hG.step hg
                  clear hg
                  by_cases hgc : (nval (ftop (45 :: d))).gcd (nval (fbot (45 :: d))) = 1
                  · rw [hgc, ncmp_eq]
                    have HGC := Lib.hid hgc
                    clear hgc
                    obtain ⟨rc0, rc1, rc2, rf0, rf1, rf2, rlt, -⟩ := id hR
                    obtain ⟨fc0, fc1, fc2, ff0, ff1, ff2, flt, -⟩ := id hF
                    have hF2 := (hF.set1 (.slice a1 m1 k1)).set2 (.slice a2 m2 k2)
                    have hR2 := (hR.other (o := 1) (.slice a1 m1 k1) (s := w.heap.size + 1) (by omega)).other (o := 2) (.slice a2 m2 k2) (s := w.heap.size + 1) (by omega)
                    have hG2 := (hG.setCell (p := ⟨w.heap.size + 1, 1, none⟩) (by simp) (.slice a1 m1 k1)).setCell (p := ⟨w.heap.size + 1, 2, none⟩) (by simp) (.slice a2 m2 k2)
                    have HN1' := Lib.hid ((hF.set1 (.slice a1 m1 k1)).num (o := 2) (hF.num (o := 1) HN1.out (.slice a1 m1 k1)) (.slice a2 m2 k2))
                    have HN2' := Lib.hid ((hF.set1 (.slice a1 m1 k1)).num (o := 2) (hF.num (o := 1) HN2.out (.slice a1 m1 k1)) (.slice a2 m2 k2))
                    obtain ⟨gc0, gc1, gc2, -, -, -, -, -⟩ := id hF2
                    clear HN1 HN2
                    go_wp2_with fail
                    generalize (w5.setCell ⟨w.heap.size + 1, 1, none⟩ (.slice a1 m1 k1)).setCell ⟨w.heap.size + 1, 2, none⟩ (.slice a2 m2 k2) = w6 at *
                    have hred : Red w6 (.agg #[.bool true, .slice a1 m1 k1, .slice a2 m2 k2]) (rat (fneg (45 :: d)) (nval (ftop (45 :: d))) (nval (fbot (45 :: d)))) := by
                      have h := red_full HFF.out HGC.out HN1'.out HN2'.out
                      rw [hn] at h ⊢
                      exact h
                    refine (rlimited_any _ _ hred).mono ?_
                    rintro e w7 ⟨v, er, rfl, hv, hg⟩
                    have hR := hR2.gr hg
                    have hG := hG2.step hg
                    clear hg hred hR2 hG2 hF2 HN1' HN2' gc0 gc1 gc2 rc0 rc1 rc2 rf0 rf1 rf2 rlt fc0 fc1 fc2 ff0 ff1 ff2 flt
                    obtain ⟨rc0, rc1, rc2, rf0, rf1, rf2, rlt, -⟩ := id hR
                    rcases hv with ⟨hb, rfl, vn, vd, rfl, hvn, hvd⟩ | ⟨hb, rfl, rfl⟩
                    · obtain ⟨an, cn, rfl⟩ := num_slice hvn
                      obtain ⟨ad, cd, rfl⟩ := num_slice hvd
                      have HVN := Lib.hid hvn
                      have HVD := Lib.hid hvd
                      have HBD := Lib.hid hb
                      clear hvn hvd hb
                      obtain ⟨nb, hnb⟩ : ∃ nb : Bool, nb = decide ((rat (fneg (45 :: d)) (nval (ftop (45 :: d))) (nval (fbot (45 :: d)))).num < 0) := ⟨_, rfl⟩
                      have HNB := Lib.hid hnb.symm
                      rw [HNB.out]
                      clear hnb
                      generalize (nd (rat (fneg (45 :: d)) (nval (ftop (45 :: d))) (nval (fbot (45 :: d)))).num.natAbs).length = ln at *
                      generalize (nd (rat (fneg (45 :: d)) (nval (ftop (45 :: d))) (nval (fbot (45 :: d)))).den).length = ld at *
                      have hfl := hR.fill nb an ad ln ld cn cd
                      obtain ⟨sc0, sc1, sc2, -, -, -, -, -⟩ := id hfl.1
                      have HG2 := Lib.hid (C3.three hG (q := w.heap.size) (Nat.le_refl _) (.bool nb) (.slice an ln cn) (.slice ad ld cd))
                      have HVN := Lib.hid (hfl.2 HVN.out)
                      have HVD := Lib.hid (hfl.2 HVD.out)
                      clear hfl
                      go_wp2_with fail
                      refine bodyPost_ret (v := .tuple #[.agg #[.bool nb, .slice an ln cn, .slice ad ld cd], .int .i64 0]) (by simp [results, Tryz.results33, go_sem, sc0, sc1, sc2]) rfl ?_
                      refine FpRes.full HFF.out HNK.out HGC.out ⟨_, _, rfl, .inl ⟨HBD.out, rfl, ?_⟩, HG2.out⟩
                      exact ⟨_, _, by rw [HNB.out], HVN.out, HVD.out⟩
                    · have HBD := Lib.hid hb
                      clear hb
                      unfold fzero
                      have hfl := (hR.fill false none none 0 0 0 0).1
                      obtain ⟨sc0, sc1, sc2, -, -, -, -, -⟩ := id hfl
                      have HG2 := Lib.hid (C3.three hG (q := w.heap.size) (Nat.le_refl _) (.bool false) (.slice none 0 0) (.slice none 0 0))
                      go_wp2_with fail
                      refine bodyPost_ret (v := .tuple #[fzero, .int .i64 5]) (by simp [results, Tryz.results33, go_sem, sc0, sc1, sc2, fzero]) rfl ?_
                      exact FpRes.full HFF.out HNK.out HGC.out ⟨_, _, rfl, .inr ⟨HBD.out, rfl, rfl⟩, HG2.out⟩
                  · have d1 : (ncmp ((nval (ftop (45 :: d))).gcd (nval (fbot (45 :: d)))) 1 == 0) = false := by
                      rw [beq_eq_false_iff_ne]
                      rcases Nat.lt_or_gt_of_ne hgc with h | h
                      · rw [ncmp_lt h]; omega
                      · rw [ncmp_gt h]; omega
                    have HGC := Lib.hid hgc
                    clear hgc
                    generalize ncmp ((nval (ftop (45 :: d))).gcd (nval (fbot (45 :: d)))) 1 = cc at *
                    obtain ⟨rc0, rc1, rc2, rf0, rf1, rf2, rlt, -⟩ := id hR
                    obtain ⟨fc0, fc1, fc2, ff0, ff1, ff2, flt, -⟩ := id hF
                    have hfl := (hR.fill false none none 0 0 0 0).1
                    obtain ⟨sc0, sc1, sc2, -, -, -, -, -⟩ := id hfl
                    have HG2 := Lib.hid (C3.three hG (q := w.heap.size) (Nat.le_refl _) (.bool false) (.slice none 0 0) (.slice none 0 0))
                    go_wp2_with fail
                    refine bodyPost_ret (v := .tuple #[fzero, .int .i64 2]) (by simp [results, Tryz.results33, go_sem, sc0, sc1, sc2, fzero]) rfl ?_
                    exact FpRes.low HFF.out HNK.out HGC.out rfl HG2.out
                · have HB : Hid (¬ (nok (ftop (45 :: d)) ∧ nok (fbot (45 :: d)))) := Lib.hid fun h => q2 h.2
                  clear q1 q2 hn1 HV1
                  have hfl := (hR.fill false none none 0 0 0 0).1
                  obtain ⟨sc0, sc1, sc2, -, -, -, -, -⟩ := id hfl
                  have HG2 := Lib.hid (C3.three hG (q := w.heap.size) (Nat.le_refl _) (.bool false) (.slice none 0 0) (.slice none 0 0))
                  go_wp2_with fail
                  refine bodyPost_ret (v := .tuple #[fzero, .int .i64 5]) (by simp [results, Tryz.results33, go_sem, sc0, sc1, sc2, fzero]) rfl ?_
                  exact FpRes.limit HFF.out HB.out rfl HG2.out
              · have HB : Hid (¬ (nok (ftop (45 :: d)) ∧ nok (fbot (45 :: d)))) := Lib.hid fun h => q1 h.1
                clear q1 HV1 hv2
                have hfl := (hR.fill false none none 0 0 0 0).1
                obtain ⟨sc0, sc1, sc2, -, -, -, -, -⟩ := id hfl
                have HG2 := Lib.hid (C3.three hG (q := w.heap.size) (Nat.le_refl _) (.bool false) (.slice none 0 0) (.slice none 0 0))
                go_wp2_with fail
                refine bodyPost_ret (v := .tuple #[fzero, .int .i64 5]) (by simp [results, Tryz.results33, go_sem, sc0, sc1, sc2, fzero]) rfl ?_
                exact FpRes.limit HFF.out HB.out rfl HG2.out
        · rw [decide_eq_false hb] at HDB
          have HB : Hid (¬ fform (45 :: d)) := Lib.hid fun h => hb h.2.1
          clear hb
          have hfl := (hR.fill false none none 0 0 0 0).1
          obtain ⟨sc0, sc1, sc2, -, -, -, -, -⟩ := id hfl
          have HG2 := Lib.hid (C3.three hG (q := w.heap.size) (Nat.le_refl _) (.bool false) (.slice none 0 0) (.slice none 0 0))
          obtain ⟨rc0, rc1, rc2, rf0, rf1, rf2, rlt, -⟩ := id hR
          obtain ⟨fc0, fc1, fc2, ff0, ff1, ff2, flt, -⟩ := id hF
          go_wp2_with fail
          refine (HD.out _).mono ?_
          rintro e w' ⟨rfl, rfl⟩
          go_wp2_with fail
          refine (HDB.out _).mono ?_
          rintro e w' ⟨rfl, rfl⟩
          go_wp2_with fail
          refine bodyPost_ret (v := .tuple #[fzero, .int .i64 2]) (by simp [results, Tryz.results33, go_sem, sc0, sc1, sc2, fzero]) rfl ?_
          exact FpRes.form HB.out rfl HG2.out
    · rw [decide_eq_false ht] at HD
      have HB : Hid (¬ fform (45 :: d)) := Lib.hid fun h => ht h.1
      clear ht
      obtain ⟨rc0, rc1, rc2, rf0, rf1, rf2, rlt, -⟩ := id hR
      obtain ⟨fc0, fc1, fc2, ff0, ff1, ff2, flt, -⟩ := id hF
      have hfl := (hR.fill false none none 0 0 0 0).1
      obtain ⟨sc0, sc1, sc2, -, -, -, -, -⟩ := id hfl
      have HG2 := Lib.hid (C3.three hG (q := w.heap.size) (Nat.le_refl _) (.bool false) (.slice none 0 0) (.slice none 0 0))
      go_wp2_with fail
      refine (HD.out _).mono ?_
      rintro e w' ⟨rfl, rfl⟩
      go_wp2_with fail
      refine bodyPost_ret (v := .tuple #[fzero, .int .i64 2]) (by simp [results, Tryz.results33, go_sem, sc0, sc1, sc2, fzero]) rfl ?_
      exact FpRes.form HB.out rfl HG2.out
  · have big : (2 : Int) < ((parts 47 d).length : Int) := by omega
    have HB := Lib.hid hbad
    generalize (parts 47 d).length = m at *
    clear hlen hbad
    obtain ⟨rc0, rc1, rc2, rf0, rf1, rf2, rlt, -⟩ := id hR
    obtain ⟨fc0, fc1, fc2, ff0, ff1, ff2, flt, -⟩ := id hF
    have hfl := (hR.fill false none none 0 0 0 0).1
    obtain ⟨sc0, sc1, sc2, -, -, -, -, -⟩ := id hfl
    have HG2 := Lib.hid (C3.three hG (q := w.heap.size) (Nat.le_refl _) (.bool false) (.slice none 0 0) (.slice none 0 0))
    go_wp2_with fail
    refine bodyPost_ret (v := .tuple #[fzero, .int .i64 2]) (by simp [results, Tryz.results33, go_sem, sc0, sc1, sc2, fzero]) rfl ?_
    exact FpRes.form HB.out rfl HG2.out
end Go.Proofs.YtjpjnbgfodlkcaaGreatDoor
