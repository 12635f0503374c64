/- The program's Parse of fractions at any text. -/
import Derived.Test.YtjpjnbgfodlkcaaGreatDoorHnM
import Derived.Test.YtjpjnbgfodlkcaaGreatDoorGAS
import Derived.Test.YtjpjnbgfodlkcaaGreatDoorGAP
import Derived.WalkKit
import Derived.WalkSpells
import Derived.WalkLawsBesides
import Derived.WalkSmall
import Derived.Handy
import Derived.BigQuiet
import Derived.Deep.QuietTactic
import Derived.Deep.RegionHeld3
import Derived.Deep.DeepFit
import Derived.Below
import Derived.Lib.Hide
import Derived.Lib.QuietBelow
import Derived.Lib.IndexMore
namespace Go.Proofs.YtjpjnbgfodlkcaaGreatDoor
open Go Go.RowKit Go.Sort
set_option maxRecDepth 100000
set_option linter.unusedVariables false
theorem index_no : ∀ {l : List UInt8}, (∀ c ∈ l, c ≠ 47) → Lib.index l [47] = -1
  | [], _ => rfl
  | b :: l, h => by
    have h1 : (47 == b) = false := by rw [beq_eq_false_iff_ne]; exact fun e => h b (by simp) e.symm
    have h2 := index_no (l := l) fun c hc => h c (by simp [hc])
    unfold Lib.index
    rw [h2]
    simp [List.isPrefixOf, h1]
theorem index_at : ∀ {a b : List UInt8}, (∀ c ∈ a, c ≠ 47) → Lib.index (a ++ 47 :: b) [47] = (a.length : Nat)
  | [], b, _ => by simp [Lib.index, List.isPrefixOf]
  | x :: a, b, h => by
    have h1 : (47 == x) = false := by rw [beq_eq_false_iff_ne]; exact fun e => h x (by simp) e.symm
    have h2 := index_at (a := a) (b := b) fun c hc => h c (by simp [hc])
    rw [List.cons_append]
    unfold Lib.index
    rw [h2]
    have h3 : (((a.length : Nat) : Int) == -1) = false := by rw [beq_eq_false_iff_ne]; omega
    simp [List.isPrefixOf, h1, h3]
theorem lcut_no {l : List UInt8} (h : ∀ c ∈ l, c ≠ 47) : Lib.cut l [47] = (l, [], false) := by
  unfold Lib.cut
  rw [index_no h, if_neg (by omega)]
theorem lcut_at {a b : List UInt8} (h : ∀ c ∈ a, c ≠ 47) : Lib.cut (a ++ 47 :: b) [47] = (a, b, true) := by
  unfold Lib.cut
  rw [index_at h, if_pos (by omega)]
  simp
theorem cutp_any {s d : List UInt8} {ng : Bool} (w : World) (h1 : Lib.trimPrefix s [45] = d) (h2 : Lib.hasPrefix s [45] = ng) :
    Calls Tryz.prog 61 #[.string (str s), .string ⟨#[45]⟩] w fun e w' => e = .returned (.tuple #[.string (str d), .bool ng]) ∧ w = w' := by
  refine (Tryz.strings_CutPrefix (str s) ⟨#[45]⟩ w).mono ?_
  rintro e w' ⟨rfl, rfl⟩
  rw [str_data, show (⟨#[45]⟩ : ByteArray).data.toList = [45] from rfl, h1, h2]
  exact ⟨rfl, rfl⟩
theorem cut_any {s a b : List UInt8} {f : Bool} (w : World) (hs : s.length ≤ 1000000) (hm : ∃ m : Int, w.cell? ⟨0, 0, none⟩ = some (.int .i64 m)) (h1 : Lib.cut s [47] = (a, b, f)) :
    Calls Tryz.prog 62 #[.string (str s), .string ⟨#[47]⟩] w fun e w' => e = .returned (.tuple #[.string (str a), .string (str b), .bool f]) ∧ Gr w w' := by
  obtain ⟨m, hm⟩ := hm
  refine (Tryz.strings_Cut (str s) ⟨#[47]⟩ m w (by rw [str_size]; omega) hm).mono ?_
  rintro e w' ⟨rfl, n, rfl⟩
  rw [str_data, show (⟨#[47]⟩ : ByteArray).data.toList = [47] from rfl, h1]
  exact ⟨rfl, Gr.drewN (Gr.refl _) n⟩
theorem str_ne {x y : List UInt8} (h : x ≠ y) : ((str x).toList == y) = false := by rw [beq_eq_false_iff_ne, Lib.toList_data, str_data]; exact h
theorem str_eq {x y : List UInt8} (h : x = y) : ((str x).toList == y) = true := by rw [beq_iff_eq, Lib.toList_data, str_data]; exact h
theorem split47 : ∀ l : List UInt8, (∀ c ∈ l, c ≠ 47) ∨ ∃ a b, l = a ++ 47 :: b ∧ ∀ c ∈ a, c ≠ 47
  | [] => .inl fun _ h => by cases h
  | x :: r => by
    by_cases hx : x = 47
    · exact .inr ⟨[], r, by rw [hx]; rfl, fun _ h => by cases h⟩
    · rcases split47 r with h | ⟨a, b, rfl, h⟩
      · exact .inl fun c hc => by rcases List.mem_cons.1 hc with rfl | hc; exact hx; exact h c hc
      · exact .inr ⟨x :: a, b, rfl, fun c hc => by rcases List.mem_cons.1 hc with rfl | hc; exact hx; exact h c hc⟩
theorem lib_cut (l : List UInt8) : Lib.cut l [47] = ((cutAt 47 l).1, (cutAt 47 l).2.1, (cutAt 47 l).2.2) := by
  rcases split47 l with h | ⟨a, b, rfl, h⟩
  · rw [lcut_no h, cutAt_none 47 l (fun y hy => by rw [beq_eq_false_iff_ne]; exact h y hy)]
  · rw [lcut_at h, cutAt_app 47 b a (fun y hy => by rw [beq_eq_false_iff_ne]; exact h y hy)]
theorem lib_neg (l : List UInt8) : Lib.hasPrefix l [45] = fneg l ∧ Lib.trimPrefix l [45] = fdig l := by
  cases l with
  | nil => exact ⟨rfl, rfl⟩
  | cons c r =>
    by_cases h : c = 45
    · subst h
      have h2 : Lib.hasPrefix ((45 : UInt8) :: r) [45] = true := by simp [Lib.hasPrefix, List.isPrefixOf]
      exact ⟨by rw [h2]; rfl, by unfold Lib.trimPrefix; rw [h2]; rfl⟩
    · have h1 : ((45 : UInt8) == c) = false := by rw [beq_eq_false_iff_ne]; exact fun e => h e.symm
      have h2 : Lib.hasPrefix (c :: r) [45] = false := by simp [Lib.hasPrefix, List.isPrefixOf, h1]
      have h3 : fneg (c :: r) = false := by unfold fneg; simp [h]
      exact ⟨by rw [h2, h3], by unfold Lib.trimPrefix fdig; rw [h2, h3]; rfl⟩
theorem psres_any {w w' : World} {l : List UInt8} {e : Ending} (h : PsRes w l e w') : ∃ (a : Option Addr) (n c : Nat) (er : Int), e = .returned (.tuple #[.slice a n c, .int .i64 er]) ∧ (¬ txt l → er = 2) ∧ Gr w w' := by
  by_cases ht : txt l
  · obtain ⟨a, n, c, er, he, -, hg⟩ := psres_txt ht h
    exact ⟨a, n, c, er, he, fun k => absurd ht k, hg⟩
  · unfold PsRes at h
    rw [if_pos ht] at h
    exact ⟨none, 0, 0, 2, h.1, fun _ => rfl, h.2⟩
theorem bd_yes {l : List UInt8} (h : fform l) (hg : (nval (ftop l)).gcd (nval (fbot l)) = 1) (hb : Bd 64 (rat (fneg l) (nval (ftop l)) (nval (fbot l)))) : (decide ((nd (nval (ftop l))).length ≤ 64) && decide ((nd (nval (fbot l))).length ≤ 64)) = true := by
  unfold Bd at hb
  rw [rat_num_abs (bot_pos h), rat_den (bot_pos h), hg, Nat.div_one, Nat.div_one] at hb
  rw [decide_eq_true hb.1, decide_eq_true hb.2]; rfl
theorem bd_no {l : List UInt8} (h : fform l) (hg : (nval (ftop l)).gcd (nval (fbot l)) = 1) (hb : ¬ Bd 64 (rat (fneg l) (nval (ftop l)) (nval (fbot l)))) : (decide ((nd (nval (ftop l))).length ≤ 64) && decide ((nd (nval (fbot l))).length ≤ 64)) = false := by
  unfold Bd at hb
  rw [rat_num_abs (bot_pos h), rat_den (bot_pos h), hg, Nat.div_one, Nat.div_one] at hb
  rw [Bool.eq_false_iff]
  intro k
  rw [Bool.and_eq_true] at k
  exact hb ⟨of_decide_eq_true k.1, of_decide_eq_true k.2⟩
set_option maxHeartbeats 1000000 in
theorem fparse_any (l : List UInt8) (w : World) (hl : l.length ≤ 100000) (hm : ∃ m : Int, w.cell? ⟨0, 0, none⟩ = some (.int .i64 m)) :
    Calls Tryz.prog 32 #[.string (str l)] w (FpRes w l) := by
  have hR0 := C3.new w (.bool false) (.slice none 0 0) (.slice none 0 0) 26 w.heap.size rfl
  have hG0 : Gr w (w.alloc (.cells #[.bool false, .slice none 0 0, .slice none 0 0] 26)) := Gr.alloc (Gr.refl _) _
  have HM : Hid (∃ m : Int, (w.alloc (.cells #[.bool false, .slice none 0 0, .slice none 0 0] 26)).cell? ⟨0, 0, none⟩ = some (.int .i64 m)) := Lib.hid (by
    obtain ⟨m, hm⟩ := hm
    exact ⟨m, by rw [World.cell?_alloc_lt _ _ _ (World.block_lt_of_cell? _ _ hm)]; exact hm⟩)
  have HT1 := Lib.hid (lib_neg l).2
  have HT2 := Lib.hid (lib_neg l).1
  have hdl : (fdig l).length ≤ l.length := by unfold fdig; split <;> simp
  have HLEN : Hid ((fdig l).length ≤ 1000000) := Lib.hid (by omega)
  have hcut := lib_cut (fdig l)
  clear hm hdl
  by_cases h0 : l = [45, 48]
  · have d0 := str_eq h0
    have HB : Hid (¬ fform l) := Lib.hid fun h => by subst h0; exact h.2.2.2 ⟨rfl, rfl, rfl⟩
    have HCUT := Lib.hid hcut
    clear hcut h0
    cases hs : fslash l <;> (unfold fslash at hs; rw [hs] at HCUT)
    · clear hs
      go_enter Tryz.func32, Tryz.ntmps32
      go_wp2_with fail
      generalize w.alloc (.cells #[.bool false, .slice none 0 0, .slice none 0 0] 26) = W0 at *
      refine (cutp_any W0 HT1.out HT2.out).mono ?_
      rintro e w' ⟨rfl, rfl⟩
      go_wp2_with fail
      refine (cut_any W0 HLEN.out HM.out HCUT.out).mono ?_
      rintro e w1 ⟨rfl, hg⟩
      have hR := hR0.gr hg
      have hG := hG0.step hg
      clear hR0 hG0 hg HM HCUT HT1 HT2
      have hfl := (hR.fill false none none 0 0 0 0).1
      obtain ⟨sc0, sc1, sc2, -, -, -, -, -⟩ := id hfl
      have HG2 := Lib.hid (C3.three hG (q := w.heap.size) (Nat.le_refl _) (.bool false) (.slice none 0 0) (.slice none 0 0))
      obtain ⟨rc0, rc1, rc2, rf0, rf1, rf2, rlt, -⟩ := id hR
      go_wp2_with fail
      refine bodyPost_ret (v := .tuple #[fzero, .int .i64 2]) (by simp [results, Tryz.results32, go_sem, sc0, sc1, sc2, fzero]) rfl ?_
      exact FpRes.form HB.out rfl HG2.out
    · clear hs
      go_enter Tryz.func32, Tryz.ntmps32
      go_wp2_with fail
      generalize w.alloc (.cells #[.bool false, .slice none 0 0, .slice none 0 0] 26) = W0 at *
      refine (cutp_any W0 HT1.out HT2.out).mono ?_
      rintro e w' ⟨rfl, rfl⟩
      go_wp2_with fail
      refine (cut_any W0 HLEN.out HM.out HCUT.out).mono ?_
      rintro e w1 ⟨rfl, hg⟩
      have hR := hR0.gr hg
      have hG := hG0.step hg
      clear hR0 hG0 hg HM HCUT HT1 HT2
      have hfl := (hR.fill false none none 0 0 0 0).1
      obtain ⟨sc0, sc1, sc2, -, -, -, -, -⟩ := id hfl
      have HG2 := Lib.hid (C3.three hG (q := w.heap.size) (Nat.le_refl _) (.bool false) (.slice none 0 0) (.slice none 0 0))
      obtain ⟨rc0, rc1, rc2, rf0, rf1, rf2, rlt, -⟩ := id hR
      go_wp2_with fail
      refine bodyPost_ret (v := .tuple #[fzero, .int .i64 2]) (by simp [results, Tryz.results32, go_sem, sc0, sc1, sc2, fzero]) rfl ?_
      exact FpRes.form HB.out rfl HG2.out
  · have d0 := str_ne h0
    cases hs : fslash l with
    | false =>
      have hs2 := hs
      unfold fslash at hs2
      rw [hs2] at hcut
      have HCUT : Hid (Lib.cut (fdig l) [47] = (ftop l, (cutAt 47 (fdig l)).2.1, false)) := Lib.hid hcut
      have hfb : fbot l = [49] := by unfold fbot; rw [hs]; rfl
      have HFB := Lib.hid (show (⟨#[49]⟩ : ByteArray) = str (fbot l) by rw [hfb]; rfl)
      have H04 : Hid (¬ (fneg l = true ∧ ftop l = [48] ∧ fslash l = false)) := Lib.hid (fun ⟨k1, k2, k3⟩ => h0 (by
        have e1 : fdig l = [48] := by
          have := cut_no hs2
          rw [← this]; exact k2
        cases l with
        | nil => cases k1
        | cons c r =>
          have hc : c = 45 := by unfold fneg at k1; simpa using k1
          unfold fdig at e1
          rw [k1, if_pos rfl] at e1
          rw [hc]
          show 45 :: r = 45 :: [48]
          rw [show r = [48] from e1]))
      have H03 : Hid (fslash l = true → fbot l ≠ [48] ∧ fbot l ≠ [49]) := Lib.hid (fun k => by rw [hs] at k; cases k)
      clear hcut hs2 hfb hs h0
      go_enter Tryz.func32, Tryz.ntmps32
      go_wp2_with fail
      generalize w.alloc (.cells #[.bool false, .slice none 0 0, .slice none 0 0] 26) = W0 at *
      refine (cutp_any W0 HT1.out HT2.out).mono ?_
      rintro e w' ⟨rfl, rfl⟩
      go_wp2_with fail
      refine (cut_any W0 HLEN.out HM.out HCUT.out).mono ?_
      rintro e w1 ⟨rfl, hg⟩
      have hR := hR0.gr hg
      have hG := hG0.step hg
      clear hR0 hG0 hg HM HCUT HT1 HT2
      go_wp2_with fail
      refine (parse_any (ftop l) _ (by have := (part_le l).1; omega)).mono ?_
      intro e w2 h
      obtain ⟨a1, m1, k1, e1, rfl, hbad1, hg⟩ := psres_any h
      have H1 := Lib.hid h
      have hR := hR.gr hg
      have hG := hG.step hg
      clear hg
      clear h
      go_wp2_with fail
      rw [HFB.out]
      refine (parse_any (fbot l) _ (by have := (part_le l).2; omega)).mono ?_
      intro e w3 h
      by_cases ht : txt (ftop l)
      · have HT := Lib.hid ht
        obtain ⟨b1, p1, r1, f1, hh, hv1, -⟩ := psres_txt ht H1.out
        cases hh
        clear ht hbad1 H1
        by_cases hb : txt (fbot l)
        · have HTB := Lib.hid hb
          have HFF : Hid (fform l) := Lib.hid ⟨HT.out, HTB.out, H03.out, H04.out⟩
          obtain ⟨a2, m2, k2, e2, rfl, hv2, hg⟩ := psres_txt hb h
          have HV1 := Lib.hid (hv1.imp (fun q => (⟨q.1, q.2.1, q.2.2.gr hg⟩ : _ ∧ _ ∧ Num w3 _ _)) id)
          have hR := hR.gr hg
          have hG := hG.step hg
          clear hg
          clear h hb hv1
          rcases HV1.out with ⟨q1, rfl, hn1⟩ | ⟨q1, rfl, -⟩
          · rcases hv2 with ⟨q2, rfl, hn2⟩ | ⟨q2, rfl, -⟩
            · clear HV1
              have HN1 := Lib.hid hn1
              have HN2 := Lib.hid hn2
              have HNK : Hid (nok (ftop l) ∧ nok (fbot l)) := Lib.hid ⟨q1, q2⟩
              clear hn1 hn2 q1 q2
              go_wp2_with fail
              have hk1 := HNK.out.1.2
              have hk2 := HNK.out.2.2
              refine (gcd_any _ _ _ HN1.out HN2.out (by omega) (by omega)).mono ?_
              rintro e w4 ⟨vg, rfl, hvg, hg⟩
              have HVG := Lib.hid hvg
              have HN1 := Lib.hid (HN1.out.gr hg)
              have HN2 := Lib.hid (HN2.out.gr hg)
              have hk3 := nd_le_len'' hk2 (Nat.gcd_le_right (nval (ftop l)) (bot_pos HFF.out))
              clear hvg
              have hR := hR.gr hg
              have hG := hG.step hg
              clear hg
              go_wp2_with fail
              by_cases hgc : (nval (ftop l)).gcd (nval (fbot l)) = 1
              · refine (isOne_eq _ _ HVG.out hgc).mono ?_
                rintro e w5 ⟨rfl, hg⟩
                have HGC := Lib.hid hgc
                clear hgc
                have hg6 : Gr w4 (w5.alloc (.cells #[.bool (fneg l), .slice a1 m1 k1, .slice a2 m2 k2] 26)) := hg.alloc _
                have hR := hR.gr hg6
                have hG := hG.step hg6
                have HN1 := Lib.hid (HN1.out.gr hg6)
                have HN2 := Lib.hid (HN2.out.gr hg6)
                have hF := C3.new w5 (.bool (fneg l)) (.slice a1 m1 k1) (.slice a2 m2 k2) 26 w5.heap.size rfl
                obtain ⟨fc0, fc1, fc2, -, -, -, -, -⟩ := id hF
                clear hg hg6 HVG
                go_wp2_with fail
                generalize w5.alloc (.cells #[.bool (fneg l), .slice a1 m1 k1, .slice a2 m2 k2] 26) = w6 at *
                refine (fvalid_any (fneg l) _ _ _ _ _ HN1.out HN2.out (bot_pos HFF.out) (fun h => top_pos HFF.out HGC.out h) (by omega) (by omega) rfl rfl).mono ?_
                rintro e w7 ⟨rfl, hg⟩
                have hF := hF.gr hg
                have HN1 := Lib.hid (HN1.out.gr hg)
                have HN2 := Lib.hid (HN2.out.gr hg)
                have hR := hR.gr hg
                have hG := hG.step hg
                clear hg
                clear fc0 fc1 fc2
                obtain ⟨fc0, fc1, fc2, -, -, -, -, -⟩ := id hF
                by_cases hb : Bd 64 (rat (fneg l) (nval (ftop l)) (nval (fbot l)))
                · rw [bd_yes HFF.out HGC.out hb]
                  have HBD := Lib.hid hb
                  have hred := red_full HFF.out HGC.out HN1.out HN2.out
                  have hfl := hR.fill (fneg l) a1 a2 m1 m2 k1 k2
                  have HRED : Hid (Red (((w7.setCell ⟨w.heap.size, 0, none⟩ (.bool (fneg l))).setCell ⟨w.heap.size, 1, none⟩ (.slice a1 m1 k1)).setCell ⟨w.heap.size, 2, none⟩ (.slice a2 m2 k2)) (.agg #[.bool (fneg l), .slice a1 m1 k1, .slice a2 m2 k2]) (rat (fneg l) (nval (ftop l)) (nval (fbot l)))) := Lib.hid (by
                    obtain ⟨un, ud, e', h1, h2⟩ := hred
                    exact ⟨un, ud, e', hfl.2 h1, hfl.2 h2⟩)
                  obtain ⟨sc0, sc1, sc2, -, -, -, -, -⟩ := hfl.1
                  have HG2 := Lib.hid (C3.three hG (q := w.heap.size) (Nat.le_refl _) (.bool (fneg l)) (.slice a1 m1 k1) (.slice a2 m2 k2))
                  obtain ⟨rc0, rc1, rc2, rf0, rf1, rf2, rlt, -⟩ := id hR
                  clear hb hred hfl
                  go_wp2_with fail
                  refine bodyPost_ret (v := .tuple #[.agg #[.bool (fneg l), .slice a1 m1 k1, .slice a2 m2 k2], .int .i64 0]) (by simp [results, Tryz.results32, go_sem, sc0, sc1, sc2]) rfl ?_
                  exact FpRes.full HFF.out HNK.out HGC.out ⟨_, _, rfl, .inl ⟨HBD.out, rfl, HRED.out⟩, HG2.out⟩
                · rw [bd_no HFF.out HGC.out hb]
                  have HBD := Lib.hid hb
                  clear hb
                  have hfl := (hR.fill false none none 0 0 0 0).1
                  obtain ⟨sc0, sc1, sc2, -, -, -, -, -⟩ := id hfl
                  have HG2 := Lib.hid (C3.three hG (q := w.heap.size) (Nat.le_refl _) (.bool false) (.slice none 0 0) (.slice none 0 0))
                  obtain ⟨rc0, rc1, rc2, rf0, rf1, rf2, rlt, -⟩ := id hR
                  go_wp2_with fail
                  refine bodyPost_ret (v := .tuple #[fzero, .int .i64 5]) (by simp [results, Tryz.results32, go_sem, sc0, sc1, sc2, fzero]) rfl ?_
                  exact FpRes.full HFF.out HNK.out HGC.out ⟨_, _, rfl, .inr ⟨HBD.out, rfl, rfl⟩, HG2.out⟩
              · refine (isOne_no _ _ HVG.out (by omega) hgc).mono ?_
                rintro e w5 ⟨rfl, hg⟩
                have HGC := Lib.hid hgc
                clear hgc HVG HN1 HN2
                have hR := hR.gr hg
                have hG := hG.step hg
                clear hg
                have hfl := (hR.fill false none none 0 0 0 0).1
                obtain ⟨sc0, sc1, sc2, -, -, -, -, -⟩ := id hfl
                have HG2 := Lib.hid (C3.three hG (q := w.heap.size) (Nat.le_refl _) (.bool false) (.slice none 0 0) (.slice none 0 0))
                obtain ⟨rc0, rc1, rc2, rf0, rf1, rf2, rlt, -⟩ := id hR
                go_wp2_with fail
                refine bodyPost_ret (v := .tuple #[fzero, .int .i64 2]) (by simp [results, Tryz.results32, go_sem, sc0, sc1, sc2, fzero]) rfl ?_
                exact FpRes.low HFF.out HNK.out HGC.out rfl HG2.out
            · have HB : Hid (¬ (nok (ftop l) ∧ nok (fbot l))) := Lib.hid fun h => q2 h.2
              clear q1 q2 hn1 HV1
              have hfl := (hR.fill false none none 0 0 0 0).1
              obtain ⟨sc0, sc1, sc2, -, -, -, -, -⟩ := id hfl
              have HG2 := Lib.hid (C3.three hG (q := w.heap.size) (Nat.le_refl _) (.bool false) (.slice none 0 0) (.slice none 0 0))
              obtain ⟨rc0, rc1, rc2, rf0, rf1, rf2, rlt, -⟩ := id hR
              go_wp2_with fail
              refine bodyPost_ret (v := .tuple #[fzero, .int .i64 5]) (by simp [results, Tryz.results32, go_sem, sc0, sc1, sc2, fzero]) rfl ?_
              exact FpRes.limit HFF.out HB.out rfl HG2.out
          · have HB : Hid (¬ (nok (ftop l) ∧ nok (fbot l))) := Lib.hid fun h => q1 h.1
            rcases hv2 with ⟨q2, rfl, -⟩ | ⟨q2, rfl, -⟩
            · clear q1 q2 HV1
              have hfl := (hR.fill false none none 0 0 0 0).1
              obtain ⟨sc0, sc1, sc2, -, -, -, -, -⟩ := id hfl
              have HG2 := Lib.hid (C3.three hG (q := w.heap.size) (Nat.le_refl _) (.bool false) (.slice none 0 0) (.slice none 0 0))
              obtain ⟨rc0, rc1, rc2, rf0, rf1, rf2, rlt, -⟩ := id hR
              go_wp2_with fail
              refine bodyPost_ret (v := .tuple #[fzero, .int .i64 5]) (by simp [results, Tryz.results32, go_sem, sc0, sc1, sc2, fzero]) rfl ?_
              exact FpRes.limit HFF.out HB.out rfl HG2.out
            · clear q1 q2 HV1
              have hfl := (hR.fill false none none 0 0 0 0).1
              obtain ⟨sc0, sc1, sc2, -, -, -, -, -⟩ := id hfl
              have HG2 := Lib.hid (C3.three hG (q := w.heap.size) (Nat.le_refl _) (.bool false) (.slice none 0 0) (.slice none 0 0))
              obtain ⟨rc0, rc1, rc2, rf0, rf1, rf2, rlt, -⟩ := id hR
              go_wp2_with fail
              refine bodyPost_ret (v := .tuple #[fzero, .int .i64 5]) (by simp [results, Tryz.results32, go_sem, sc0, sc1, sc2, fzero]) rfl ?_
              exact FpRes.limit HFF.out HB.out rfl HG2.out
        · obtain ⟨a2, m2, k2, e2, rfl, hbad, hg⟩ := psres_any h
          obtain rfl := hbad hb
          have HB : Hid (¬ fform l) := Lib.hid fun h => hb h.2.1
          have hR := hR.gr hg
          have hG := hG.step hg
          clear hg
          clear h hb hbad
          rcases hv1 with ⟨-, rfl, -⟩ | ⟨-, rfl, -⟩
          · skip
            have hfl := (hR.fill false none none 0 0 0 0).1
            obtain ⟨sc0, sc1, sc2, -, -, -, -, -⟩ := id hfl
            have HG2 := Lib.hid (C3.three hG (q := w.heap.size) (Nat.le_refl _) (.bool false) (.slice none 0 0) (.slice none 0 0))
            obtain ⟨rc0, rc1, rc2, rf0, rf1, rf2, rlt, -⟩ := id hR
            go_wp2_with fail
            refine bodyPost_ret (v := .tuple #[fzero, .int .i64 2]) (by simp [results, Tryz.results32, go_sem, sc0, sc1, sc2, fzero]) rfl ?_
            exact FpRes.form HB.out rfl HG2.out
          · skip
            have hfl := (hR.fill false none none 0 0 0 0).1
            obtain ⟨sc0, sc1, sc2, -, -, -, -, -⟩ := id hfl
            have HG2 := Lib.hid (C3.three hG (q := w.heap.size) (Nat.le_refl _) (.bool false) (.slice none 0 0) (.slice none 0 0))
            obtain ⟨rc0, rc1, rc2, rf0, rf1, rf2, rlt, -⟩ := id hR
            go_wp2_with fail
            refine bodyPost_ret (v := .tuple #[fzero, .int .i64 2]) (by simp [results, Tryz.results32, go_sem, sc0, sc1, sc2, fzero]) rfl ?_
            exact FpRes.form HB.out rfl HG2.out
      · obtain rfl := hbad1 ht
        obtain ⟨a2, m2, k2, e2, rfl, -, hg⟩ := psres_any h
        have HB : Hid (¬ fform l) := Lib.hid fun h => ht h.1
        have hR := hR.gr hg
        have hG := hG.step hg
        clear hg
        clear h ht hbad1 H1
        have hfl := (hR.fill false none none 0 0 0 0).1
        obtain ⟨sc0, sc1, sc2, -, -, -, -, -⟩ := id hfl
        have HG2 := Lib.hid (C3.three hG (q := w.heap.size) (Nat.le_refl _) (.bool false) (.slice none 0 0) (.slice none 0 0))
        obtain ⟨rc0, rc1, rc2, rf0, rf1, rf2, rlt, -⟩ := id hR
        go_wp2_with fail
        refine bodyPost_ret (v := .tuple #[fzero, .int .i64 2]) (by simp [results, Tryz.results32, go_sem, sc0, sc1, sc2, fzero]) rfl ?_
        exact FpRes.form HB.out rfl HG2.out
    | true =>
      have hs2 := hs
      unfold fslash at hs2
      rw [hs2] at hcut
      have hfb : fbot l = (cutAt 47 (fdig l)).2.1 := by unfold fbot; rw [hs]; rfl
      rw [← hfb] at hcut
      have HCUT : Hid (Lib.cut (fdig l) [47] = (ftop l, fbot l, true)) := Lib.hid hcut
      clear hcut hs2 hfb
      by_cases h1 : fbot l = [48]
      · have d1 := str_eq h1
        have HB : Hid (¬ fform l) := Lib.hid fun h => (h.2.2.1 hs).1 h1
        clear h1 hs h0
        go_enter Tryz.func32, Tryz.ntmps32
        go_wp2_with fail
        generalize w.alloc (.cells #[.bool false, .slice none 0 0, .slice none 0 0] 26) = W0 at *
        refine (cutp_any W0 HT1.out HT2.out).mono ?_
        rintro e w' ⟨rfl, rfl⟩
        go_wp2_with fail
        refine (cut_any W0 HLEN.out HM.out HCUT.out).mono ?_
        rintro e w1 ⟨rfl, hg⟩
        have hR := hR0.gr hg
        have hG := hG0.step hg
        clear hR0 hG0 hg HM HCUT HT1 HT2
        have hfl := (hR.fill false none none 0 0 0 0).1
        obtain ⟨sc0, sc1, sc2, -, -, -, -, -⟩ := id hfl
        have HG2 := Lib.hid (C3.three hG (q := w.heap.size) (Nat.le_refl _) (.bool false) (.slice none 0 0) (.slice none 0 0))
        obtain ⟨rc0, rc1, rc2, rf0, rf1, rf2, rlt, -⟩ := id hR
        go_wp2_with fail
        refine bodyPost_ret (v := .tuple #[fzero, .int .i64 2]) (by simp [results, Tryz.results32, go_sem, sc0, sc1, sc2, fzero]) rfl ?_
        exact FpRes.form HB.out rfl HG2.out
      · have d1 := str_ne h1
        by_cases h2 : fbot l = [49]
        · have d2 := str_eq h2
          have HB : Hid (¬ fform l) := Lib.hid fun h => (h.2.2.1 hs).2 h2
          clear h1 h2 hs h0
          go_enter Tryz.func32, Tryz.ntmps32
          go_wp2_with fail
          generalize w.alloc (.cells #[.bool false, .slice none 0 0, .slice none 0 0] 26) = W0 at *
          refine (cutp_any W0 HT1.out HT2.out).mono ?_
          rintro e w' ⟨rfl, rfl⟩
          go_wp2_with fail
          refine (cut_any W0 HLEN.out HM.out HCUT.out).mono ?_
          rintro e w1 ⟨rfl, hg⟩
          have hR := hR0.gr hg
          have hG := hG0.step hg
          clear hR0 hG0 hg HM HCUT HT1 HT2
          have hfl := (hR.fill false none none 0 0 0 0).1
          obtain ⟨sc0, sc1, sc2, -, -, -, -, -⟩ := id hfl
          have HG2 := Lib.hid (C3.three hG (q := w.heap.size) (Nat.le_refl _) (.bool false) (.slice none 0 0) (.slice none 0 0))
          obtain ⟨rc0, rc1, rc2, rf0, rf1, rf2, rlt, -⟩ := id hR
          go_wp2_with fail
          refine bodyPost_ret (v := .tuple #[fzero, .int .i64 2]) (by simp [results, Tryz.results32, go_sem, sc0, sc1, sc2, fzero]) rfl ?_
          exact FpRes.form HB.out rfl HG2.out
        · have d2 := str_ne h2
          have H03 : Hid (fslash l = true → fbot l ≠ [48] ∧ fbot l ≠ [49]) := Lib.hid (fun _ => ⟨h1, h2⟩)
          have H04 : Hid (¬ (fneg l = true ∧ ftop l = [48] ∧ fslash l = false)) := Lib.hid (fun k => by rw [hs] at k; cases k.2.2)
          clear h1 h2 hs h0
          go_enter Tryz.func32, Tryz.ntmps32
          go_wp2_with fail
          generalize w.alloc (.cells #[.bool false, .slice none 0 0, .slice none 0 0] 26) = W0 at *
          refine (cutp_any W0 HT1.out HT2.out).mono ?_
          rintro e w' ⟨rfl, rfl⟩
          go_wp2_with fail
          refine (cut_any W0 HLEN.out HM.out HCUT.out).mono ?_
          rintro e w1 ⟨rfl, hg⟩
          have hR := hR0.gr hg
          have hG := hG0.step hg
          clear hR0 hG0 hg HM HCUT HT1 HT2
          go_wp2_with fail
          refine (parse_any (ftop l) _ (by have := (part_le l).1; omega)).mono ?_
          intro e w2 h
          obtain ⟨a1, m1, k1, e1, rfl, hbad1, hg⟩ := psres_any h
          have H1 := Lib.hid h
          have hR := hR.gr hg
          have hG := hG.step hg
          clear hg
          clear h
          go_wp2_with fail
          skip
          refine (parse_any (fbot l) _ (by have := (part_le l).2; omega)).mono ?_
          intro e w3 h
          by_cases ht : txt (ftop l)
          · have HT := Lib.hid ht
            obtain ⟨b1, p1, r1, f1, hh, hv1, -⟩ := psres_txt ht H1.out
            cases hh
            clear ht hbad1 H1
            by_cases hb : txt (fbot l)
            · have HTB := Lib.hid hb
              have HFF : Hid (fform l) := Lib.hid ⟨HT.out, HTB.out, H03.out, H04.out⟩
              obtain ⟨a2, m2, k2, e2, rfl, hv2, hg⟩ := psres_txt hb h
              have HV1 := Lib.hid (hv1.imp (fun q => (⟨q.1, q.2.1, q.2.2.gr hg⟩ : _ ∧ _ ∧ Num w3 _ _)) id)
              have hR := hR.gr hg
              have hG := hG.step hg
              clear hg
              clear h hb hv1
              rcases HV1.out with ⟨q1, rfl, hn1⟩ | ⟨q1, rfl, -⟩
              · rcases hv2 with ⟨q2, rfl, hn2⟩ | ⟨q2, rfl, -⟩
                · clear HV1
                  have HN1 := Lib.hid hn1
                  have HN2 := Lib.hid hn2
                  have HNK : Hid (nok (ftop l) ∧ nok (fbot l)) := Lib.hid ⟨q1, q2⟩
                  clear hn1 hn2 q1 q2
                  go_wp2_with fail
                  have hk1 := HNK.out.1.2
                  have hk2 := HNK.out.2.2
                  refine (gcd_any _ _ _ HN1.out HN2.out (by omega) (by omega)).mono ?_
                  rintro e w4 ⟨vg, rfl, hvg, hg⟩
                  have HVG := Lib.hid hvg
                  have HN1 := Lib.hid (HN1.out.gr hg)
                  have HN2 := Lib.hid (HN2.out.gr hg)
                  have hk3 := nd_le_len'' hk2 (Nat.gcd_le_right (nval (ftop l)) (bot_pos HFF.out))
                  clear hvg
                  have hR := hR.gr hg
                  have hG := hG.step hg
                  clear hg
                  go_wp2_with fail
                  by_cases hgc : (nval (ftop l)).gcd (nval (fbot l)) = 1
                  · refine (isOne_eq _ _ HVG.out hgc).mono ?_
                    rintro e w5 ⟨rfl, hg⟩
                    have HGC := Lib.hid hgc
                    clear hgc
                    have hg6 : Gr w4 (w5.alloc (.cells #[.bool (fneg l), .slice a1 m1 k1, .slice a2 m2 k2] 26)) := hg.alloc _
                    have hR := hR.gr hg6
                    have hG := hG.step hg6
                    have HN1 := Lib.hid (HN1.out.gr hg6)
                    have HN2 := Lib.hid (HN2.out.gr hg6)
                    have hF := C3.new w5 (.bool (fneg l)) (.slice a1 m1 k1) (.slice a2 m2 k2) 26 w5.heap.size rfl
                    obtain ⟨fc0, fc1, fc2, -, -, -, -, -⟩ := id hF
                    clear hg hg6 HVG
                    go_wp2_with fail
                    generalize w5.alloc (.cells #[.bool (fneg l), .slice a1 m1 k1, .slice a2 m2 k2] 26) = w6 at *
                    refine (fvalid_any (fneg l) _ _ _ _ _ HN1.out HN2.out (bot_pos HFF.out) (fun h => top_pos HFF.out HGC.out h) (by omega) (by omega) rfl rfl).mono ?_
                    rintro e w7 ⟨rfl, hg⟩
                    have hF := hF.gr hg
                    have HN1 := Lib.hid (HN1.out.gr hg)
                    have HN2 := Lib.hid (HN2.out.gr hg)
                    have hR := hR.gr hg
                    have hG := hG.step hg
                    clear hg
                    clear fc0 fc1 fc2
                    obtain ⟨fc0, fc1, fc2, -, -, -, -, -⟩ := id hF
                    by_cases hb : Bd 64 (rat (fneg l) (nval (ftop l)) (nval (fbot l)))
                    · rw [bd_yes HFF.out HGC.out hb]
                      have HBD := Lib.hid hb
                      have hred := red_full HFF.out HGC.out HN1.out HN2.out
                      have hfl := hR.fill (fneg l) a1 a2 m1 m2 k1 k2
                      have HRED : Hid (Red (((w7.setCell ⟨w.heap.size, 0, none⟩ (.bool (fneg l))).setCell ⟨w.heap.size, 1, none⟩ (.slice a1 m1 k1)).setCell ⟨w.heap.size, 2, none⟩ (.slice a2 m2 k2)) (.agg #[.bool (fneg l), .slice a1 m1 k1, .slice a2 m2 k2]) (rat (fneg l) (nval (ftop l)) (nval (fbot l)))) := Lib.hid (by
                        obtain ⟨un, ud, e', h1, h2⟩ := hred
                        exact ⟨un, ud, e', hfl.2 h1, hfl.2 h2⟩)
                      obtain ⟨sc0, sc1, sc2, -, -, -, -, -⟩ := hfl.1
                      have HG2 := Lib.hid (C3.three hG (q := w.heap.size) (Nat.le_refl _) (.bool (fneg l)) (.slice a1 m1 k1) (.slice a2 m2 k2))
                      obtain ⟨rc0, rc1, rc2, rf0, rf1, rf2, rlt, -⟩ := id hR
                      clear hb hred hfl
                      go_wp2_with fail
                      refine bodyPost_ret (v := .tuple #[.agg #[.bool (fneg l), .slice a1 m1 k1, .slice a2 m2 k2], .int .i64 0]) (by simp [results, Tryz.results32, go_sem, sc0, sc1, sc2]) rfl ?_
                      exact FpRes.full HFF.out HNK.out HGC.out ⟨_, _, rfl, .inl ⟨HBD.out, rfl, HRED.out⟩, HG2.out⟩
                    · rw [bd_no HFF.out HGC.out hb]
                      have HBD := Lib.hid hb
                      clear hb
                      have hfl := (hR.fill false none none 0 0 0 0).1
                      obtain ⟨sc0, sc1, sc2, -, -, -, -, -⟩ := id hfl
                      have HG2 := Lib.hid (C3.three hG (q := w.heap.size) (Nat.le_refl _) (.bool false) (.slice none 0 0) (.slice none 0 0))
                      obtain ⟨rc0, rc1, rc2, rf0, rf1, rf2, rlt, -⟩ := id hR
                      go_wp2_with fail
                      refine bodyPost_ret (v := .tuple #[fzero, .int .i64 5]) (by simp [results, Tryz.results32, go_sem, sc0, sc1, sc2, fzero]) rfl ?_
                      exact FpRes.full HFF.out HNK.out HGC.out ⟨_, _, rfl, .inr ⟨HBD.out, rfl, rfl⟩, HG2.out⟩
                  · refine (isOne_no _ _ HVG.out (by omega) hgc).mono ?_
                    rintro e w5 ⟨rfl, hg⟩
                    have HGC := Lib.hid hgc
                    clear hgc HVG HN1 HN2
                    have hR := hR.gr hg
                    have hG := hG.step hg
                    clear hg
                    have hfl := (hR.fill false none none 0 0 0 0).1
                    obtain ⟨sc0, sc1, sc2, -, -, -, -, -⟩ := id hfl
                    have HG2 := Lib.hid (C3.three hG (q := w.heap.size) (Nat.le_refl _) (.bool false) (.slice none 0 0) (.slice none 0 0))
                    obtain ⟨rc0, rc1, rc2, rf0, rf1, rf2, rlt, -⟩ := id hR
                    go_wp2_with fail
                    refine bodyPost_ret (v := .tuple #[fzero, .int .i64 2]) (by simp [results, Tryz.results32, go_sem, sc0, sc1, sc2, fzero]) rfl ?_
                    exact FpRes.low HFF.out HNK.out HGC.out rfl HG2.out
                · have HB : Hid (¬ (nok (ftop l) ∧ nok (fbot l))) := Lib.hid fun h => q2 h.2
                  clear q1 q2 hn1 HV1
                  have hfl := (hR.fill false none none 0 0 0 0).1
                  obtain ⟨sc0, sc1, sc2, -, -, -, -, -⟩ := id hfl
                  have HG2 := Lib.hid (C3.three hG (q := w.heap.size) (Nat.le_refl _) (.bool false) (.slice none 0 0) (.slice none 0 0))
                  obtain ⟨rc0, rc1, rc2, rf0, rf1, rf2, rlt, -⟩ := id hR
                  go_wp2_with fail
                  refine bodyPost_ret (v := .tuple #[fzero, .int .i64 5]) (by simp [results, Tryz.results32, go_sem, sc0, sc1, sc2, fzero]) rfl ?_
                  exact FpRes.limit HFF.out HB.out rfl HG2.out
              · have HB : Hid (¬ (nok (ftop l) ∧ nok (fbot l))) := Lib.hid fun h => q1 h.1
                rcases hv2 with ⟨q2, rfl, -⟩ | ⟨q2, rfl, -⟩
                · clear q1 q2 HV1
                  have hfl := (hR.fill false none none 0 0 0 0).1
                  obtain ⟨sc0, sc1, sc2, -, -, -, -, -⟩ := id hfl
                  have HG2 := Lib.hid (C3.three hG (q := w.heap.size) (Nat.le_refl _) (.bool false) (.slice none 0 0) (.slice none 0 0))
                  obtain ⟨rc0, rc1, rc2, rf0, rf1, rf2, rlt, -⟩ := id hR
                  go_wp2_with fail
                  refine bodyPost_ret (v := .tuple #[fzero, .int .i64 5]) (by simp [results, Tryz.results32, go_sem, sc0, sc1, sc2, fzero]) rfl ?_
                  exact FpRes.limit HFF.out HB.out rfl HG2.out
                · clear q1 q2 HV1
                  have hfl := (hR.fill false none none 0 0 0 0).1
                  obtain ⟨sc0, sc1, sc2, -, -, -, -, -⟩ := id hfl
                  have HG2 := Lib.hid (C3.three hG (q := w.heap.size) (Nat.le_refl _) (.bool false) (.slice none 0 0) (.slice none 0 0))
                  obtain ⟨rc0, rc1, rc2, rf0, rf1, rf2, rlt, -⟩ := id hR
                  go_wp2_with fail
                  refine bodyPost_ret (v := .tuple #[fzero, .int .i64 5]) (by simp [results, Tryz.results32, go_sem, sc0, sc1, sc2, fzero]) rfl ?_
                  exact FpRes.limit HFF.out HB.out rfl HG2.out
            · obtain ⟨a2, m2, k2, e2, rfl, hbad, hg⟩ := psres_any h
              obtain rfl := hbad hb
              have HB : Hid (¬ fform l) := Lib.hid fun h => hb h.2.1
              have hR := hR.gr hg
              have hG := hG.step hg
              clear hg
              clear h hb hbad
              rcases hv1 with ⟨-, rfl, -⟩ | ⟨-, rfl, -⟩
              · skip
                have hfl := (hR.fill false none none 0 0 0 0).1
                obtain ⟨sc0, sc1, sc2, -, -, -, -, -⟩ := id hfl
                have HG2 := Lib.hid (C3.three hG (q := w.heap.size) (Nat.le_refl _) (.bool false) (.slice none 0 0) (.slice none 0 0))
                obtain ⟨rc0, rc1, rc2, rf0, rf1, rf2, rlt, -⟩ := id hR
                go_wp2_with fail
                refine bodyPost_ret (v := .tuple #[fzero, .int .i64 2]) (by simp [results, Tryz.results32, go_sem, sc0, sc1, sc2, fzero]) rfl ?_
                exact FpRes.form HB.out rfl HG2.out
              · skip
                have hfl := (hR.fill false none none 0 0 0 0).1
                obtain ⟨sc0, sc1, sc2, -, -, -, -, -⟩ := id hfl
                have HG2 := Lib.hid (C3.three hG (q := w.heap.size) (Nat.le_refl _) (.bool false) (.slice none 0 0) (.slice none 0 0))
                obtain ⟨rc0, rc1, rc2, rf0, rf1, rf2, rlt, -⟩ := id hR
                go_wp2_with fail
                refine bodyPost_ret (v := .tuple #[fzero, .int .i64 2]) (by simp [results, Tryz.results32, go_sem, sc0, sc1, sc2, fzero]) rfl ?_
                exact FpRes.form HB.out rfl HG2.out
          · obtain rfl := hbad1 ht
            obtain ⟨a2, m2, k2, e2, rfl, -, hg⟩ := psres_any h
            have HB : Hid (¬ fform l) := Lib.hid fun h => ht h.1
            have hR := hR.gr hg
            have hG := hG.step hg
            clear hg
            clear h ht hbad1 H1
            have hfl := (hR.fill false none none 0 0 0 0).1
            obtain ⟨sc0, sc1, sc2, -, -, -, -, -⟩ := id hfl
            have HG2 := Lib.hid (C3.three hG (q := w.heap.size) (Nat.le_refl _) (.bool false) (.slice none 0 0) (.slice none 0 0))
            obtain ⟨rc0, rc1, rc2, rf0, rf1, rf2, rlt, -⟩ := id hR
            go_wp2_with fail
            refine bodyPost_ret (v := .tuple #[fzero, .int .i64 2]) (by simp [results, Tryz.results32, go_sem, sc0, sc1, sc2, fzero]) rfl ?_
            exact FpRes.form HB.out rfl HG2.out
end Go.Proofs.YtjpjnbgfodlkcaaGreatDoor
