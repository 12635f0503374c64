/- The document's Parse of numbers, at any string. -/
import Derived.Test.YtjpjnbgfodlkcaaGreatDoorGAR
import Derived.Test.YtjpjnbgfodlkcaaGreatDoorGAT
import Derived.Test.YtjpjnbgfodlkcaaGreatDoorGAE
import Derived.Test.YtjpjnbgfodlkcaaGreatDoorGAL
import Derived.WalkKit
import Derived.WalkSpells
import Derived.WalkLawsBesides
import Derived.WalkSmall
import Derived.Handy
import Derived.BigQuiet
import Derived.Deep.QuietTactic
import Derived.Deep.RegionHeld3
import Derived.Deep.DeepFit
import Derived.Below
import Derived.Lib.Hide
import Derived.Lib.QuietBelow
import Derived.Deep.DeepCutAuto
namespace Go.Proofs.YtjpjnbgfodlkcaaGreatDoor
open Go Go.RowKit Go.Sort
set_option maxRecDepth 100000
set_option linter.unusedVariables false
/-- two operations of which either may come first -/
theorem next_two {P : Program} {ops : Array Oper} {Q : Exit → Act → World → Prop} {md : Region.Mode} {S : World → Prop} (i j : Nat) {fuel : Nat} {listed : Array Bool} {a : Act} {w : World} {oi oj : Oper} (hi : ops[i]? = some oi) (hj : ops[j]? = some oj)
    (hr : Region.ready md ops listed = [i, j]) (hwi : Region.wanted oi (yielded ops a.tmps) = true) (hwj : Region.wanted oj (yielded ops a.tmps) = true)
    (h1 : ∀ K : Act → World → Prop, (∀ a w, S w → wpAnyH P md ops Q S fuel (listed.setIfInBounds i true) a w → K a w) → oi.wp P a w K Q)
    (h2 : ∀ K : Act → World → Prop, (∀ a w, S w → wpAnyH P md ops Q S fuel (listed.setIfInBounds j true) a w → K a w) → oj.wp P a w K Q) : wpAnyH P md ops Q S (fuel + 1) listed a w := by
  refine wpAnyH_all hr (by simp) (fun m hm => ?_)
  rcases List.mem_cons.1 hm with rfl | hm
  · unfold wpOp
    simp only [hi, hwi, if_true]
    exact .inl (h1 _ (fun a w hS hw => ⟨hS, hw⟩))
  · rw [List.mem_singleton] at hm
    subst hm
    unfold wpOp
    simp only [hj, hwj, if_true]
    exact .inl (h2 _ (fun a w hS hw => ⟨hS, hw⟩))
theorem rd_lit1 (w : World) (d : Nat) : Rd (fun _ => True) (w.alloc (.cells #[.int .i64 (d : Nat)] 3)) (.slice (some ⟨w.heap.size, 0, none⟩) 1 1) [d] := by
  refine ⟨_, 1, rfl, Nat.le_refl _, by omega, fun i hi => ⟨w.heap.size, 0, rfl, trivial, ?_⟩⟩
  obtain rfl : i = 0 := by simp at hi; omega
  simp
theorem rd_litb (w : World) (d b : Nat) (hb : w.heap.size = b) : Rd (fun _ => True) (w.alloc (.cells #[.int .i64 (d : Nat)] 3)) (.slice (some ⟨b, 0, none⟩) 1 1) [d] := by
  subst hb; exact rd_lit1 w d
theorem num_litb (w : World) (b : Nat) {x : Nat} (h0 : 0 < x) (h1 : x < 1073741824) (hb : w.heap.size = b) : Num (w.alloc (.cells #[.int .i64 (x : Nat)] 3)) (.slice (some ⟨b, 0, none⟩) 1 1) x := by
  subst hb; exact num_lit1 w h0 h1
theorem nval_snoc (l : List UInt8) (c : UInt8) : nval (l ++ [c]) = nval l * 10 + (c.toNat - 48) := by simp [nval]
theorem nval_take {s : ByteArray} {t : Nat} (h : t < s.size) : nval (s.data.toList.take (t + 1)) = nval (s.data.toList.take t) * 10 + (s[t].toNat - 48) := by
  have hsz := Lib.size_eq s
  rw [List.take_succ_eq_append_getElem (by omega), nval_snoc]; rfl
theorem ten_len {l : List UInt8} (h : digs l) {n : Nat} (hn : l.length ≤ n) : (nd (nval l)).length ≤ n := by
  rw [nd_len]
  exact Nat.lt_of_lt_of_le (nval_lt h) (Nat.le_trans (Nat.pow_le_pow_right (by omega) hn) (Nat.pow_le_pow_left (by omega) n))
set_option maxHeartbeats 4000000 in
theorem rparse_ok (s : ByteArray) (w : World) (hs : s.size ≤ 2400) (ht : txt s.data.toList) :
    Calls Tryz.prog 67 #[.string s] w (Res w (nval s.data.toList)) := by
  have hD := Lib.hid (fun w => rdigits_any s w (by omega))
  rw [decide_eq_true ht] at hD
  have hdg := ht.1
  have hsz := Lib.size_eq s
  have HDG := Lib.hid (show ∀ j (hj : j < s.size), 48 ≤ s[j].toNat ∧ s[j].toNat ≤ 57 from fun j hj => by
    have e : s.data.toList[j]'(by omega) = s[j] := rfl
    rw [← e]; exact hdg _ (List.getElem_mem _))
  have HTL := Lib.hid (show ∀ t, t ≤ s.size → (nd (nval (s.data.toList.take t))).length ≤ 2400 from fun t h => ten_len (fun c hc => hdg c (List.mem_of_mem_take hc)) (by rw [List.length_take]; omega))
  have d1 : decide ((2400 : Int) < (s.size : Int)) = false := by rw [decide_eq_false_iff_not]; omega
  have HLEN := Lib.hid hsz
  clear ht hdg hsz
  go_enter Tryz.func67, Tryz.ntmps67
  go_wp2_with fail
  refine (hD.out _).mono ?_
  rintro e w1 ⟨rfl, rfl⟩
  clear hD
  go_wp2_with fail
  go_loopw [4, 5] (fun v i wr => ∃ t : Nat, i = .int .i64 t ∧ t ≤ s.size ∧ Num wr v (nval (s.data.toList.take t)) ∧ Gr w wr) (fun _ i _ => s.size - (intOf i).toNat)
  case atStart => exact ⟨0, rfl, Nat.zero_le _, Num.nil _, Gr.refl _⟩
  case round =>
    obtain ⟨t, rfl, hts, hn, hg⟩ := hrel
    have HN := Lib.hid hn
    have HGR := Lib.hid hg
    by_cases hlt : t < s.size
    · obtain ⟨h48, h57⟩ := HDG.out t hlt
      have HST := Lib.hid (nval_take hlt)
      have HLT := Lib.hid (show (nd (nval (s.data.toList.take t) * 10)).length ≤ 5000 by
        have h1 := HTL.out t hts
        have h2 : (nd 10).length ≤ 1 := by rw [nd_one (by omega) (by omega)]; simp
        have := nd_mul' h1 h2
        omega)
      have HLM := Lib.hid (HTL.out t hts)
      have hD2 := Lib.hid (fun W (g : Gr wr W) (b : Nat) (h : Num W (.slice (some ⟨b, 0, none⟩) 1 1) 10) => times_any _ _ _ (HN.out.gr g) h (by have := HLM.out; omega) (by rw [nd_one (by omega) (by omega)]; simp))
      obtain ⟨av, cv, rfl⟩ := num_slice hn
      have u0 : 48 ≤ (s[t].toNat : Int) := by omega
      have u1 : (s[t].toNat : Int) ≤ 57 := by omega
      obtain ⟨d, hd⟩ : ∃ d, d = s[t].toNat - 48 := ⟨_, rfl⟩
      rw [← hd] at HST
      have HLD := Lib.hid (show Lim [d] from lim_cons.2 ⟨by omega, lim_nil⟩)
      have e0 : (s[t].toNat : Int) - 48 = (d : Int) := by omega
      have d2 : (t : Int) < (s.size : Int) := by omega
      have d10 : (d : Int) < 10 := by omega
      clear hn hg hd h48 h57 HN
      go_wp2_with fail
      have hS : Gr wr wr.drew := Gr.drew (Gr.refl _)
      refine region_plain (Gr wr) (by kernel_rfl) ?_
      refine take_at 0 (some 18) (v := ?v0) rfl rfl (by kernel_rfl) (by kernel_rfl) (by kernel_rfl) (by rfl) ?y0 hS ?t0
      case y0 =>
        intro w' hSw
        go_simp
        (try with_reducible rfl)
      simp only [Act.put, List.setIfInBounds_toArray, List.set_cons_zero, List.set_cons_succ]
      refine take_at 3 (some 21) (v := ?v3) rfl rfl (by kernel_rfl) (by kernel_rfl) (by kernel_rfl) (by rfl) ?y3 hS ?t3
      case y3 =>
        intro w' hSw
        go_simp
        (try with_reducible rfl)
      simp only [Act.put, List.setIfInBounds_toArray, List.set_cons_zero, List.set_cons_succ]
      refine take_at 4 (some 22) (v := ?v4) rfl rfl (by kernel_rfl) (by kernel_rfl) (by kernel_rfl) (by rfl) ?y4 hS ?t4
      case y4 =>
        intro w' hSw
        go_simp
        (try with_reducible rfl)
      simp only [Act.put, List.setIfInBounds_toArray, List.set_cons_zero, List.set_cons_succ]
      refine take_at 5 (some 23) (v := ?v5) rfl rfl (by kernel_rfl) (by kernel_rfl) (by kernel_rfl) (by rfl) ?y5 hS ?t5
      case y5 =>
        intro w' hSw
        go_simp
        (try with_reducible rfl)
      simp only [Act.put, List.setIfInBounds_toArray, List.set_cons_zero, List.set_cons_succ]
      refine take_at 6 (some 24) (v := ?v6) rfl rfl (by kernel_rfl) (by kernel_rfl) (by kernel_rfl) (by rfl) ?y6 hS ?t6
      case y6 =>
        intro w' hSw
        go_simp
        (try with_reducible rfl)
      simp only [Act.put, List.setIfInBounds_toArray, List.set_cons_zero, List.set_cons_succ]
      refine take_at 7 (some 25) (v := ?v7) rfl rfl (by kernel_rfl) (by kernel_rfl) (by kernel_rfl) (by rfl) ?y7 hS ?t7
      case y7 =>
        intro w' hSw
        go_simp
        (try with_reducible rfl)
      simp only [Act.put, List.setIfInBounds_toArray, List.set_cons_zero, List.set_cons_succ]
      rw [show IntKind.u8.wrap (d : Int) = (d : Int) from IntWalk.u8_in _ (by omega), show IntKind.i64.wrap (d : Int) = (d : Int) from IntWalk.i64_in _ (by omega)]
      have HTEN := Lib.hid (num_litb wr.drew wr.heap.size (x := 10) (by omega) (by omega) rfl)
      have HVD0 := Lib.hid (rd_litb wr.drew d wr.heap.size rfl)
      refine next_two 1 8 rfl rfl (by kernel_rfl) (by rfl) (by rfl) (fun K hK => ?_) (fun K hK => ?_)
      · go_simp
        replace hS := Gr.alloc hS (.cells #[.int .i64 10] 3)
        refine hK _ _ hS ?_
        clear hK K
        have HTM := Lib.hid (hD2.out _ hS wr.heap.size HTEN.out)
        have HVD1 := Lib.hid (rd_litb (wr.drew.alloc (.cells #[.int .i64 10] 3)) d (wr.heap.size + 1) (by simp))
        have HTM2 := Lib.hid (hD2.out _ (hS.alloc (.cells #[.int .i64 (d : Nat)] 3)) wr.heap.size (HTEN.out.gr (Gr.alloc (Gr.refl _) _)))
        refine next_two 2 8 rfl rfl (by kernel_rfl) (by rfl) (by rfl) (fun K hK => ?_) (fun K hK => ?_)
        · go_simp
          refine (HTM.out.mono ?_)
          rintro e w2 ⟨vt, rfl, hvt, hg⟩
          obtain ⟨at', ct, rfl⟩ := num_slice hvt
          replace hS := Gr.step hS hg
          have HVT := Lib.hid (hvt.gr (Gr.alloc (Gr.refl _) (.cells #[.int .i64 (d : Nat)] 3)))
          have HVD := Lib.hid (rd_lit1 w2 d)
          refine hK _ _ hS ?_
          clear hK K hvt hg
          refine next_at 8 rfl (by kernel_rfl) (by rfl) (fun K hK => ?_)
          go_simp
          replace hS := Gr.alloc hS (.cells #[.int .i64 (d : Nat)] 3)
          refine hK _ _ hS ?_
          clear hK K
          refine next_at 9 rfl (by kernel_rfl) (by rfl) (fun K hK => ?_)
          go_simp
          refine ((plus_lim _ _ _ HVT.out HVD.out (lim_nd _) HLD.out (by have := HLT.out; omega) (by simp)).mono ?_)
          rintro e wp ⟨vp, lp, rfl, hvp, hlp, hnv, hg⟩
          replace hS := Gr.step hS hg
          obtain ⟨ap, cpp, evp, hlcp, hmp, hcp⟩ := id hvp
          subst evp
          rw [nv_nd] at hnv
          have HVP := Lib.hid hvp
          have HNV := Lib.hid hnv
          have HLP := Lib.hid hlp
          refine hK _ _ hS ?_
          clear hK K hg hvp hlp hnv hcp hlcp hmp HVT HVD
          refine next_at 10 rfl (by kernel_rfl) (by rfl) (fun K hK => ?_)
          go_simp
          refine ((rtrim_any _ HVP.out HLP.out).mono ?_)
          rintro e wq ⟨vq, rfl, hvq, rfl⟩
          have HVQ := Lib.hid (show Num wp vq (nval (s.data.toList.take (t + 1))) by
            have := hvq.any
            rw [HNV.out] at this
            rw [HST.out]
            have e : nv [d] = d := by simp [nv]
            rw [e] at this
            exact this)
          refine hK _ _ hS ?_
          clear hK K hvq HVP HNV HLP
          refine next_at 11 rfl (by kernel_rfl) (by rfl) (fun K hK => ?_)
          go_simp
          refine hK _ _ hS ?_
          clear hK K
          refine wpAnyH_done (by kernel_rfl) ?_ _
          refine qz_normal ?_
          go_wp2_with fail
          exact ⟨⟨t + 1, by go_num, by omega, HVQ.out, HGR.out.step hS⟩, by simp only [intOf]; omega⟩
        · go_simp
          replace hS := Gr.alloc hS (.cells #[.int .i64 (d : Nat)] 3)
          refine hK _ _ hS ?_
          clear hK K
          refine next_at 2 rfl (by kernel_rfl) (by rfl) (fun K hK => ?_)
          go_simp
          refine (HTM2.out.mono ?_)
          rintro e w2 ⟨vt, rfl, hvt, hg⟩
          obtain ⟨at', ct, rfl⟩ := num_slice hvt
          replace hS := Gr.step hS hg
          have HVT := Lib.hid hvt
          have HVD := Lib.hid (HVD1.out.gr hg)
          refine hK _ _ hS ?_
          clear hK K hvt hg
          refine next_at 9 rfl (by kernel_rfl) (by rfl) (fun K hK => ?_)
          go_simp
          refine ((plus_lim _ _ _ HVT.out HVD.out (lim_nd _) HLD.out (by have := HLT.out; omega) (by simp)).mono ?_)
          rintro e wp ⟨vp, lp, rfl, hvp, hlp, hnv, hg⟩
          replace hS := Gr.step hS hg
          obtain ⟨ap, cpp, evp, hlcp, hmp, hcp⟩ := id hvp
          subst evp
          rw [nv_nd] at hnv
          have HVP := Lib.hid hvp
          have HNV := Lib.hid hnv
          have HLP := Lib.hid hlp
          refine hK _ _ hS ?_
          clear hK K hg hvp hlp hnv hcp hlcp hmp HVT HVD
          refine next_at 10 rfl (by kernel_rfl) (by rfl) (fun K hK => ?_)
          go_simp
          refine ((rtrim_any _ HVP.out HLP.out).mono ?_)
          rintro e wq ⟨vq, rfl, hvq, rfl⟩
          have HVQ := Lib.hid (show Num wp vq (nval (s.data.toList.take (t + 1))) by
            have := hvq.any
            rw [HNV.out] at this
            rw [HST.out]
            have e : nv [d] = d := by simp [nv]
            rw [e] at this
            exact this)
          refine hK _ _ hS ?_
          clear hK K hvq HVP HNV HLP
          refine next_at 11 rfl (by kernel_rfl) (by rfl) (fun K hK => ?_)
          go_simp
          refine hK _ _ hS ?_
          clear hK K
          refine wpAnyH_done (by kernel_rfl) ?_ _
          refine qz_normal ?_
          go_wp2_with fail
          exact ⟨⟨t + 1, by go_num, by omega, HVQ.out, HGR.out.step hS⟩, by simp only [intOf]; omega⟩
      · go_simp
        replace hS := Gr.alloc hS (.cells #[.int .i64 (d : Nat)] 3)
        refine hK _ _ hS ?_
        clear hK K
        have HTEN2 := Lib.hid (num_litb (wr.drew.alloc (.cells #[.int .i64 (d : Nat)] 3)) (wr.heap.size + 1) (x := 10) (by omega) (by omega) (by simp))
        refine next_at 1 rfl (by kernel_rfl) (by rfl) (fun K hK => ?_)
        go_simp
        replace hS := Gr.alloc hS (.cells #[.int .i64 10] 3)
        have HTM := Lib.hid (hD2.out _ hS _ HTEN2.out)
        have HVD1 := Lib.hid (HVD0.out.gr (Gr.alloc (Gr.refl _) (.cells #[.int .i64 10] 3)))
        refine hK _ _ hS ?_
        clear hK K
        refine next_at 2 rfl (by kernel_rfl) (by rfl) (fun K hK => ?_)
        go_simp
        refine (HTM.out.mono ?_)
        rintro e w2 ⟨vt, rfl, hvt, hg⟩
        obtain ⟨at', ct, rfl⟩ := num_slice hvt
        replace hS := Gr.step hS hg
        have HVT := Lib.hid hvt
        have HVD := Lib.hid (HVD1.out.gr hg)
        refine hK _ _ hS ?_
        clear hK K hvt hg
        refine next_at 9 rfl (by kernel_rfl) (by rfl) (fun K hK => ?_)
        go_simp
        refine ((plus_lim _ _ _ HVT.out HVD.out (lim_nd _) HLD.out (by have := HLT.out; omega) (by simp)).mono ?_)
        rintro e wp ⟨vp, lp, rfl, hvp, hlp, hnv, hg⟩
        replace hS := Gr.step hS hg
        obtain ⟨ap, cpp, evp, hlcp, hmp, hcp⟩ := id hvp
        subst evp
        rw [nv_nd] at hnv
        have HVP := Lib.hid hvp
        have HNV := Lib.hid hnv
        have HLP := Lib.hid hlp
        refine hK _ _ hS ?_
        clear hK K hg hvp hlp hnv hcp hlcp hmp HVT HVD
        refine next_at 10 rfl (by kernel_rfl) (by rfl) (fun K hK => ?_)
        go_simp
        refine ((rtrim_any _ HVP.out HLP.out).mono ?_)
        rintro e wq ⟨vq, rfl, hvq, rfl⟩
        have HVQ := Lib.hid (show Num wp vq (nval (s.data.toList.take (t + 1))) by
          have := hvq.any
          rw [HNV.out] at this
          rw [HST.out]
          have e : nv [d] = d := by simp [nv]
          rw [e] at this
          exact this)
        refine hK _ _ hS ?_
        clear hK K hvq HVP HNV HLP
        refine next_at 11 rfl (by kernel_rfl) (by rfl) (fun K hK => ?_)
        go_simp
        refine hK _ _ hS ?_
        clear hK K
        refine wpAnyH_done (by kernel_rfl) ?_ _
        refine qz_normal ?_
        go_wp2_with fail
        exact ⟨⟨t + 1, by go_num, by omega, HVQ.out, HGR.out.step hS⟩, by simp only [intOf]; omega⟩
    · obtain rfl : t = s.size := by omega
      have e : s.data.toList.take s.size = s.data.toList := List.take_of_length_le (by have := HLEN.out; omega)
      have hlm := HTL.out s.size (Nat.le_refl _)
      rw [e] at HN hlm
      have HLI := Lib.hid (limited_any _ _ HN.out (by omega))
      clear hn hg hlm
      go_wp2_with fail
      refine HLI.out.mono ?_
      rintro e w2 ⟨v2, er, rfl, hr, hg2⟩
      have HR := Lib.hid hr
      have HG2 := Lib.hid (HGR.out.step hg2)
      clear hr hg2
      go_wp2_with fail
      go_ret2
      exact ⟨_, _, rfl, HR.out, HG2.out⟩
theorem rparse_any (s : ByteArray) (w : World) (hs : s.size ≤ 1000000) :
    Calls Tryz.prog 67 #[.string s] w (PsRes w s.data.toList) := by
  have hsz := Lib.size_eq s
  by_cases ht : txt s.data.toList
  · by_cases h24 : 2400 < s.size
    · have HD := Lib.hid (fun w => rdigits_any s w hs)
      rw [decide_eq_true ht] at HD
      have d1 : decide ((2400 : Int) < (s.size : Int)) = true := by rw [decide_eq_true_eq]; omega
      have HP : Hid (∀ e w', PsRes w s.data.toList e w' ↔ (e = .returned (.tuple #[.slice none 0 0, .int .i64 5]) ∧ Gr w w')) := Lib.hid fun e w' => by unfold PsRes; rw [if_neg (by simpa using ht), if_pos (by omega)]
      clear ht h24 hsz
      go_enter Tryz.func67, Tryz.ntmps67
      go_wp2_with fail
      refine (HD.out _).mono ?_
      rintro e w' ⟨rfl, rfl⟩
      go_wp2_with fail
      go_ret2
      exact (HP.out _ _).2 ⟨rfl, Gr.refl _⟩
    · refine (rparse_ok s w (by omega) ht).mono fun e w' h => ?_
      unfold PsRes
      rw [if_neg (by simpa using ht), if_neg (by omega)]
      exact h
  · have HD := Lib.hid (fun w => rdigits_any s w hs)
    rw [decide_eq_false ht] at HD
    have HP : Hid (∀ e w', PsRes w s.data.toList e w' ↔ (e = .returned (.tuple #[.slice none 0 0, .int .i64 2]) ∧ Gr w w')) := Lib.hid fun e w' => by unfold PsRes; rw [if_pos ht]
    clear ht hsz
    go_enter Tryz.func67, Tryz.ntmps67
    go_wp2_with fail
    refine (HD.out _).mono ?_
    rintro e w' ⟨rfl, rfl⟩
    go_wp2_with fail
    go_ret2
    exact (HP.out _ _).2 ⟨rfl, Gr.refl _⟩
end Go.Proofs.YtjpjnbgfodlkcaaGreatDoor
