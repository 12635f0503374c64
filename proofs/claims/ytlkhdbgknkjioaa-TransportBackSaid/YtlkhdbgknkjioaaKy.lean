/- The drawn messages. -/
import Derived.Test.YtlkhdbgknkjioaaKp
import Derived.Test.YtlkhdbgknkjioaaKx
import Derived.Test.YtlkhdbgknkjioaaIa
import Derived.Test.YtlkhdbgknkjioaaDraw
import Derived.WalkKit
import Derived.WalkSpells
import Derived.WalkLawsBesides
import Derived.WalkSmall
import Derived.Handy
import Derived.BigQuiet
import Derived.Deep.QuietTactic
import Derived.Deep.RegionHeld3
import Derived.Deep.DeepFit
import Derived.Below
import Derived.Lib.Hide
import Derived.Lib.QuietBelow
import Derived.Deep.DeepCutAuto
namespace Go.Proofs.Ytlkhdbgknkjioaa
open Go Go.RowKit Go.Sort
set_option maxRecDepth 100000
set_option linter.unusedVariables false
set_option linter.unusedSimpArgs false
theorem region_cut6 {P : Program} {c : Code} {Q : Exit → Act → World → Prop} {a : Act} {w : World} (aF : Nat → Nat → Nat → Nat → Option Addr → Nat → Act) (R : Nat → Nat → Nat → Nat → Option Addr → Nat → World → Prop)
    (h : c.wp P (fun e a' w' => e = .normal ∧ ∃ x1 x2 x3 x4 x5 x6, a' = aF x1 x2 x3 x4 x5 x6 ∧ R x1 x2 x3 x4 x5 x6 w') a w) (k : ∀ x1 x2 x3 x4 x5 x6 w', R x1 x2 x3 x4 x5 x6 w' → Q .normal (aF x1 x2 x3 x4 x5 x6) w') : c.wp P Q a w := by
  refine Code.wp_mono (fun e a' w' h' => ?_) h
  obtain ⟨he, x1, x2, x3, x4, x5, x6, ha, hr⟩ := h'
  rw [he, ha]
  exact k _ _ _ _ _ _ _ hr
/-- a row of the call's own does not lie in an older block -/
theorem OwB.off {base b : Nat} {w : World} {v : Value} {l : List Nat} (h : OwB base w v l) (hb : b < base) : Rb (fun k => k ≠ b) w v l := h.rb.imp fun k _ hk => by omega
def MsgPost (B b : Nat) (w0 : World) (src dst : Nat) (d : List Nat) (e : Ending) (w' : World) : Prop :=
  ∃ (r : Bool) (i s t c sp dp sq1 dq1 sq ak fl wi : Nat) (g : Nat) (v0 v1 v2 v3 : Value), e = .returned (.slice (some ⟨g, 0, none⟩) 4 4) ∧ i < 65536 ∧ s < 65536 ∧ (t = 3 ∨ t = 11) ∧ c < 256 ∧ sp < 65536 ∧ dp < 65536 ∧ sq1 < 65536 ∧ dq1 < 65536 ∧ sq < 65536 ∧ ak < 65536 ∧ fl < 256 ∧ wi < 65536 ∧
    CL w' g [v0, v1, v2, v3] ∧ b < g ∧ Rb (fun k => k ≠ b) w' v0 (echoL r i s d) ∧ Rb (fun k => k ≠ b) w' v1 (noteL t c (List.replicate 28 0 ++ d)) ∧ Rb (fun k => k ≠ b) w' v2 (udpL src dst sp dp d) ∧ Rb (fun k => k ≠ b) w' v3 (tcpL src dst sq1 dq1 sq ak fl wi d) ∧ Cod B w' b ∧ Gr w0 w'
set_option maxHeartbeats 4000000 in
theorem messages_any {B : Nat} {p : Nat → Prop} {v : Value} {d : List Nat} (b src dst : Nat) (w0 w : World) (hG : Gr w0 w) (hbw : w0.heap.size ≤ b) (hc : Cod B w b) (hr : Rb p w0 v d) (hs : src < 4294967296) (hd : dst < 4294967296) (hl : d.length ≤ 1400) :
    Calls Try.prog 13 #[.pointer (some ⟨b, 0, none⟩), .int .u32 src, .int .u32 dst, v] w (MsgPost B b w0 src dst d) := by
  have HR := Lib.hid hr
  obtain ⟨av, cv, rfl, -, -⟩ := hr.form
  obtain ⟨N, hN⟩ : ∃ N, N = d.length := ⟨_, rfl⟩
  have HN := Lib.hid hN
  have hN2 : N ≤ 1400 := by omega
  have HN2 := Lib.hid hN2
  rw [← hN] at HR ⊢
  obtain ⟨NQ, hNQ⟩ : ∃ M, M = 28 + N := ⟨_, rfl⟩
  have HNQ := Lib.hid hNQ
  obtain ⟨ti, hi1, hi2, hi3, hi4⟩ := byteInfoB
  clear hr hl hN hNQ
  go_enter Try.func13, Try.ntmps13
  go_upto_region 2 with (first
    | (refine wpList_make_full _ rfl _ _ 22 rfl w.heap.size 5 ti (.int .u8 0) 1 Try.underlying22 hi1 hi2 hi3 .i64 .i64 _ _ 28 rfl rfl (by simp) (by simp) (by rw [hi4]; omega) (by unfold maxLen; omega) (Nat.le_refl _) ?_; intro w1 hown1 hgrow1; have hblk := made_zero hown1; have hg : Gr w w1 := Gr.grownNew (Gr.refl _) hgrow1 (fun _ h => by cases h); have hz := owb_block (L := List.replicate 28 0) hblk (Nat.le_refl w.heap.size) (by simp) (by intro x hx; have := List.eq_of_mem_replicate hx; omega); clear hown1 hgrow1 hblk)
    | (at_builtin; refine wpList_app (base := w.heap.size) rfl (.tmp 18) (.tmp 19) rfl rfl hz rfl (HR.out.gr (hG.step hg)) (by rw [← HN.out]; simp; omega) (Gr.size hg) ?_; intro vq w2 hq g2; have hg2 : Gr w w2 := hg.grownNew g2 hz.above; clear g2))
  have hbl := hc.lt
  replace hq := hq.off hbl
  replace hG := hG.step hg2
  replace hc := hc.gr hg2
  clear hg hg2 hz hi1 hi2 hi3 hi4 hbl
  obtain ⟨aq, cq, rfl, -, -⟩ := id hq.form
  have HQL := Lib.hid (show (List.replicate 28 0 ++ d).length = NQ by rw [List.length_append, List.length_replicate, ← HN.out, HNQ.out])
  rw [HQL.out] at hq ⊢
  go_wp2_with fail
  refine (next_nat b 2 w2 (by omega) (by omega) hc).mono ?_
  rintro e w3 ⟨x1, rfl, hltx1, hc', hx⟩
  replace hG := Ex.gr hG hbw hx
  replace hc := hc'
  clear hc'
  replace hq := hq.ex hx (fun _ h => h)
  clear hx
  go_wp2_with fail
  refine (next_nat b 65536 w3 (by omega) (by omega) hc).mono ?_
  rintro e w4 ⟨i, rfl, hlti, hc', hx⟩
  replace hG := Ex.gr hG hbw hx
  replace hc := hc'
  clear hc'
  replace hq := hq.ex hx (fun _ h => h)
  clear hx
  go_wp2_with fail
  refine (next_nat b 65536 w4 (by omega) (by omega) hc).mono ?_
  rintro e w5 ⟨s, rfl, hlts, hc', hx⟩
  replace hG := Ex.gr hG hbw hx
  replace hc := hc'
  clear hc'
  replace hq := hq.ex hx (fun _ h => h)
  clear hx
  go_wp2_with fail
  refine (recho_ok ((x1 : Int) == 1) i s w5 (HR.out.gr hG) (by omega) (by omega) (by rw [← HN.out]; omega)).mono ?_
  rintro e w6 ⟨ve, rfl, he, hg⟩
  replace he := he.off hc.lt
  replace hG := hG.step hg
  replace hc := hc.gr hg
  replace hq := hq.gr hg
  generalize ((x1 : Int) == 1) = r at he
  clear hg
  obtain ⟨ae, ce, rfl, -, -⟩ := he.form
  rw [echo_len, ← HN.out] at he ⊢
  generalize hne : 8 + N = NE at he ⊢
  clear hne
  go_wp2_with fail
  refine region_cut6 ?aF (fun _ _ t c an cn W => (t = 3 ∨ t = 11) ∧ c < 256 ∧ Gr w0 W ∧ Cod B W b ∧ Rb (fun k => k ≠ b) W (.slice ae NE ce) (echoL r i s d) ∧ Rb (fun k => k ≠ b) W (.slice an (8 + NQ) cn) (noteL t c (List.replicate 28 0 ++ d))) ?h ?k
  case h =>
    replace hG := hG.step (Gr.drew (Gr.refl w6))
    replace hc := hc.gr (Gr.drew (Gr.refl w6))
    replace he := he.gr (Gr.drew (Gr.refl w6))
    replace hq := hq.gr (Gr.drew (Gr.refl w6))
    refine region_plain (fun _ => True) (by kernel_rfl) ?_
    generalize w6.drew = w7 at hG hc he hq ⊢
    refine take_at 1 (some 36) (v := ?vk1) rfl rfl (by kernel_rfl) (by kernel_rfl) (by kernel_rfl) (by rfl) ?yk1 trivial ?tk1
    case yk1 =>
      intro w' hSw
      go_simp
      (try with_reducible rfl)
    simp only [Act.put, List.setIfInBounds_toArray, List.set_cons_zero, List.set_cons_succ]
    refine take_at 5 (some 40) (v := ?vk5) rfl rfl (by kernel_rfl) (by kernel_rfl) (by kernel_rfl) (by rfl) ?yk5 trivial ?tk5
    case yk5 =>
      intro w' hSw
      go_simp
      (try with_reducible rfl)
    simp only [Act.put, List.setIfInBounds_toArray, List.set_cons_zero, List.set_cons_succ]
    refine take_at 7 (some 42) (v := ?vk7) rfl rfl (by kernel_rfl) (by kernel_rfl) (by kernel_rfl) (by rfl) ?yk7 trivial ?tk7
    case yk7 =>
      intro w' hSw
      go_simp
      (try with_reducible rfl)
    simp only [Act.put, List.setIfInBounds_toArray, List.set_cons_zero, List.set_cons_succ]
    refine next_two 0 2 rfl rfl (by kernel_rfl) (by rfl) (by rfl) (fun K hK => ?_) (fun K hK => ?_)
    · skip
      go_simp
      have hcl := CL.new w7 [.int .i64 3, .int .i64 11] 3 _ rfl
      have hg := Gr.alloc (Gr.refl w7) (.cells #[.int .i64 3, .int .i64 11] 3)
      have hgb : w7.heap.size ≠ b := by have := hc.lt; omega
      replace hG := hG.step hg
      replace hc := hc.gr hg
      replace he := he.gr hg
      replace hq := hq.gr hg
      refine hK _ _ trivial ?_
      clear hK K hg
      generalize w7.alloc (.cells #[.int .i64 3, .int .i64 11] 3) = w8 at hG hc he hq hcl ⊢
      generalize w7.heap.size = g at hcl hgb ⊢
      refine next_at 2 rfl (by kernel_rfl) (by rfl) (fun K hK => ?_)
      go_simp
      refine (next_nat b 2 w8 (by omega) (by omega) hc).mono ?_
      rintro e w9 ⟨x, rfl, hltx, hc', hx⟩
      replace hG := Ex.gr hG hbw hx
      replace hc := hc'
      replace he := he.ex hx (fun _ h => h)
      replace hq := hq.ex hx (fun _ h => h)
      clear hc'
      replace hcl := hcl.ex hx hgb
      refine hK _ _ trivial ?_
      clear hK K hx
      have hx2 : (x : Int) < 2 := by omega
      refine take_at 3 (some 38) (v := ?va3) rfl rfl (by kernel_rfl) (by kernel_rfl) (by kernel_rfl) (by rfl) ?ya3 trivial ?ta3
      case ya3 =>
        intro w' hSw
        go_simp
        (try with_reducible rfl)
      simp only [Act.put, List.setIfInBounds_toArray, List.set_cons_zero, List.set_cons_succ]
      refine next_two 4 6 rfl rfl (by kernel_rfl) (by rfl) (by rfl) (fun K hK => ?_) (fun K hK => ?_)
      · skip
        obtain ⟨t, ht, hcell⟩ : ∃ t : Nat, (t = 3 ∨ t = 11) ∧ w9.cell? ⟨g, x, none⟩ = some (.int .i64 t) := by
          rcases (show x = 0 ∨ x = 1 by omega) with rfl | rfl
          · exact ⟨3, .inl rfl, (hcl.at' 0 _ rfl).1⟩
          · exact ⟨11, .inr rfl, (hcl.at' 1 _ rfl).1⟩
        go_simp
        refine hK _ _ trivial ?_
        clear hK K hcell
        refine next_at 6 rfl (by kernel_rfl) (by rfl) (fun K hK => ?_)
        go_simp
        refine (next_nat b 256 w9 (by omega) (by omega) hc).mono ?_
        rintro e wx ⟨c, rfl, hltc, hc', hx⟩
        replace hG := Ex.gr hG hbw hx
        replace hc := hc'
        replace he := he.ex hx (fun _ h => h)
        replace hq := hq.ex hx (fun _ h => h)
        clear hc'
        have hcB : c < 256 := by omega
        skip
        refine hK _ _ trivial ?_
        clear hK K hx
        refine next_at 8 rfl (by kernel_rfl) (by rfl) (fun K hK => ?_)
        go_simp
        refine hK _ _ trivial ?_
        clear hK K
        refine next_at 9 rfl (by kernel_rfl) (by rfl) (fun K hK => ?_)
        go_simp
        refine (rnote_ok t c wx hq ht hcB (by rw [HQL.out, HNQ.out]; omega) (by rw [HQL.out, HNQ.out]; have := HN2.out; omega)).mono ?_
        rintro e we ⟨vn, rfl, hn, hg⟩
        replace hn := hn.off (hc.lt)
        replace hG := hG.step hg
        replace hc := hc.gr hg
        replace he := he.gr hg
        replace hq := hq.gr hg
        obtain ⟨an, cn, rfl, -, -⟩ := hn.form
        rw [note_len, HQL.out] at hn ⊢
        refine hK _ _ trivial ?_
        clear hK K hg
        refine take_at 10 (some 34) (v := ?vza10) rfl rfl (by kernel_rfl) (by kernel_rfl) (by kernel_rfl) (by rfl) ?yza10 trivial ?tza10
        case yza10 =>
          intro w' hSw
          go_simp
          (try with_reducible rfl)
        simp only [Act.put, List.setIfInBounds_toArray, List.set_cons_zero, List.set_cons_succ]
        refine take_at 11 (some 45) (v := ?vza11) rfl rfl (by kernel_rfl) (by kernel_rfl) (by kernel_rfl) (by rfl) ?yza11 trivial ?tza11
        case yza11 =>
          intro w' hSw
          go_simp
          (try with_reducible rfl)
        simp only [Act.put, List.setIfInBounds_toArray, List.set_cons_zero, List.set_cons_succ]
        refine take_at 12 (some 46) (v := ?vza12) rfl rfl (by kernel_rfl) (by kernel_rfl) (by kernel_rfl) (by rfl) ?yza12 trivial ?tza12
        case yza12 =>
          intro w' hSw
          go_simp
          (try with_reducible rfl)
        simp only [Act.put, List.setIfInBounds_toArray, List.set_cons_zero, List.set_cons_succ]
        refine next_at 13 rfl (by kernel_rfl) (by rfl) (fun K hK => ?_)
        go_simp
        refine hK _ _ trivial ?_
        clear hK K
        refine next_at 14 rfl (by kernel_rfl) (by rfl) (fun K hK => ?_)
        go_simp
        refine hK _ _ trivial ?_
        clear hK K
        refine wpAnyH_done (by kernel_rfl) ?_ _
        refine qz_normal ⟨rfl, g, x, t, c, an, cn, ?_, ht, hcB, hG, hc, he, hn⟩
        first | with_reducible rfl | exact rfl
      · skip
        go_simp
        refine (next_nat b 256 w9 (by omega) (by omega) hc).mono ?_
        rintro e wx ⟨c, rfl, hltc, hc', hx⟩
        replace hG := Ex.gr hG hbw hx
        replace hc := hc'
        replace he := he.ex hx (fun _ h => h)
        replace hq := hq.ex hx (fun _ h => h)
        clear hc'
        have hcB : c < 256 := by omega
        replace hcl := hcl.ex hx hgb
        refine hK _ _ trivial ?_
        clear hK K hx
        refine next_at 4 rfl (by kernel_rfl) (by rfl) (fun K hK => ?_)
        obtain ⟨t, ht, hcell⟩ : ∃ t : Nat, (t = 3 ∨ t = 11) ∧ wx.cell? ⟨g, x, none⟩ = some (.int .i64 t) := by
          rcases (show x = 0 ∨ x = 1 by omega) with rfl | rfl
          · exact ⟨3, .inl rfl, (hcl.at' 0 _ rfl).1⟩
          · exact ⟨11, .inr rfl, (hcl.at' 1 _ rfl).1⟩
        go_simp
        refine hK _ _ trivial ?_
        clear hK K hcell
        refine next_at 8 rfl (by kernel_rfl) (by rfl) (fun K hK => ?_)
        go_simp
        refine hK _ _ trivial ?_
        clear hK K
        refine next_at 9 rfl (by kernel_rfl) (by rfl) (fun K hK => ?_)
        go_simp
        refine (rnote_ok t c wx hq ht hcB (by rw [HQL.out, HNQ.out]; omega) (by rw [HQL.out, HNQ.out]; have := HN2.out; omega)).mono ?_
        rintro e we ⟨vn, rfl, hn, hg⟩
        replace hn := hn.off (hc.lt)
        replace hG := hG.step hg
        replace hc := hc.gr hg
        replace he := he.gr hg
        replace hq := hq.gr hg
        obtain ⟨an, cn, rfl, -, -⟩ := hn.form
        rw [note_len, HQL.out] at hn ⊢
        refine hK _ _ trivial ?_
        clear hK K hg
        refine take_at 10 (some 34) (v := ?vzb10) rfl rfl (by kernel_rfl) (by kernel_rfl) (by kernel_rfl) (by rfl) ?yzb10 trivial ?tzb10
        case yzb10 =>
          intro w' hSw
          go_simp
          (try with_reducible rfl)
        simp only [Act.put, List.setIfInBounds_toArray, List.set_cons_zero, List.set_cons_succ]
        refine take_at 11 (some 45) (v := ?vzb11) rfl rfl (by kernel_rfl) (by kernel_rfl) (by kernel_rfl) (by rfl) ?yzb11 trivial ?tzb11
        case yzb11 =>
          intro w' hSw
          go_simp
          (try with_reducible rfl)
        simp only [Act.put, List.setIfInBounds_toArray, List.set_cons_zero, List.set_cons_succ]
        refine take_at 12 (some 46) (v := ?vzb12) rfl rfl (by kernel_rfl) (by kernel_rfl) (by kernel_rfl) (by rfl) ?yzb12 trivial ?tzb12
        case yzb12 =>
          intro w' hSw
          go_simp
          (try with_reducible rfl)
        simp only [Act.put, List.setIfInBounds_toArray, List.set_cons_zero, List.set_cons_succ]
        refine next_at 13 rfl (by kernel_rfl) (by rfl) (fun K hK => ?_)
        go_simp
        refine hK _ _ trivial ?_
        clear hK K
        refine next_at 14 rfl (by kernel_rfl) (by rfl) (fun K hK => ?_)
        go_simp
        refine hK _ _ trivial ?_
        clear hK K
        refine wpAnyH_done (by kernel_rfl) ?_ _
        refine qz_normal ⟨rfl, g, x, t, c, an, cn, ?_, ht, hcB, hG, hc, he, hn⟩
        first | with_reducible rfl | exact rfl
    · skip
      go_simp
      refine (next_nat b 2 w7 (by omega) (by omega) hc).mono ?_
      rintro e w8 ⟨x, rfl, hltx, hc', hx⟩
      replace hG := Ex.gr hG hbw hx
      replace hc := hc'
      replace he := he.ex hx (fun _ h => h)
      replace hq := hq.ex hx (fun _ h => h)
      clear hc'
      skip
      refine hK _ _ trivial ?_
      clear hK K hx
      refine next_two 0 6 rfl rfl (by kernel_rfl) (by rfl) (by rfl) (fun K hK => ?_) (fun K hK => ?_)
      · skip
        go_simp
        have hcl := CL.new w8 [.int .i64 3, .int .i64 11] 3 _ rfl
        have hg := Gr.alloc (Gr.refl w8) (.cells #[.int .i64 3, .int .i64 11] 3)
        have hgb : w8.heap.size ≠ b := by have := hc.lt; omega
        replace hG := hG.step hg
        replace hc := hc.gr hg
        replace he := he.gr hg
        replace hq := hq.gr hg
        refine hK _ _ trivial ?_
        clear hK K hg
        generalize w8.alloc (.cells #[.int .i64 3, .int .i64 11] 3) = w9 at hG hc he hq hcl ⊢
        generalize w8.heap.size = g at hcl hgb ⊢
        have hx2 : (x : Int) < 2 := by omega
        refine take_at 3 (some 38) (v := ?vb3) rfl rfl (by kernel_rfl) (by kernel_rfl) (by kernel_rfl) (by rfl) ?yb3 trivial ?tb3
        case yb3 =>
          intro w' hSw
          go_simp
          (try with_reducible rfl)
        simp only [Act.put, List.setIfInBounds_toArray, List.set_cons_zero, List.set_cons_succ]
        refine next_two 4 6 rfl rfl (by kernel_rfl) (by rfl) (by rfl) (fun K hK => ?_) (fun K hK => ?_)
        · skip
          obtain ⟨t, ht, hcell⟩ : ∃ t : Nat, (t = 3 ∨ t = 11) ∧ w9.cell? ⟨g, x, none⟩ = some (.int .i64 t) := by
            rcases (show x = 0 ∨ x = 1 by omega) with rfl | rfl
            · exact ⟨3, .inl rfl, (hcl.at' 0 _ rfl).1⟩
            · exact ⟨11, .inr rfl, (hcl.at' 1 _ rfl).1⟩
          go_simp
          refine hK _ _ trivial ?_
          clear hK K hcell
          refine next_at 6 rfl (by kernel_rfl) (by rfl) (fun K hK => ?_)
          go_simp
          refine (next_nat b 256 w9 (by omega) (by omega) hc).mono ?_
          rintro e wx ⟨c, rfl, hltc, hc', hx⟩
          replace hG := Ex.gr hG hbw hx
          replace hc := hc'
          replace he := he.ex hx (fun _ h => h)
          replace hq := hq.ex hx (fun _ h => h)
          clear hc'
          have hcB : c < 256 := by omega
          skip
          refine hK _ _ trivial ?_
          clear hK K hx
          refine next_at 8 rfl (by kernel_rfl) (by rfl) (fun K hK => ?_)
          go_simp
          refine hK _ _ trivial ?_
          clear hK K
          refine next_at 9 rfl (by kernel_rfl) (by rfl) (fun K hK => ?_)
          go_simp
          refine (rnote_ok t c wx hq ht hcB (by rw [HQL.out, HNQ.out]; omega) (by rw [HQL.out, HNQ.out]; have := HN2.out; omega)).mono ?_
          rintro e we ⟨vn, rfl, hn, hg⟩
          replace hn := hn.off (hc.lt)
          replace hG := hG.step hg
          replace hc := hc.gr hg
          replace he := he.gr hg
          replace hq := hq.gr hg
          obtain ⟨an, cn, rfl, -, -⟩ := hn.form
          rw [note_len, HQL.out] at hn ⊢
          refine hK _ _ trivial ?_
          clear hK K hg
          refine take_at 10 (some 34) (v := ?vzc10) rfl rfl (by kernel_rfl) (by kernel_rfl) (by kernel_rfl) (by rfl) ?yzc10 trivial ?tzc10
          case yzc10 =>
            intro w' hSw
            go_simp
            (try with_reducible rfl)
          simp only [Act.put, List.setIfInBounds_toArray, List.set_cons_zero, List.set_cons_succ]
          refine take_at 11 (some 45) (v := ?vzc11) rfl rfl (by kernel_rfl) (by kernel_rfl) (by kernel_rfl) (by rfl) ?yzc11 trivial ?tzc11
          case yzc11 =>
            intro w' hSw
            go_simp
            (try with_reducible rfl)
          simp only [Act.put, List.setIfInBounds_toArray, List.set_cons_zero, List.set_cons_succ]
          refine take_at 12 (some 46) (v := ?vzc12) rfl rfl (by kernel_rfl) (by kernel_rfl) (by kernel_rfl) (by rfl) ?yzc12 trivial ?tzc12
          case yzc12 =>
            intro w' hSw
            go_simp
            (try with_reducible rfl)
          simp only [Act.put, List.setIfInBounds_toArray, List.set_cons_zero, List.set_cons_succ]
          refine next_at 13 rfl (by kernel_rfl) (by rfl) (fun K hK => ?_)
          go_simp
          refine hK _ _ trivial ?_
          clear hK K
          refine next_at 14 rfl (by kernel_rfl) (by rfl) (fun K hK => ?_)
          go_simp
          refine hK _ _ trivial ?_
          clear hK K
          refine wpAnyH_done (by kernel_rfl) ?_ _
          refine qz_normal ⟨rfl, g, x, t, c, an, cn, ?_, ht, hcB, hG, hc, he, hn⟩
          first | with_reducible rfl | exact rfl
        · skip
          go_simp
          refine (next_nat b 256 w9 (by omega) (by omega) hc).mono ?_
          rintro e wx ⟨c, rfl, hltc, hc', hx⟩
          replace hG := Ex.gr hG hbw hx
          replace hc := hc'
          replace he := he.ex hx (fun _ h => h)
          replace hq := hq.ex hx (fun _ h => h)
          clear hc'
          have hcB : c < 256 := by omega
          replace hcl := hcl.ex hx hgb
          refine hK _ _ trivial ?_
          clear hK K hx
          refine next_at 4 rfl (by kernel_rfl) (by rfl) (fun K hK => ?_)
          obtain ⟨t, ht, hcell⟩ : ∃ t : Nat, (t = 3 ∨ t = 11) ∧ wx.cell? ⟨g, x, none⟩ = some (.int .i64 t) := by
            rcases (show x = 0 ∨ x = 1 by omega) with rfl | rfl
            · exact ⟨3, .inl rfl, (hcl.at' 0 _ rfl).1⟩
            · exact ⟨11, .inr rfl, (hcl.at' 1 _ rfl).1⟩
          go_simp
          refine hK _ _ trivial ?_
          clear hK K hcell
          refine next_at 8 rfl (by kernel_rfl) (by rfl) (fun K hK => ?_)
          go_simp
          refine hK _ _ trivial ?_
          clear hK K
          refine next_at 9 rfl (by kernel_rfl) (by rfl) (fun K hK => ?_)
          go_simp
          refine (rnote_ok t c wx hq ht hcB (by rw [HQL.out, HNQ.out]; omega) (by rw [HQL.out, HNQ.out]; have := HN2.out; omega)).mono ?_
          rintro e we ⟨vn, rfl, hn, hg⟩
          replace hn := hn.off (hc.lt)
          replace hG := hG.step hg
          replace hc := hc.gr hg
          replace he := he.gr hg
          replace hq := hq.gr hg
          obtain ⟨an, cn, rfl, -, -⟩ := hn.form
          rw [note_len, HQL.out] at hn ⊢
          refine hK _ _ trivial ?_
          clear hK K hg
          refine take_at 10 (some 34) (v := ?vzd10) rfl rfl (by kernel_rfl) (by kernel_rfl) (by kernel_rfl) (by rfl) ?yzd10 trivial ?tzd10
          case yzd10 =>
            intro w' hSw
            go_simp
            (try with_reducible rfl)
          simp only [Act.put, List.setIfInBounds_toArray, List.set_cons_zero, List.set_cons_succ]
          refine take_at 11 (some 45) (v := ?vzd11) rfl rfl (by kernel_rfl) (by kernel_rfl) (by kernel_rfl) (by rfl) ?yzd11 trivial ?tzd11
          case yzd11 =>
            intro w' hSw
            go_simp
            (try with_reducible rfl)
          simp only [Act.put, List.setIfInBounds_toArray, List.set_cons_zero, List.set_cons_succ]
          refine take_at 12 (some 46) (v := ?vzd12) rfl rfl (by kernel_rfl) (by kernel_rfl) (by kernel_rfl) (by rfl) ?yzd12 trivial ?tzd12
          case yzd12 =>
            intro w' hSw
            go_simp
            (try with_reducible rfl)
          simp only [Act.put, List.setIfInBounds_toArray, List.set_cons_zero, List.set_cons_succ]
          refine next_at 13 rfl (by kernel_rfl) (by rfl) (fun K hK => ?_)
          go_simp
          refine hK _ _ trivial ?_
          clear hK K
          refine next_at 14 rfl (by kernel_rfl) (by rfl) (fun K hK => ?_)
          go_simp
          refine hK _ _ trivial ?_
          clear hK K
          refine wpAnyH_done (by kernel_rfl) ?_ _
          refine qz_normal ⟨rfl, g, x, t, c, an, cn, ?_, ht, hcB, hG, hc, he, hn⟩
          first | with_reducible rfl | exact rfl
      · skip
        go_simp
        refine (next_nat b 256 w8 (by omega) (by omega) hc).mono ?_
        rintro e w9 ⟨c, rfl, hltc, hc', hx⟩
        replace hG := Ex.gr hG hbw hx
        replace hc := hc'
        replace he := he.ex hx (fun _ h => h)
        replace hq := hq.ex hx (fun _ h => h)
        clear hc'
        have hcB : c < 256 := by omega
        skip
        refine hK _ _ trivial ?_
        clear hK K hx
        refine next_at 0 rfl (by kernel_rfl) (by rfl) (fun K hK => ?_)
        go_simp
        have hcl := CL.new w9 [.int .i64 3, .int .i64 11] 3 _ rfl
        have hg := Gr.alloc (Gr.refl w9) (.cells #[.int .i64 3, .int .i64 11] 3)
        have hgb : w9.heap.size ≠ b := by have := hc.lt; omega
        replace hG := hG.step hg
        replace hc := hc.gr hg
        replace he := he.gr hg
        replace hq := hq.gr hg
        refine hK _ _ trivial ?_
        clear hK K hg
        generalize w9.alloc (.cells #[.int .i64 3, .int .i64 11] 3) = wx at hG hc he hq hcl ⊢
        generalize w9.heap.size = g at hcl hgb ⊢
        have hx2 : (x : Int) < 2 := by omega
        refine take_at 3 (some 38) (v := ?vc3) rfl rfl (by kernel_rfl) (by kernel_rfl) (by kernel_rfl) (by rfl) ?yc3 trivial ?tc3
        case yc3 =>
          intro w' hSw
          go_simp
          (try with_reducible rfl)
        simp only [Act.put, List.setIfInBounds_toArray, List.set_cons_zero, List.set_cons_succ]
        refine next_at 4 rfl (by kernel_rfl) (by rfl) (fun K hK => ?_)
        obtain ⟨t, ht, hcell⟩ : ∃ t : Nat, (t = 3 ∨ t = 11) ∧ wx.cell? ⟨g, x, none⟩ = some (.int .i64 t) := by
          rcases (show x = 0 ∨ x = 1 by omega) with rfl | rfl
          · exact ⟨3, .inl rfl, (hcl.at' 0 _ rfl).1⟩
          · exact ⟨11, .inr rfl, (hcl.at' 1 _ rfl).1⟩
        go_simp
        refine hK _ _ trivial ?_
        clear hK K hcell
        refine next_at 8 rfl (by kernel_rfl) (by rfl) (fun K hK => ?_)
        go_simp
        refine hK _ _ trivial ?_
        clear hK K
        refine next_at 9 rfl (by kernel_rfl) (by rfl) (fun K hK => ?_)
        go_simp
        refine (rnote_ok t c wx hq ht hcB (by rw [HQL.out, HNQ.out]; omega) (by rw [HQL.out, HNQ.out]; have := HN2.out; omega)).mono ?_
        rintro e we ⟨vn, rfl, hn, hg⟩
        replace hn := hn.off (hc.lt)
        replace hG := hG.step hg
        replace hc := hc.gr hg
        replace he := he.gr hg
        replace hq := hq.gr hg
        obtain ⟨an, cn, rfl, -, -⟩ := hn.form
        rw [note_len, HQL.out] at hn ⊢
        refine hK _ _ trivial ?_
        clear hK K hg
        refine take_at 10 (some 34) (v := ?vze10) rfl rfl (by kernel_rfl) (by kernel_rfl) (by kernel_rfl) (by rfl) ?yze10 trivial ?tze10
        case yze10 =>
          intro w' hSw
          go_simp
          (try with_reducible rfl)
        simp only [Act.put, List.setIfInBounds_toArray, List.set_cons_zero, List.set_cons_succ]
        refine take_at 11 (some 45) (v := ?vze11) rfl rfl (by kernel_rfl) (by kernel_rfl) (by kernel_rfl) (by rfl) ?yze11 trivial ?tze11
        case yze11 =>
          intro w' hSw
          go_simp
          (try with_reducible rfl)
        simp only [Act.put, List.setIfInBounds_toArray, List.set_cons_zero, List.set_cons_succ]
        refine take_at 12 (some 46) (v := ?vze12) rfl rfl (by kernel_rfl) (by kernel_rfl) (by kernel_rfl) (by rfl) ?yze12 trivial ?tze12
        case yze12 =>
          intro w' hSw
          go_simp
          (try with_reducible rfl)
        simp only [Act.put, List.setIfInBounds_toArray, List.set_cons_zero, List.set_cons_succ]
        refine next_at 13 rfl (by kernel_rfl) (by rfl) (fun K hK => ?_)
        go_simp
        refine hK _ _ trivial ?_
        clear hK K
        refine next_at 14 rfl (by kernel_rfl) (by rfl) (fun K hK => ?_)
        go_simp
        refine hK _ _ trivial ?_
        clear hK K
        refine wpAnyH_done (by kernel_rfl) ?_ _
        refine qz_normal ⟨rfl, g, x, t, c, an, cn, ?_, ht, hcB, hG, hc, he, hn⟩
        first | with_reducible rfl | exact rfl
  case k =>
    clear hG hc he hq
    intro g x t c an cn w8 ⟨ht, hc6, hG, hc, he, hn⟩
    generalize hnt : 8 + NQ = NT at hn ⊢
    clear hnt
    go_wp2_with fail
    refine (next_nat b 65536 w8 (by omega) (by omega) hc).mono ?_
    rintro e w9 ⟨sp, rfl, hltsp, hc', hx⟩
    replace hG := Ex.gr hG hbw hx
    replace hc := hc'
    clear hc'
    replace he := he.ex hx (fun _ h => h)
    replace hn := hn.ex hx (fun _ h => h)
    clear hx
    go_wp2_with fail
    refine (next_nat b 65536 w9 (by omega) (by omega) hc).mono ?_
    rintro e w10 ⟨dp, rfl, hltdp, hc', hx⟩
    replace hG := Ex.gr hG hbw hx
    replace hc := hc'
    clear hc'
    replace he := he.ex hx (fun _ h => h)
    replace hn := hn.ex hx (fun _ h => h)
    clear hx
    go_wp2_with fail
    refine (rudp_ok src dst sp dp w10 (HR.out.gr hG) hs hd (by omega) (by omega) (by rw [← HN.out]; omega)).mono ?_
    rintro e w11 ⟨vu, rfl, hu, hg⟩
    replace hu := hu.off hc.lt
    replace hG := hG.step hg
    replace hc := hc.gr hg
    replace he := he.gr hg
    replace hn := hn.gr hg
    clear hg
    obtain ⟨au, cu, rfl, -, -⟩ := hu.form
    rw [udp_len, ← HN.out] at hu ⊢
    generalize hnu : 8 + N = NU at hu ⊢
    clear hnu
    go_wp2_with fail
    refine (next_nat b 65536 w11 (by omega) (by omega) hc).mono ?_
    rintro e w12 ⟨sq1, rfl, hltsq1, hc', hx⟩
    replace hG := Ex.gr hG hbw hx
    replace hc := hc'
    clear hc'
    replace hu := hu.ex hx (fun _ h => h)
    replace he := he.ex hx (fun _ h => h)
    replace hn := hn.ex hx (fun _ h => h)
    clear hx
    go_wp2_with fail
    refine (next_nat b 65536 w12 (by omega) (by omega) hc).mono ?_
    rintro e w13 ⟨dq1, rfl, hltdq1, hc', hx⟩
    replace hG := Ex.gr hG hbw hx
    replace hc := hc'
    clear hc'
    replace hu := hu.ex hx (fun _ h => h)
    replace he := he.ex hx (fun _ h => h)
    replace hn := hn.ex hx (fun _ h => h)
    clear hx
    go_wp2_with fail
    refine (next_nat b 65536 w13 (by omega) (by omega) hc).mono ?_
    rintro e w14 ⟨sq, rfl, hltsq, hc', hx⟩
    replace hG := Ex.gr hG hbw hx
    replace hc := hc'
    clear hc'
    replace hu := hu.ex hx (fun _ h => h)
    replace he := he.ex hx (fun _ h => h)
    replace hn := hn.ex hx (fun _ h => h)
    clear hx
    go_wp2_with fail
    refine (next_nat b 65536 w14 (by omega) (by omega) hc).mono ?_
    rintro e w15 ⟨ak, rfl, hltak, hc', hx⟩
    replace hG := Ex.gr hG hbw hx
    replace hc := hc'
    clear hc'
    replace hu := hu.ex hx (fun _ h => h)
    replace he := he.ex hx (fun _ h => h)
    replace hn := hn.ex hx (fun _ h => h)
    clear hx
    go_wp2_with fail
    refine (next_nat b 256 w15 (by omega) (by omega) hc).mono ?_
    rintro e w16 ⟨fl, rfl, hltfl, hc', hx⟩
    replace hG := Ex.gr hG hbw hx
    replace hc := hc'
    clear hc'
    replace hu := hu.ex hx (fun _ h => h)
    replace he := he.ex hx (fun _ h => h)
    replace hn := hn.ex hx (fun _ h => h)
    clear hx
    go_wp2_with fail
    refine (next_nat b 65536 w16 (by omega) (by omega) hc).mono ?_
    rintro e w17 ⟨wi, rfl, hltwi, hc', hx⟩
    replace hG := Ex.gr hG hbw hx
    replace hc := hc'
    clear hc'
    replace hu := hu.ex hx (fun _ h => h)
    replace he := he.ex hx (fun _ h => h)
    replace hn := hn.ex hx (fun _ h => h)
    clear hx
    go_wp2_with fail
    refine (rtcp_ok src dst sq1 dq1 sq ak fl wi w17 (HR.out.gr hG) hs hd (by omega) (by omega) (by omega) (by omega) (by omega) (by omega) (by rw [← HN.out]; omega)).mono ?_
    rintro e w18 ⟨vt, rfl, htc, hg⟩
    replace htc := htc.off hc.lt
    replace hG := hG.step hg
    replace hc := hc.gr hg
    replace he := he.gr hg
    replace hn := hn.gr hg
    replace hu := hu.gr hg
    clear hg
    obtain ⟨at1, ct, rfl, -, -⟩ := htc.form
    rw [tcp_len, ← HN.out] at htc ⊢
    generalize hnt : 20 + N = NV at htc ⊢
    clear hnt
    have hg := Gr.alloc (Gr.refl w18) (.cells #[.slice ae NE ce, .slice an NT cn, .slice au NU cu, .slice at1 NV ct] 22)
    have hcl := CL.new w18 [.slice ae NE ce, .slice an NT cn, .slice au NU cu, .slice at1 NV ct] 22 _ rfl
    have hlt := hc.lt
    go_wp2_with fail
    go_ret
    exact ⟨r, i, s, t, c, sp, dp, sq1, dq1, sq, ak, fl, wi, _, _, _, _, _, rfl, by omega, by omega, ht, hc6, by omega, by omega, by omega, by omega, by omega, by omega, by omega, by omega, hcl, hlt, he.gr hg, hn.gr hg, hu.gr hg, htc.gr hg, hc.gr hg, hG.step hg⟩
end Go.Proofs.Ytlkhdbgknkjioaa
