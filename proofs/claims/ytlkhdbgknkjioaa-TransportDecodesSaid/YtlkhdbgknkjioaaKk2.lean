/- The document decodes notices. -/
import Derived.Test.YtlkhdbgknkjioaaKk0
import Derived.WalkKit
import Derived.WalkSpells
import Derived.WalkLawsBesides
import Derived.WalkSmall
import Derived.Handy
import Derived.BigQuiet
import Derived.Deep.QuietTactic
import Derived.Deep.RegionHeld3
import Derived.Deep.DeepFit
import Derived.Below
import Derived.Lib.Hide
import Derived.Lib.QuietBelow
import Derived.Deep.DeepCutAuto
namespace Go.Proofs.Ytlkhdbgknkjioaa
open Go Go.RowKit Go.Sort
set_option maxRecDepth 100000
set_option linter.unusedVariables false
set_option linter.unusedSimpArgs false
set_option linter.unusedVariables false
set_option maxHeartbeats 1000000 in
theorem rdnote_late3 {p : Nat → Prop} {v : Value} {l : List Nat} (w : World) (hr : Rb p w v l) (hlen : 36 ≤ l.length) (hl : l.length ≤ 1480) (ht : gN l 0 1 = 3) (h4 : gN l 4 4 = 0) :
    Calls Try.prog 52 #[v] w (fun e w' => (vE (s0) 2 l = 0 ∧ ∃ v', e = .returned (.tuple #[.agg #[.int .i64 3, .int .i64 (gN l 1 1 : Nat), v'], .int .i64 0]) ∧ OwB w.heap.size w' v' (l.drop 8) ∧ Gr w w') ∨ (vE (s0) 2 l = 4 ∧ e = .returned (.tuple #[.agg #[.int .i64 0, .int .i64 0, .slice none 0 0], .int .i64 4]) ∧ Gr w w')) := by
  have HR := Lib.hid hr
  have hlt := hr.bytes
  obtain ⟨av, cap, rfl, hcap, hmx⟩ := hr.form
  obtain ⟨bk, off, rfl, -, -⟩ := hr.at' (i := 0) (by omega)
  obtain ⟨L, hL⟩ : ∃ L, L = l.length := ⟨_, rfl⟩
  have HL := Lib.hid hL
  rw [← hL] at HR hl hcap hlen ⊢
  clear hL hr
  have hC := CL.new w [.int .i64 0, .int .i64 0, .slice none 0 0] 39 _ rfl
  have hS := Gr.alloc (Gr.refl w) (.cells #[.int .i64 0, .int .i64 0, .slice none 0 0] 39)
  obtain ⟨bz0, oz0, ez0, -, hz0⟩ := HR.out.at' (i := 0) (by rw [← HL.out]; omega)
  cases ez0
  rw [← gN_oneK (show 0 < l.length by rw [← HL.out]; omega)] at hz0
  rw [Nat.add_zero] at hz0
  obtain ⟨bz1, oz1, ez1, -, hz1⟩ := HR.out.at' (i := 1) (by rw [← HL.out]; omega)
  cases ez1
  rw [← gN_oneK (show 1 < l.length by rw [← HL.out]; omega)] at hz1
  have d1 : decide ((L : Int) < 36) = false := by rw [decide_eq_false_iff_not]; omega
  have d2 : decide ((1480 : Int) < (L : Int)) = false := by rw [decide_eq_false_iff_not]; omega
  obtain ⟨M, hMM⟩ : ∃ M, M = L - 8 := ⟨_, rfl⟩
  have hM2 : M ≤ 1472 := by omega
  have HMM := Lib.hid hMM
  clear hMM
  have HT := Lib.hid (HR.out.tail (k := 8) (by rw [← HL.out]; omega))
  have HG4 := Lib.hid (fun W (g : Gr w W) => rat_any 4 4 W (HR.out.gr g) (by omega) (by omega) (by rw [← HL.out]; omega) (by rw [← HL.out]; omega))
  have hB : gN l 1 1 < 256 := gN_lt hlt 1 1
  have HRE0 := note_re hlt (by rw [← HL.out]; omega) h4
  rw [ht] at hz0 HRE0
  rw [h4] at HG4
  have hcases : (vE (s0) 2 l = 0 ∧ l = msg (s0) (l.take 2) (l.drop 4)) ∨ (vE (s0) 2 l = 4 ∧ ¬ l = msg (s0) (l.take 2) (l.drop 4)) := by
    by_cases h : l = msg (s0) (l.take 2) (l.drop 4)
    · exact .inl ⟨vE_ok (by rw [← HL.out]; omega) h, h⟩
    · exact .inr ⟨vE_bad (by rw [← HL.out]; omega) h, h⟩
  obtain ⟨cc, hcc0⟩ : ∃ cc, cc = decide (msg (s0) (l.take 2) (l.drop 4) = l) := ⟨_, rfl⟩
  have HCF : Hid (cc = false → vE (s0) 2 l = 4) := Lib.hid (fun h => by
    rcases hcases with ⟨_, h2⟩ | ⟨h1, _⟩
    · rw [hcc0, decide_eq_false_iff_not] at h; exact absurd h2.symm h
    · exact h1)
  have HCT : Hid (cc = true → vE (s0) 2 l = 0) := Lib.hid (fun h => by
    rcases hcases with ⟨h1, _⟩ | ⟨_, h2⟩
    · exact h1
    · rw [hcc0, decide_eq_true_eq] at h; exact absurd h.symm h2)
  have HRL : Hid ((msg (s0) (l.take 2) (l.drop 4)).length = L) := Lib.hid (by rw [msg_len, List.length_take, List.length_drop, ← HL.out]; omega)
  have HRE := Lib.hid HRE0
  have hcc := hcc0
  clear hcases HRE0 hcc0 hlt
  clear ht h4
  generalize msg s0 (l.take 2) (l.drop 4) = LM at *
  generalize gN l 1 1 = B at *
  generalize vE s0 2 l = V at *
  have wB : IntKind.i64.wrap (B : Int) = (B : Int) := by rw [IntWalk.i64_in _ (by omega)]
  go_enter Try.func52, Try.ntmps52
  go_upto_region 1 with fail
  have hle : w.heap.size ≤ w.heap.size := Nat.le_refl _
  generalize w.alloc (.cells #[.int .i64 0, .int .i64 0, .slice none 0 0] 39) = ww at hC hS ⊢
  generalize hg0 : w.heap.size = g0 at hC ⊢
  replace hle : w.heap.size ≤ g0 := by omega
  clear hg0
  have hq0 := cell_gr hS hz0
  obtain ⟨⟨y0, y1, y2⟩, u0, u1, u2⟩ := hC.three
  go_wp2_with fail
  refine (HG4.out _ hS).mono ?_
  rintro e wj ⟨rfl, rfl⟩
  go_wp2_with fail
  clear hq0
  have HML : Hid ((l.drop 8).length = M) := Lib.hid (by rw [HMM.out, List.length_drop, ← HL.out])
  have HTL := Lib.hid (show (l.drop 8).length ≤ 30000 by rw [HML.out]; omega)
  clear y0 y1 y2 u0 u1 u2
  obtain ⟨aq, haq⟩ : ∃ aq, aq = (if cap = 8 then some (⟨bk, off, none⟩ : Addr) else some ⟨bk, off + 8, none⟩) := ⟨_, rfl⟩
  rw [← haq] at HT
  have HAQ := Lib.hid haq
  clear haq
  refine region_cut3 ?aFn3 (fun g ax cx W => Gr w W ∧ OwB (g0 + 1) W (.slice ax M cx) (l.drop 8) ∧ CL W g [.int .i64 3, .int .i64 B, .slice ax M cx] ∧ CL W g0 [.int .i64 0, .int .i64 0, .slice none 0 0] ∧ g0 < g) ?hn3 ?kn3
  case hn3 =>
    replace hS := hS.step (Gr.drew (Gr.refl ww))
    replace hC := hC.gr (Gr.drew (Gr.refl ww))
    refine region_plain (Gr w) (by kernel_rfl) ?_
    generalize ww.drew = wx at hS hC ⊢
    refine take_at 0 (some 31) (v := ?vn30) rfl rfl (by kernel_rfl) (by kernel_rfl) (by kernel_rfl) (by rfl) ?yn30 hS ?tn30
    case yn30 =>
      intro w' hSw
      skip
      go_simp
      (try rw [if_pos (by omega)])
      (try rw [← HAQ.out])
      (try with_reducible rfl)
    simp only [Act.put, List.setIfInBounds_toArray, List.set_cons_zero, List.set_cons_succ]
    refine take_at 1 (some 32) (v := ?vn31) rfl rfl (by kernel_rfl) (by kernel_rfl) (by kernel_rfl) (by rfl) ?yn31 hS ?tn31
    case yn31 =>
      intro w' hSw
      skip
      go_simp
      (try rw [if_pos (by omega)])
      (try rw [← HAQ.out])
      (try with_reducible rfl)
    simp only [Act.put, List.setIfInBounds_toArray, List.set_cons_zero, List.set_cons_succ]
    refine take_at 2 (some 33) (v := ?vn32) rfl rfl (by kernel_rfl) (by kernel_rfl) (by kernel_rfl) (by rfl) ?yn32 hS ?tn32
    case yn32 =>
      intro w' hSw
      have hq := cell_gr hSw hz0
      go_simp
      (try rw [if_pos (by omega)])
      (try rw [← HAQ.out])
      (try with_reducible rfl)
    simp only [Act.put, List.setIfInBounds_toArray, List.set_cons_zero, List.set_cons_succ]
    refine take_at 3 (some 34) (v := ?vn33) rfl rfl (by kernel_rfl) (by kernel_rfl) (by kernel_rfl) (by rfl) ?yn33 hS ?tn33
    case yn33 =>
      intro w' hSw
      skip
      go_simp
      (try rw [if_pos (by omega)])
      (try rw [← HAQ.out])
      (try with_reducible rfl)
    simp only [Act.put, List.setIfInBounds_toArray, List.set_cons_zero, List.set_cons_succ]
    refine take_at 4 (some 35) (v := ?vn34) rfl rfl (by kernel_rfl) (by kernel_rfl) (by kernel_rfl) (by rfl) ?yn34 hS ?tn34
    case yn34 =>
      intro w' hSw
      skip
      go_simp
      (try rw [if_pos (by omega)])
      (try rw [← HAQ.out])
      (try with_reducible rfl)
    simp only [Act.put, List.setIfInBounds_toArray, List.set_cons_zero, List.set_cons_succ]
    refine take_at 5 (some 36) (v := ?vn35) rfl rfl (by kernel_rfl) (by kernel_rfl) (by kernel_rfl) (by rfl) ?yn35 hS ?tn35
    case yn35 =>
      intro w' hSw
      skip
      go_simp
      (try rw [if_pos (by omega)])
      (try rw [← HAQ.out])
      (try with_reducible rfl)
    simp only [Act.put, List.setIfInBounds_toArray, List.set_cons_zero, List.set_cons_succ]
    refine take_at 6 (some 37) (v := ?vn36) rfl rfl (by kernel_rfl) (by kernel_rfl) (by kernel_rfl) (by rfl) ?yn36 hS ?tn36
    case yn36 =>
      intro w' hSw
      have hq := cell_gr hSw hz1
      go_simp
      (try rw [if_pos (by omega)])
      (try rw [← HAQ.out])
      (try with_reducible rfl)
    simp only [Act.put, List.setIfInBounds_toArray, List.set_cons_zero, List.set_cons_succ]
    refine take_at 7 (some 38) (v := ?vn37) rfl rfl (by kernel_rfl) (by kernel_rfl) (by kernel_rfl) (by rfl) ?yn37 hS ?tn37
    case yn37 =>
      intro w' hSw
      skip
      go_simp
      (try rw [if_pos (by omega)])
      (try rw [← HAQ.out])
      (try with_reducible rfl)
    simp only [Act.put, List.setIfInBounds_toArray, List.set_cons_zero, List.set_cons_succ]
    refine take_at 8 (some 39) (v := ?vn38) rfl rfl (by kernel_rfl) (by kernel_rfl) (by kernel_rfl) (by rfl) ?yn38 hS ?tn38
    case yn38 =>
      intro w' hSw
      skip
      go_simp
      (try rw [if_pos (by omega)])
      (try rw [← HAQ.out])
      (try with_reducible rfl)
    simp only [Act.put, List.setIfInBounds_toArray, List.set_cons_zero, List.set_cons_succ]
    refine take_at 9 (some 40) (v := .slice aq (L - 8) (cap - 8)) rfl rfl (by kernel_rfl) (by kernel_rfl) (by kernel_rfl) (by rfl) ?yn39 hS ?tn39
    case yn39 =>
      intro w' hSw
      rw [HAQ.out]
      go_simp
      (try rw [if_pos (by omega)])
      (try (intro hcon; exact absurd hcon (by omega)))
      (try with_reducible rfl)
    simp only [Act.put, List.setIfInBounds_toArray, List.set_cons_zero, List.set_cons_succ]
    refine next_two 10 12 rfl rfl (by kernel_rfl) (by rfl) (by rfl) (fun K hK => ?_) (fun K hK => ?_)
    · skip
      refine oper_app (base := wx.heap.size) (l := []) (m := l.drop 8) (.const (.slice none 0 0)) (.tmp 40) rfl rfl (OwB.nil _ _) rfl (HT.out.gr hS) (by have := HTL.out; simp only [List.length_nil]; omega) (Nat.le_refl _) ?_
      intro vx wv58 ho gx
      have hg : Gr wx wv58 := Gr.grownNew (Gr.refl _) gx (fun _ h => by cases h)
      rw [List.nil_append] at ho
      replace ho := ho.base (b := g0 + 1) (by have := hC.lt; omega)
      replace hS := hS.step hg
      replace hC := hC.gr hg
      obtain ⟨ax, cx, rfl, -, -⟩ := ho.rb.form
      rw [HML.out] at ho ⊢
      refine hK _ _ hS ?_
      simp only [Act.put, List.setIfInBounds_toArray, List.set_cons_zero, List.set_cons_succ]
      clear hK K gx hg
      refine take_at 11 (some 42) (v := ?vn3z5911) rfl rfl (by kernel_rfl) (by kernel_rfl) (by kernel_rfl) (by rfl) ?yn3z5911 hS ?tn3z5911
      case yn3z5911 =>
        intro w' hSw
        skip
        go_simp
        (try rw [if_pos (by omega)])
        (try rw [← HAQ.out])
        (try with_reducible rfl)
      simp only [Act.put, List.setIfInBounds_toArray, List.set_cons_zero, List.set_cons_succ]
      refine next_at 12 rfl (by kernel_rfl) (by rfl) (fun K hK => ?_)
      go_simp
      have hcl := CL.new wv58 [.int .i64 0, .int .i64 0, .slice none 0 0] 39 _ rfl
      have hg := Gr.alloc (Gr.refl wv58) (.cells #[.int .i64 0, .int .i64 0, .slice none 0 0] 39)
      have hgg : g0 < wv58.heap.size ∧ w.heap.size ≤ wv58.heap.size := ⟨hC.lt, Gr.size hS⟩
      have hne : ∀ k, (Value.slice ax M cx).ownBlock = some k → k ≠ wv58.heap.size := fun k hk => by have := ho.under k hk; omega
      replace ho := ho.gr hg
      refine hK _ _ (hS.step hg) ?_
      replace hS := hS.step hg
      replace hC := hC.gr hg
      clear hK K hg
      generalize wv58.alloc (.cells #[.int .i64 0, .int .i64 0, .slice none 0 0] 39) = wv60 at hS hC hcl ho ⊢
      generalize wv58.heap.size = g at hcl hgg hne ⊢
      have hcF := hcl.fill [.int .i64 3, .int .i64 B, .slice ax M cx] rfl
      have hgF := hS.fill (show w.heap.size ≤ g from hgg.2) [.int .i64 3, .int .i64 B, .slice ax M cx] 0
      have hCF := hC.fillOther (s := g) (by omega) [.int .i64 3, .int .i64 B, .slice ax M cx] 0
      have hoF := ho.fill hne [.int .i64 3, .int .i64 B, .slice ax M cx] 0
      simp only [fillC, Nat.reduceAdd] at hcF hgF hCF hoF
      obtain ⟨⟨y0, y1, y2⟩, u0, u1, u2⟩ := hcl.three
      refine next_at 13 rfl (by kernel_rfl) (by rfl) (fun K hK => ?_)
      go_simp
      refine hK _ _ hgF ?_
      clear hK K
      clear y0 y1 y2 u0 u1 u2
      refine wpAnyH_done (by kernel_rfl) ?_ _
      refine qz_normal ⟨rfl, g, ax, cx, ?_, hgF, hoF, hcF, hCF, hgg.1⟩
      first | with_reducible rfl | exact rfl
    · skip
      go_simp
      have hcl := CL.new wx [.int .i64 0, .int .i64 0, .slice none 0 0] 39 _ rfl
      have hg := Gr.alloc (Gr.refl wx) (.cells #[.int .i64 0, .int .i64 0, .slice none 0 0] 39)
      have hgg : g0 < wx.heap.size ∧ w.heap.size ≤ wx.heap.size := ⟨hC.lt, Gr.size hS⟩
      refine hK _ _ (hS.step hg) ?_
      replace hS := hS.step hg
      replace hC := hC.gr hg
      clear hK K hg
      generalize wx.alloc (.cells #[.int .i64 0, .int .i64 0, .slice none 0 0] 39) = wv61 at hS hC hcl ⊢
      generalize wx.heap.size = g at hcl hgg ⊢
      refine next_at 10 rfl (by kernel_rfl) (by rfl) (fun K hK => ?_)
      refine oper_app (base := wv61.heap.size) (l := []) (m := l.drop 8) (.const (.slice none 0 0)) (.tmp 40) rfl rfl (OwB.nil _ _) rfl (HT.out.gr hS) (by have := HTL.out; simp only [List.length_nil]; omega) (Nat.le_refl _) ?_
      intro vx wv62 ho gx
      have hg : Gr wv61 wv62 := Gr.grownNew (Gr.refl _) gx (fun _ h => by cases h)
      rw [List.nil_append] at ho
      have hne0 : ∀ k, vx.ownBlock = some k → k ≠ g := fun k hk => by have := ho.above k hk; have := hcl.lt; omega
      replace hcl := hcl.gr hg
      replace ho := ho.base (b := g0 + 1) (by have := hC.lt; omega)
      replace hS := hS.step hg
      replace hC := hC.gr hg
      obtain ⟨ax, cx, rfl, -, -⟩ := ho.rb.form
      rw [HML.out] at ho ⊢
      rw [HML.out] at hne0
      have hne := hne0
      refine hK _ _ hS ?_
      simp only [Act.put, List.setIfInBounds_toArray, List.set_cons_zero, List.set_cons_succ]
      clear hK K gx hg
      refine take_at 11 (some 42) (v := ?vn3z6311) rfl rfl (by kernel_rfl) (by kernel_rfl) (by kernel_rfl) (by rfl) ?yn3z6311 hS ?tn3z6311
      case yn3z6311 =>
        intro w' hSw
        skip
        go_simp
        (try rw [if_pos (by omega)])
        (try rw [← HAQ.out])
        (try with_reducible rfl)
      simp only [Act.put, List.setIfInBounds_toArray, List.set_cons_zero, List.set_cons_succ]
      have hcF := hcl.fill [.int .i64 3, .int .i64 B, .slice ax M cx] rfl
      have hgF := hS.fill (show w.heap.size ≤ g from hgg.2) [.int .i64 3, .int .i64 B, .slice ax M cx] 0
      have hCF := hC.fillOther (s := g) (by omega) [.int .i64 3, .int .i64 B, .slice ax M cx] 0
      have hoF := ho.fill hne [.int .i64 3, .int .i64 B, .slice ax M cx] 0
      simp only [fillC, Nat.reduceAdd] at hcF hgF hCF hoF
      obtain ⟨⟨y0, y1, y2⟩, u0, u1, u2⟩ := hcl.three
      refine next_at 13 rfl (by kernel_rfl) (by rfl) (fun K hK => ?_)
      go_simp
      refine hK _ _ hgF ?_
      clear hK K
      clear y0 y1 y2 u0 u1 u2
      refine wpAnyH_done (by kernel_rfl) ?_ _
      refine qz_normal ⟨rfl, g, ax, cx, ?_, hgF, hoF, hcF, hCF, hgg.1⟩
      first | with_reducible rfl | exact rfl
  case kn3 =>
    clear hS hC
    intro g ax cx wr ⟨hS, ho, hcl, hC, hgg⟩
    obtain ⟨⟨x0, x1, x2⟩, f0, f1, f2⟩ := hcl.three
    go_wp2_with fail
    refine (rnote_ok 3 B wr ho.rb (by omega) hB (by rw [HML.out, HMM.out]; omega) (by rw [HML.out]; omega)).mono ?_
    rintro e we ⟨ve, rfl, hve, hg⟩
    replace hS := hS.step hg
    replace ho := ho.gr hg
    replace hcl := hcl.gr hg
    replace hC := hC.gr hg
    rw [HRE.out] at hve
    have HQ := Lib.hid (rweq_c we hve.rb (HR.out.gr hS) (by rw [HRL.out]; omega) (by rw [← HL.out]; omega) cc hcc)
    obtain ⟨ae, ce, rfl, -, -⟩ := hve.rb.form
    rw [HRL.out] at HQ ⊢
    clear hve hg hcc x0 x1 x2 f0 f1 f2
    go_wp2_with fail
    refine HQ.out.mono ?_
    rintro e wf ⟨rfl, hg⟩
    replace hS := hS.step hg
    replace ho := ho.gr hg
    replace hcl := hcl.gr hg
    replace hC := hC.gr hg
    clear hg HQ
    cases cc with
    | false =>
      have HE := Lib.hid (HCF.out rfl)
      obtain ⟨⟨y0, y1, y2⟩, u0, u1, u2⟩ := hC.three
      have hcF := hC.fill [.int .i64 0, .int .i64 0, .slice none 0 0] rfl
      have hgF := hS.fill hle [.int .i64 0, .int .i64 0, .slice none 0 0] 0
      simp only [fillC, Nat.reduceAdd] at hcF hgF
      go_wp2_with fail
      clear y0 y1 y2 u0 u1 u2
      generalize (((wf.setCell ⟨g0, 0, none⟩ (.int .i64 0)).setCell ⟨g0, 1, none⟩ (.int .i64 0)).setCell ⟨g0, 2, none⟩ (.slice none 0 0)) = wF at hcF hgF ⊢
      obtain ⟨⟨c0, c1, c2⟩, -⟩ := hcF.three
      exact bodyPost_ret (v := .tuple #[.agg #[.int .i64 0, .int .i64 0, .slice none 0 0], .int .i64 4]) (by simp [results, Try.results52, go_sem, c0, c1, c2]) rfl (.inr ⟨HE.out, rfl, hgF⟩)
    | true =>
      have HE := Lib.hid (HCT.out rfl)
      have hne : ∀ k, (Value.slice ax M cx).ownBlock = some k → k ≠ g0 := fun k hk => by have := ho.above k hk; omega
      replace ho := ho.base (b := w.heap.size) (by omega)
      obtain ⟨⟨y0, y1, y2⟩, u0, u1, u2⟩ := hC.three
      obtain ⟨⟨x0, x1, x2⟩, f0, f1, f2⟩ := hcl.three
      have hcF := hC.fill [.int .i64 3, .int .i64 B, .slice ax M cx] rfl
      have hgF := hS.fill hle [.int .i64 3, .int .i64 B, .slice ax M cx] 0
      have hoF := ho.fill hne [.int .i64 3, .int .i64 B, .slice ax M cx] 0
      simp only [fillC, Nat.reduceAdd] at hcF hgF hoF
      go_wp2_with fail
      clear y0 y1 y2 u0 u1 u2 x0 x1 x2 f0 f1 f2
      generalize (((wf.setCell ⟨g0, 0, none⟩ (.int .i64 3)).setCell ⟨g0, 1, none⟩ (.int .i64 B)).setCell ⟨g0, 2, none⟩ (.slice ax M cx)) = wF at hcF hgF hoF ⊢
      obtain ⟨⟨c0, c1, c2⟩, -⟩ := hcF.three
      exact bodyPost_ret (v := .tuple #[.agg #[.int .i64 3, .int .i64 B, .slice ax M cx], .int .i64 0]) (by simp [results, Try.results52, go_sem, c0, c1, c2]) rfl (.inl ⟨HE.out, _, rfl, hoF, hgF⟩)
set_option maxHeartbeats 1000000 in
theorem rdnote_late11 {p : Nat → Prop} {v : Value} {l : List Nat} (w : World) (hr : Rb p w v l) (hlen : 36 ≤ l.length) (hl : l.length ≤ 1480) (ht : gN l 0 1 = 11) (h4 : gN l 4 4 = 0) :
    Calls Try.prog 52 #[v] w (fun e w' => (vE (s0) 2 l = 0 ∧ ∃ v', e = .returned (.tuple #[.agg #[.int .i64 11, .int .i64 (gN l 1 1 : Nat), v'], .int .i64 0]) ∧ OwB w.heap.size w' v' (l.drop 8) ∧ Gr w w') ∨ (vE (s0) 2 l = 4 ∧ e = .returned (.tuple #[.agg #[.int .i64 0, .int .i64 0, .slice none 0 0], .int .i64 4]) ∧ Gr w w')) := by
  have HR := Lib.hid hr
  have hlt := hr.bytes
  obtain ⟨av, cap, rfl, hcap, hmx⟩ := hr.form
  obtain ⟨bk, off, rfl, -, -⟩ := hr.at' (i := 0) (by omega)
  obtain ⟨L, hL⟩ : ∃ L, L = l.length := ⟨_, rfl⟩
  have HL := Lib.hid hL
  rw [← hL] at HR hl hcap hlen ⊢
  clear hL hr
  have hC := CL.new w [.int .i64 0, .int .i64 0, .slice none 0 0] 39 _ rfl
  have hS := Gr.alloc (Gr.refl w) (.cells #[.int .i64 0, .int .i64 0, .slice none 0 0] 39)
  obtain ⟨bz0, oz0, ez0, -, hz0⟩ := HR.out.at' (i := 0) (by rw [← HL.out]; omega)
  cases ez0
  rw [← gN_oneK (show 0 < l.length by rw [← HL.out]; omega)] at hz0
  rw [Nat.add_zero] at hz0
  obtain ⟨bz1, oz1, ez1, -, hz1⟩ := HR.out.at' (i := 1) (by rw [← HL.out]; omega)
  cases ez1
  rw [← gN_oneK (show 1 < l.length by rw [← HL.out]; omega)] at hz1
  have d1 : decide ((L : Int) < 36) = false := by rw [decide_eq_false_iff_not]; omega
  have d2 : decide ((1480 : Int) < (L : Int)) = false := by rw [decide_eq_false_iff_not]; omega
  obtain ⟨M, hMM⟩ : ∃ M, M = L - 8 := ⟨_, rfl⟩
  have hM2 : M ≤ 1472 := by omega
  have HMM := Lib.hid hMM
  clear hMM
  have HT := Lib.hid (HR.out.tail (k := 8) (by rw [← HL.out]; omega))
  have HG4 := Lib.hid (fun W (g : Gr w W) => rat_any 4 4 W (HR.out.gr g) (by omega) (by omega) (by rw [← HL.out]; omega) (by rw [← HL.out]; omega))
  have hB : gN l 1 1 < 256 := gN_lt hlt 1 1
  have HRE0 := note_re hlt (by rw [← HL.out]; omega) h4
  rw [ht] at hz0 HRE0
  rw [h4] at HG4
  have hcases : (vE (s0) 2 l = 0 ∧ l = msg (s0) (l.take 2) (l.drop 4)) ∨ (vE (s0) 2 l = 4 ∧ ¬ l = msg (s0) (l.take 2) (l.drop 4)) := by
    by_cases h : l = msg (s0) (l.take 2) (l.drop 4)
    · exact .inl ⟨vE_ok (by rw [← HL.out]; omega) h, h⟩
    · exact .inr ⟨vE_bad (by rw [← HL.out]; omega) h, h⟩
  obtain ⟨cc, hcc0⟩ : ∃ cc, cc = decide (msg (s0) (l.take 2) (l.drop 4) = l) := ⟨_, rfl⟩
  have HCF : Hid (cc = false → vE (s0) 2 l = 4) := Lib.hid (fun h => by
    rcases hcases with ⟨_, h2⟩ | ⟨h1, _⟩
    · rw [hcc0, decide_eq_false_iff_not] at h; exact absurd h2.symm h
    · exact h1)
  have HCT : Hid (cc = true → vE (s0) 2 l = 0) := Lib.hid (fun h => by
    rcases hcases with ⟨h1, _⟩ | ⟨_, h2⟩
    · exact h1
    · rw [hcc0, decide_eq_true_eq] at h; exact absurd h.symm h2)
  have HRL : Hid ((msg (s0) (l.take 2) (l.drop 4)).length = L) := Lib.hid (by rw [msg_len, List.length_take, List.length_drop, ← HL.out]; omega)
  have HRE := Lib.hid HRE0
  have hcc := hcc0
  clear hcases HRE0 hcc0 hlt
  clear ht h4
  generalize msg s0 (l.take 2) (l.drop 4) = LM at *
  generalize gN l 1 1 = B at *
  generalize vE s0 2 l = V at *
  have wB : IntKind.i64.wrap (B : Int) = (B : Int) := by rw [IntWalk.i64_in _ (by omega)]
  go_enter Try.func52, Try.ntmps52
  go_upto_region 1 with fail
  have hle : w.heap.size ≤ w.heap.size := Nat.le_refl _
  generalize w.alloc (.cells #[.int .i64 0, .int .i64 0, .slice none 0 0] 39) = ww at hC hS ⊢
  generalize hg0 : w.heap.size = g0 at hC ⊢
  replace hle : w.heap.size ≤ g0 := by omega
  clear hg0
  have hq0 := cell_gr hS hz0
  obtain ⟨⟨y0, y1, y2⟩, u0, u1, u2⟩ := hC.three
  go_wp2_with fail
  refine (HG4.out _ hS).mono ?_
  rintro e wj ⟨rfl, rfl⟩
  go_wp2_with fail
  clear hq0
  have HML : Hid ((l.drop 8).length = M) := Lib.hid (by rw [HMM.out, List.length_drop, ← HL.out])
  have HTL := Lib.hid (show (l.drop 8).length ≤ 30000 by rw [HML.out]; omega)
  clear y0 y1 y2 u0 u1 u2
  obtain ⟨aq, haq⟩ : ∃ aq, aq = (if cap = 8 then some (⟨bk, off, none⟩ : Addr) else some ⟨bk, off + 8, none⟩) := ⟨_, rfl⟩
  rw [← haq] at HT
  have HAQ := Lib.hid haq
  clear haq
  refine region_cut3 ?aFn11 (fun g ax cx W => Gr w W ∧ OwB (g0 + 1) W (.slice ax M cx) (l.drop 8) ∧ CL W g [.int .i64 11, .int .i64 B, .slice ax M cx] ∧ CL W g0 [.int .i64 0, .int .i64 0, .slice none 0 0] ∧ g0 < g) ?hn11 ?kn11
  case hn11 =>
    replace hS := hS.step (Gr.drew (Gr.refl ww))
    replace hC := hC.gr (Gr.drew (Gr.refl ww))
    refine region_plain (Gr w) (by kernel_rfl) ?_
    generalize ww.drew = wx at hS hC ⊢
    refine take_at 0 (some 31) (v := ?vn110) rfl rfl (by kernel_rfl) (by kernel_rfl) (by kernel_rfl) (by rfl) ?yn110 hS ?tn110
    case yn110 =>
      intro w' hSw
      skip
      go_simp
      (try rw [if_pos (by omega)])
      (try rw [← HAQ.out])
      (try with_reducible rfl)
    simp only [Act.put, List.setIfInBounds_toArray, List.set_cons_zero, List.set_cons_succ]
    refine take_at 1 (some 32) (v := ?vn111) rfl rfl (by kernel_rfl) (by kernel_rfl) (by kernel_rfl) (by rfl) ?yn111 hS ?tn111
    case yn111 =>
      intro w' hSw
      skip
      go_simp
      (try rw [if_pos (by omega)])
      (try rw [← HAQ.out])
      (try with_reducible rfl)
    simp only [Act.put, List.setIfInBounds_toArray, List.set_cons_zero, List.set_cons_succ]
    refine take_at 2 (some 33) (v := ?vn112) rfl rfl (by kernel_rfl) (by kernel_rfl) (by kernel_rfl) (by rfl) ?yn112 hS ?tn112
    case yn112 =>
      intro w' hSw
      have hq := cell_gr hSw hz0
      go_simp
      (try rw [if_pos (by omega)])
      (try rw [← HAQ.out])
      (try with_reducible rfl)
    simp only [Act.put, List.setIfInBounds_toArray, List.set_cons_zero, List.set_cons_succ]
    refine take_at 3 (some 34) (v := ?vn113) rfl rfl (by kernel_rfl) (by kernel_rfl) (by kernel_rfl) (by rfl) ?yn113 hS ?tn113
    case yn113 =>
      intro w' hSw
      skip
      go_simp
      (try rw [if_pos (by omega)])
      (try rw [← HAQ.out])
      (try with_reducible rfl)
    simp only [Act.put, List.setIfInBounds_toArray, List.set_cons_zero, List.set_cons_succ]
    refine take_at 4 (some 35) (v := ?vn114) rfl rfl (by kernel_rfl) (by kernel_rfl) (by kernel_rfl) (by rfl) ?yn114 hS ?tn114
    case yn114 =>
      intro w' hSw
      skip
      go_simp
      (try rw [if_pos (by omega)])
      (try rw [← HAQ.out])
      (try with_reducible rfl)
    simp only [Act.put, List.setIfInBounds_toArray, List.set_cons_zero, List.set_cons_succ]
    refine take_at 5 (some 36) (v := ?vn115) rfl rfl (by kernel_rfl) (by kernel_rfl) (by kernel_rfl) (by rfl) ?yn115 hS ?tn115
    case yn115 =>
      intro w' hSw
      skip
      go_simp
      (try rw [if_pos (by omega)])
      (try rw [← HAQ.out])
      (try with_reducible rfl)
    simp only [Act.put, List.setIfInBounds_toArray, List.set_cons_zero, List.set_cons_succ]
    refine take_at 6 (some 37) (v := ?vn116) rfl rfl (by kernel_rfl) (by kernel_rfl) (by kernel_rfl) (by rfl) ?yn116 hS ?tn116
    case yn116 =>
      intro w' hSw
      have hq := cell_gr hSw hz1
      go_simp
      (try rw [if_pos (by omega)])
      (try rw [← HAQ.out])
      (try with_reducible rfl)
    simp only [Act.put, List.setIfInBounds_toArray, List.set_cons_zero, List.set_cons_succ]
    refine take_at 7 (some 38) (v := ?vn117) rfl rfl (by kernel_rfl) (by kernel_rfl) (by kernel_rfl) (by rfl) ?yn117 hS ?tn117
    case yn117 =>
      intro w' hSw
      skip
      go_simp
      (try rw [if_pos (by omega)])
      (try rw [← HAQ.out])
      (try with_reducible rfl)
    simp only [Act.put, List.setIfInBounds_toArray, List.set_cons_zero, List.set_cons_succ]
    refine take_at 8 (some 39) (v := ?vn118) rfl rfl (by kernel_rfl) (by kernel_rfl) (by kernel_rfl) (by rfl) ?yn118 hS ?tn118
    case yn118 =>
      intro w' hSw
      skip
      go_simp
      (try rw [if_pos (by omega)])
      (try rw [← HAQ.out])
      (try with_reducible rfl)
    simp only [Act.put, List.setIfInBounds_toArray, List.set_cons_zero, List.set_cons_succ]
    refine take_at 9 (some 40) (v := .slice aq (L - 8) (cap - 8)) rfl rfl (by kernel_rfl) (by kernel_rfl) (by kernel_rfl) (by rfl) ?yn119 hS ?tn119
    case yn119 =>
      intro w' hSw
      rw [HAQ.out]
      go_simp
      (try rw [if_pos (by omega)])
      (try (intro hcon; exact absurd hcon (by omega)))
      (try with_reducible rfl)
    simp only [Act.put, List.setIfInBounds_toArray, List.set_cons_zero, List.set_cons_succ]
    refine next_two 10 12 rfl rfl (by kernel_rfl) (by rfl) (by rfl) (fun K hK => ?_) (fun K hK => ?_)
    · skip
      refine oper_app (base := wx.heap.size) (l := []) (m := l.drop 8) (.const (.slice none 0 0)) (.tmp 40) rfl rfl (OwB.nil _ _) rfl (HT.out.gr hS) (by have := HTL.out; simp only [List.length_nil]; omega) (Nat.le_refl _) ?_
      intro vx wv64 ho gx
      have hg : Gr wx wv64 := Gr.grownNew (Gr.refl _) gx (fun _ h => by cases h)
      rw [List.nil_append] at ho
      replace ho := ho.base (b := g0 + 1) (by have := hC.lt; omega)
      replace hS := hS.step hg
      replace hC := hC.gr hg
      obtain ⟨ax, cx, rfl, -, -⟩ := ho.rb.form
      rw [HML.out] at ho ⊢
      refine hK _ _ hS ?_
      simp only [Act.put, List.setIfInBounds_toArray, List.set_cons_zero, List.set_cons_succ]
      clear hK K gx hg
      refine take_at 11 (some 42) (v := ?vn11z6511) rfl rfl (by kernel_rfl) (by kernel_rfl) (by kernel_rfl) (by rfl) ?yn11z6511 hS ?tn11z6511
      case yn11z6511 =>
        intro w' hSw
        skip
        go_simp
        (try rw [if_pos (by omega)])
        (try rw [← HAQ.out])
        (try with_reducible rfl)
      simp only [Act.put, List.setIfInBounds_toArray, List.set_cons_zero, List.set_cons_succ]
      refine next_at 12 rfl (by kernel_rfl) (by rfl) (fun K hK => ?_)
      go_simp
      have hcl := CL.new wv64 [.int .i64 0, .int .i64 0, .slice none 0 0] 39 _ rfl
      have hg := Gr.alloc (Gr.refl wv64) (.cells #[.int .i64 0, .int .i64 0, .slice none 0 0] 39)
      have hgg : g0 < wv64.heap.size ∧ w.heap.size ≤ wv64.heap.size := ⟨hC.lt, Gr.size hS⟩
      have hne : ∀ k, (Value.slice ax M cx).ownBlock = some k → k ≠ wv64.heap.size := fun k hk => by have := ho.under k hk; omega
      replace ho := ho.gr hg
      refine hK _ _ (hS.step hg) ?_
      replace hS := hS.step hg
      replace hC := hC.gr hg
      clear hK K hg
      generalize wv64.alloc (.cells #[.int .i64 0, .int .i64 0, .slice none 0 0] 39) = wv66 at hS hC hcl ho ⊢
      generalize wv64.heap.size = g at hcl hgg hne ⊢
      have hcF := hcl.fill [.int .i64 11, .int .i64 B, .slice ax M cx] rfl
      have hgF := hS.fill (show w.heap.size ≤ g from hgg.2) [.int .i64 11, .int .i64 B, .slice ax M cx] 0
      have hCF := hC.fillOther (s := g) (by omega) [.int .i64 11, .int .i64 B, .slice ax M cx] 0
      have hoF := ho.fill hne [.int .i64 11, .int .i64 B, .slice ax M cx] 0
      simp only [fillC, Nat.reduceAdd] at hcF hgF hCF hoF
      obtain ⟨⟨y0, y1, y2⟩, u0, u1, u2⟩ := hcl.three
      refine next_at 13 rfl (by kernel_rfl) (by rfl) (fun K hK => ?_)
      go_simp
      refine hK _ _ hgF ?_
      clear hK K
      clear y0 y1 y2 u0 u1 u2
      refine wpAnyH_done (by kernel_rfl) ?_ _
      refine qz_normal ⟨rfl, g, ax, cx, ?_, hgF, hoF, hcF, hCF, hgg.1⟩
      first | with_reducible rfl | exact rfl
    · skip
      go_simp
      have hcl := CL.new wx [.int .i64 0, .int .i64 0, .slice none 0 0] 39 _ rfl
      have hg := Gr.alloc (Gr.refl wx) (.cells #[.int .i64 0, .int .i64 0, .slice none 0 0] 39)
      have hgg : g0 < wx.heap.size ∧ w.heap.size ≤ wx.heap.size := ⟨hC.lt, Gr.size hS⟩
      refine hK _ _ (hS.step hg) ?_
      replace hS := hS.step hg
      replace hC := hC.gr hg
      clear hK K hg
      generalize wx.alloc (.cells #[.int .i64 0, .int .i64 0, .slice none 0 0] 39) = wv67 at hS hC hcl ⊢
      generalize wx.heap.size = g at hcl hgg ⊢
      refine next_at 10 rfl (by kernel_rfl) (by rfl) (fun K hK => ?_)
      refine oper_app (base := wv67.heap.size) (l := []) (m := l.drop 8) (.const (.slice none 0 0)) (.tmp 40) rfl rfl (OwB.nil _ _) rfl (HT.out.gr hS) (by have := HTL.out; simp only [List.length_nil]; omega) (Nat.le_refl _) ?_
      intro vx wv68 ho gx
      have hg : Gr wv67 wv68 := Gr.grownNew (Gr.refl _) gx (fun _ h => by cases h)
      rw [List.nil_append] at ho
      have hne0 : ∀ k, vx.ownBlock = some k → k ≠ g := fun k hk => by have := ho.above k hk; have := hcl.lt; omega
      replace hcl := hcl.gr hg
      replace ho := ho.base (b := g0 + 1) (by have := hC.lt; omega)
      replace hS := hS.step hg
      replace hC := hC.gr hg
      obtain ⟨ax, cx, rfl, -, -⟩ := ho.rb.form
      rw [HML.out] at ho ⊢
      rw [HML.out] at hne0
      have hne := hne0
      refine hK _ _ hS ?_
      simp only [Act.put, List.setIfInBounds_toArray, List.set_cons_zero, List.set_cons_succ]
      clear hK K gx hg
      refine take_at 11 (some 42) (v := ?vn11z6911) rfl rfl (by kernel_rfl) (by kernel_rfl) (by kernel_rfl) (by rfl) ?yn11z6911 hS ?tn11z6911
      case yn11z6911 =>
        intro w' hSw
        skip
        go_simp
        (try rw [if_pos (by omega)])
        (try rw [← HAQ.out])
        (try with_reducible rfl)
      simp only [Act.put, List.setIfInBounds_toArray, List.set_cons_zero, List.set_cons_succ]
      have hcF := hcl.fill [.int .i64 11, .int .i64 B, .slice ax M cx] rfl
      have hgF := hS.fill (show w.heap.size ≤ g from hgg.2) [.int .i64 11, .int .i64 B, .slice ax M cx] 0
      have hCF := hC.fillOther (s := g) (by omega) [.int .i64 11, .int .i64 B, .slice ax M cx] 0
      have hoF := ho.fill hne [.int .i64 11, .int .i64 B, .slice ax M cx] 0
      simp only [fillC, Nat.reduceAdd] at hcF hgF hCF hoF
      obtain ⟨⟨y0, y1, y2⟩, u0, u1, u2⟩ := hcl.three
      refine next_at 13 rfl (by kernel_rfl) (by rfl) (fun K hK => ?_)
      go_simp
      refine hK _ _ hgF ?_
      clear hK K
      clear y0 y1 y2 u0 u1 u2
      refine wpAnyH_done (by kernel_rfl) ?_ _
      refine qz_normal ⟨rfl, g, ax, cx, ?_, hgF, hoF, hcF, hCF, hgg.1⟩
      first | with_reducible rfl | exact rfl
  case kn11 =>
    clear hS hC
    intro g ax cx wr ⟨hS, ho, hcl, hC, hgg⟩
    obtain ⟨⟨x0, x1, x2⟩, f0, f1, f2⟩ := hcl.three
    go_wp2_with fail
    refine (rnote_ok 11 B wr ho.rb (by omega) hB (by rw [HML.out, HMM.out]; omega) (by rw [HML.out]; omega)).mono ?_
    rintro e we ⟨ve, rfl, hve, hg⟩
    replace hS := hS.step hg
    replace ho := ho.gr hg
    replace hcl := hcl.gr hg
    replace hC := hC.gr hg
    rw [HRE.out] at hve
    have HQ := Lib.hid (rweq_c we hve.rb (HR.out.gr hS) (by rw [HRL.out]; omega) (by rw [← HL.out]; omega) cc hcc)
    obtain ⟨ae, ce, rfl, -, -⟩ := hve.rb.form
    rw [HRL.out] at HQ ⊢
    clear hve hg hcc x0 x1 x2 f0 f1 f2
    go_wp2_with fail
    refine HQ.out.mono ?_
    rintro e wf ⟨rfl, hg⟩
    replace hS := hS.step hg
    replace ho := ho.gr hg
    replace hcl := hcl.gr hg
    replace hC := hC.gr hg
    clear hg HQ
    cases cc with
    | false =>
      have HE := Lib.hid (HCF.out rfl)
      obtain ⟨⟨y0, y1, y2⟩, u0, u1, u2⟩ := hC.three
      have hcF := hC.fill [.int .i64 0, .int .i64 0, .slice none 0 0] rfl
      have hgF := hS.fill hle [.int .i64 0, .int .i64 0, .slice none 0 0] 0
      simp only [fillC, Nat.reduceAdd] at hcF hgF
      go_wp2_with fail
      clear y0 y1 y2 u0 u1 u2
      generalize (((wf.setCell ⟨g0, 0, none⟩ (.int .i64 0)).setCell ⟨g0, 1, none⟩ (.int .i64 0)).setCell ⟨g0, 2, none⟩ (.slice none 0 0)) = wF at hcF hgF ⊢
      obtain ⟨⟨c0, c1, c2⟩, -⟩ := hcF.three
      exact bodyPost_ret (v := .tuple #[.agg #[.int .i64 0, .int .i64 0, .slice none 0 0], .int .i64 4]) (by simp [results, Try.results52, go_sem, c0, c1, c2]) rfl (.inr ⟨HE.out, rfl, hgF⟩)
    | true =>
      have HE := Lib.hid (HCT.out rfl)
      have hne : ∀ k, (Value.slice ax M cx).ownBlock = some k → k ≠ g0 := fun k hk => by have := ho.above k hk; omega
      replace ho := ho.base (b := w.heap.size) (by omega)
      obtain ⟨⟨y0, y1, y2⟩, u0, u1, u2⟩ := hC.three
      obtain ⟨⟨x0, x1, x2⟩, f0, f1, f2⟩ := hcl.three
      have hcF := hC.fill [.int .i64 11, .int .i64 B, .slice ax M cx] rfl
      have hgF := hS.fill hle [.int .i64 11, .int .i64 B, .slice ax M cx] 0
      have hoF := ho.fill hne [.int .i64 11, .int .i64 B, .slice ax M cx] 0
      simp only [fillC, Nat.reduceAdd] at hcF hgF hoF
      go_wp2_with fail
      clear y0 y1 y2 u0 u1 u2 x0 x1 x2 f0 f1 f2
      generalize (((wf.setCell ⟨g0, 0, none⟩ (.int .i64 11)).setCell ⟨g0, 1, none⟩ (.int .i64 B)).setCell ⟨g0, 2, none⟩ (.slice ax M cx)) = wF at hcF hgF hoF ⊢
      obtain ⟨⟨c0, c1, c2⟩, -⟩ := hcF.three
      exact bodyPost_ret (v := .tuple #[.agg #[.int .i64 11, .int .i64 B, .slice ax M cx], .int .i64 0]) (by simp [results, Try.results52, go_sem, c0, c1, c2]) rfl (.inl ⟨HE.out, _, rfl, hoF, hgF⟩)
end Go.Proofs.Ytlkhdbgknkjioaa
