/- Several texts in one. -/
import Derived.Test.YtkpejaiigopmgaaGreatDoorGR
import Derived.WalkKit
import Derived.WalkSpells
import Derived.WalkLawsBesides
import Derived.WalkSmall
import Derived.Handy
import Derived.BigQuiet
import Derived.Deep.QuietTactic
import Derived.Deep.RegionHeld3
import Derived.Deep.DeepFit
import Derived.Below
import Derived.Lib.Hide
import Derived.Lib.QuietBelow
import Derived.Deep.DeepCutAuto
/- The document decodes datagrams. -/
namespace Go.Proofs.YtkpejaiigopmgaaGreatDoor
open Go Go.RowKit Go.Sort
set_option maxRecDepth 100000
set_option linter.unusedVariables false
set_option linter.unusedSimpArgs false
set_option linter.unusedVariables false
set_option maxHeartbeats 1000000 in
theorem rdudp_late {p : Nat → Prop} {v : Value} {l : List Nat} (src dst : Nat) (w : World) (hr : Rb p w v l) (hsr : src < 4294967296) (hds : dst < 4294967296) (hlen : 8 ≤ l.length) (hl : l.length ≤ 1480) (h4 : gN l 4 2 = l.length) :
    Calls Tryz.prog 40 #[.int .u32 src, .int .u32 dst, v] w (fun e w' => (vE (sU src dst) 6 l = 0 ∧ ∃ v', e = .returned (.tuple #[.agg #[.int .i64 (gN l 0 2 : Nat), .int .i64 (gN l 2 2 : Nat), v'], .int .i64 0]) ∧ OwB w.heap.size w' v' (l.drop 8) ∧ Gr w w') ∨ (vE (sU src dst) 6 l = 4 ∧ e = .returned (.tuple #[.agg #[.int .i64 0, .int .i64 0, .slice none 0 0], .int .i64 4]) ∧ Gr w w')) := by
  have HR := Lib.hid hr
  have hlt := hr.bytes
  obtain ⟨av, cap, rfl, hcap, hmx⟩ := hr.form
  obtain ⟨bk, off, rfl, -, -⟩ := hr.at' (i := 0) (by omega)
  obtain ⟨L, hL⟩ : ∃ L, L = l.length := ⟨_, rfl⟩
  have HL := Lib.hid hL
  rw [← hL] at HR hl hcap hlen h4 ⊢
  clear hL hr
  have hC := CL.new w [.int .i64 0, .int .i64 0, .slice none 0 0] 60 _ rfl
  have hS := Gr.alloc (Gr.refl w) (.cells #[.int .i64 0, .int .i64 0, .slice none 0 0] 60)
  have d1 : decide ((L : Int) < 8) = false := by rw [decide_eq_false_iff_not]; omega
  have d2 : decide ((1480 : Int) < (L : Int)) = false := by rw [decide_eq_false_iff_not]; omega
  obtain ⟨M, hMM⟩ : ∃ M, M = L - 8 := ⟨_, rfl⟩
  have hM2 : M ≤ 1472 := by omega
  have HMM := Lib.hid hMM
  clear hMM
  have HT := Lib.hid (HR.out.tail (k := 8) (by rw [← HL.out]; omega))
  have HG0 := Lib.hid (fun W (g : Gr w W) => rat_any 0 2 W (HR.out.gr g) (by omega) (by omega) (by rw [← HL.out]; omega) (by rw [← HL.out]; omega))
  have HG2 := Lib.hid (fun W (g : Gr w W) => rat_any 2 2 W (HR.out.gr g) (by omega) (by omega) (by rw [← HL.out]; omega) (by rw [← HL.out]; omega))
  have HGL := Lib.hid (fun W (g : Gr w W) => rat_any 4 2 W (HR.out.gr g) (by omega) (by omega) (by rw [← HL.out]; omega) (by rw [← HL.out]; omega))
  have hA : gN l 0 2 < 65536 := gN_lt hlt 0 2
  have hB : gN l 2 2 < 65536 := gN_lt hlt 2 2
  have HRE0 := udp_re (src := src) (dst := dst) hlt (by rw [← HL.out]; omega) (h4.trans HL.out)
  rw [h4] at HGL
  have hcases : (vE (sU src dst) 6 l = 0 ∧ l = msg (sU src dst) (l.take 6) (l.drop 8)) ∨ (vE (sU src dst) 6 l = 4 ∧ ¬ l = msg (sU src dst) (l.take 6) (l.drop 8)) := by
    by_cases h : l = msg (sU src dst) (l.take 6) (l.drop 8)
    · exact .inl ⟨vE_ok (by rw [← HL.out]; omega) h, h⟩
    · exact .inr ⟨vE_bad (by rw [← HL.out]; omega) h, h⟩
  obtain ⟨cc, hcc0⟩ : ∃ cc, cc = decide (msg (sU src dst) (l.take 6) (l.drop 8) = l) := ⟨_, rfl⟩
  have HCF : Hid (cc = false → vE (sU src dst) 6 l = 4) := Lib.hid (fun h => by
    rcases hcases with ⟨_, h2⟩ | ⟨h1, _⟩
    · rw [hcc0, decide_eq_false_iff_not] at h; exact absurd h2.symm h
    · exact h1)
  have HCT : Hid (cc = true → vE (sU src dst) 6 l = 0) := Lib.hid (fun h => by
    rcases hcases with ⟨h1, _⟩ | ⟨_, h2⟩
    · exact h1
    · rw [hcc0, decide_eq_true_eq] at h; exact absurd h.symm h2)
  have HRL : Hid ((msg (sU src dst) (l.take 6) (l.drop 8)).length = L) := Lib.hid (by rw [msg_len, List.length_take, List.length_drop, ← HL.out]; omega)
  have HRE := Lib.hid HRE0
  have hcc := hcc0
  clear hcases HRE0 hcc0 hlt
  clear h4
  generalize msg (sU src dst) (l.take 6) (l.drop 8) = LM at *
  generalize gN l 0 2 = A at *
  generalize gN l 2 2 = B at *
  generalize vE (sU src dst) 6 l = V at *
  go_enter Tryz.func40, Tryz.ntmps40
  go_upto_region 1 with fail
  have hle : w.heap.size ≤ w.heap.size := Nat.le_refl _
  generalize w.alloc (.cells #[.int .i64 0, .int .i64 0, .slice none 0 0] 60) = ww at hC hS ⊢
  generalize hg0 : w.heap.size = g0 at hC ⊢
  replace hle : w.heap.size ≤ g0 := by omega
  clear hg0
  go_wp2_with fail
  refine (HGL.out _ hS).mono ?_
  rintro e wj ⟨rfl, rfl⟩
  clear HGL
  obtain ⟨⟨y0, y1, y2⟩, u0, u1, u2⟩ := hC.three
  go_wp2_with fail
  have HML : Hid ((l.drop 8).length = M) := Lib.hid (by rw [HMM.out, List.length_drop, ← HL.out])
  have HTL := Lib.hid (show (l.drop 8).length ≤ 30000 by rw [HML.out]; omega)
  clear y0 y1 y2 u0 u1 u2
  obtain ⟨aq, haq⟩ : ∃ aq, aq = (if cap = 8 then some (⟨bk, off, none⟩ : Addr) else some ⟨bk, off + 8, none⟩) := ⟨_, rfl⟩
  rw [← haq] at HT
  have HAQ := Lib.hid haq
  clear haq
  refine region_cut3 ?aFu (fun g ax cx W => Gr w W ∧ OwB (g0 + 1) W (.slice ax M cx) (l.drop 8) ∧ CL W g [.int .i64 A, .int .i64 B, .slice ax M cx] ∧ CL W g0 [.int .i64 0, .int .i64 0, .slice none 0 0] ∧ g0 < g) ?hu ?ku
  case hu =>
    replace hS := hS.step (Gr.drew (Gr.refl ww))
    replace hC := hC.gr (Gr.drew (Gr.refl ww))
    refine region_plain (Gr w) (by kernel_rfl) ?_
    generalize ww.drew = wx at hS hC ⊢
    refine take_at 0 (some 25) (v := ?vu0) rfl rfl (by kernel_rfl) (by kernel_rfl) (by kernel_rfl) (by rfl) ?yu0 hS ?tu0
    case yu0 =>
      intro w' hSw
      skip
      go_simp
      (try rw [if_pos (by omega)])
      (try rw [← HAQ.out])
      (try with_reducible rfl)
    simp only [Act.put, List.setIfInBounds_toArray, List.set_cons_zero, List.set_cons_succ]
    refine take_at 2 (some 27) (v := ?vu2) rfl rfl (by kernel_rfl) (by kernel_rfl) (by kernel_rfl) (by rfl) ?yu2 hS ?tu2
    case yu2 =>
      intro w' hSw
      skip
      go_simp
      (try rw [if_pos (by omega)])
      (try rw [← HAQ.out])
      (try with_reducible rfl)
    simp only [Act.put, List.setIfInBounds_toArray, List.set_cons_zero, List.set_cons_succ]
    refine take_at 4 (some 29) (v := ?vu4) rfl rfl (by kernel_rfl) (by kernel_rfl) (by kernel_rfl) (by rfl) ?yu4 hS ?tu4
    case yu4 =>
      intro w' hSw
      skip
      go_simp
      (try rw [if_pos (by omega)])
      (try rw [← HAQ.out])
      (try with_reducible rfl)
    simp only [Act.put, List.setIfInBounds_toArray, List.set_cons_zero, List.set_cons_succ]
    refine take_at 5 (some 30) (v := .slice aq (L - 8) (cap - 8)) rfl rfl (by kernel_rfl) (by kernel_rfl) (by kernel_rfl) (by rfl) ?yu5 hS ?tu5
    case yu5 =>
      intro w' hSw
      rw [HAQ.out]
      go_simp
      (try rw [if_pos (by omega)])
      (try (intro hcon; exact absurd hcon (by omega)))
      (try with_reducible rfl)
    simp only [Act.put, List.setIfInBounds_toArray, List.set_cons_zero, List.set_cons_succ]
    refine next_two 1 8 rfl rfl (by kernel_rfl) (by rfl) (by rfl) (fun K hK => ?_) (fun K hK => ?_)
    · skip
      go_simp
      refine (HG0.out _ hS).mono ?_
      rintro e wj ⟨rfl, rfl⟩
      refine hK _ _ hS ?_
      clear hK K
      refine next_two 3 8 rfl rfl (by kernel_rfl) (by rfl) (by rfl) (fun K hK => ?_) (fun K hK => ?_)
      · skip
        go_simp
        refine (HG2.out _ hS).mono ?_
        rintro e wj ⟨rfl, rfl⟩
        refine hK _ _ hS ?_
        clear hK K
        refine next_two 6 8 rfl rfl (by kernel_rfl) (by rfl) (by rfl) (fun K hK => ?_) (fun K hK => ?_)
        · skip
          refine oper_app (base := wx.heap.size) (l := []) (m := l.drop 8) (.const (.slice none 0 0)) (.tmp 30) rfl rfl (OwB.nil _ _) rfl (HT.out.gr hS) (by have := HTL.out; simp only [List.length_nil]; omega) (Nat.le_refl _) ?_
          intro vx wv25 ho gx
          have hg : Gr wx wv25 := Gr.grownNew (Gr.refl _) gx (fun _ h => by cases h)
          rw [List.nil_append] at ho
          replace ho := ho.base (b := g0 + 1) (by have := hC.lt; omega)
          replace hS := hS.step hg
          replace hC := hC.gr hg
          obtain ⟨ax, cx, rfl, -, -⟩ := ho.rb.form
          rw [HML.out] at ho ⊢
          refine hK _ _ hS ?_
          simp only [Act.put, List.setIfInBounds_toArray, List.set_cons_zero, List.set_cons_succ]
          clear hK K gx hg
          refine take_at 7 (some 32) (v := ?vuz267) rfl rfl (by kernel_rfl) (by kernel_rfl) (by kernel_rfl) (by rfl) ?yuz267 hS ?tuz267
          case yuz267 =>
            intro w' hSw
            skip
            go_simp
            (try rw [if_pos (by omega)])
            (try rw [← HAQ.out])
            (try with_reducible rfl)
          simp only [Act.put, List.setIfInBounds_toArray, List.set_cons_zero, List.set_cons_succ]
          refine next_at 8 rfl (by kernel_rfl) (by rfl) (fun K hK => ?_)
          go_simp
          have hcl := CL.new wv25 [.int .i64 0, .int .i64 0, .slice none 0 0] 60 _ rfl
          have hg := Gr.alloc (Gr.refl wv25) (.cells #[.int .i64 0, .int .i64 0, .slice none 0 0] 60)
          have hgg : g0 < wv25.heap.size ∧ w.heap.size ≤ wv25.heap.size := ⟨hC.lt, Gr.size hS⟩
          have hne : ∀ k, (Value.slice ax M cx).ownBlock = some k → k ≠ wv25.heap.size := fun k hk => by have := ho.under k hk; omega
          replace ho := ho.gr hg
          refine hK _ _ (hS.step hg) ?_
          replace hS := hS.step hg
          replace hC := hC.gr hg
          clear hK K hg
          generalize wv25.alloc (.cells #[.int .i64 0, .int .i64 0, .slice none 0 0] 60) = wv27 at hS hC hcl ho ⊢
          generalize wv25.heap.size = g at hcl hgg hne ⊢
          have hcF := hcl.fill [.int .i64 A, .int .i64 B, .slice ax M cx] rfl
          have hgF := hS.fill (show w.heap.size ≤ g from hgg.2) [.int .i64 A, .int .i64 B, .slice ax M cx] 0
          have hCF := hC.fillOther (s := g) (by omega) [.int .i64 A, .int .i64 B, .slice ax M cx] 0
          have hoF := ho.fill hne [.int .i64 A, .int .i64 B, .slice ax M cx] 0
          simp only [fillC, Nat.reduceAdd] at hcF hgF hCF hoF
          obtain ⟨⟨y0, y1, y2⟩, u0, u1, u2⟩ := hcl.three
          refine next_at 9 rfl (by kernel_rfl) (by rfl) (fun K hK => ?_)
          go_simp
          refine hK _ _ hgF ?_
          clear hK K
          clear y0 y1 y2 u0 u1 u2
          refine wpAnyH_done (by kernel_rfl) ?_ _
          refine qz_normal ⟨rfl, g, ax, cx, ?_, hgF, hoF, hcF, hCF, hgg.1⟩
          first | with_reducible rfl | exact rfl
        · skip
          go_simp
          have hcl := CL.new wx [.int .i64 0, .int .i64 0, .slice none 0 0] 60 _ rfl
          have hg := Gr.alloc (Gr.refl wx) (.cells #[.int .i64 0, .int .i64 0, .slice none 0 0] 60)
          have hgg : g0 < wx.heap.size ∧ w.heap.size ≤ wx.heap.size := ⟨hC.lt, Gr.size hS⟩
          refine hK _ _ (hS.step hg) ?_
          replace hS := hS.step hg
          replace hC := hC.gr hg
          clear hK K hg
          generalize wx.alloc (.cells #[.int .i64 0, .int .i64 0, .slice none 0 0] 60) = wv28 at hS hC hcl ⊢
          generalize wx.heap.size = g at hcl hgg ⊢
          refine next_at 6 rfl (by kernel_rfl) (by rfl) (fun K hK => ?_)
          refine oper_app (base := wv28.heap.size) (l := []) (m := l.drop 8) (.const (.slice none 0 0)) (.tmp 30) rfl rfl (OwB.nil _ _) rfl (HT.out.gr hS) (by have := HTL.out; simp only [List.length_nil]; omega) (Nat.le_refl _) ?_
          intro vx wv29 ho gx
          have hg : Gr wv28 wv29 := Gr.grownNew (Gr.refl _) gx (fun _ h => by cases h)
          rw [List.nil_append] at ho
          have hne0 : ∀ k, vx.ownBlock = some k → k ≠ g := fun k hk => by have := ho.above k hk; have := hcl.lt; omega
          replace hcl := hcl.gr hg
          replace ho := ho.base (b := g0 + 1) (by have := hC.lt; omega)
          replace hS := hS.step hg
          replace hC := hC.gr hg
          obtain ⟨ax, cx, rfl, -, -⟩ := ho.rb.form
          rw [HML.out] at ho ⊢
          rw [HML.out] at hne0
          have hne := hne0
          refine hK _ _ hS ?_
          simp only [Act.put, List.setIfInBounds_toArray, List.set_cons_zero, List.set_cons_succ]
          clear hK K gx hg
          refine take_at 7 (some 32) (v := ?vuz307) rfl rfl (by kernel_rfl) (by kernel_rfl) (by kernel_rfl) (by rfl) ?yuz307 hS ?tuz307
          case yuz307 =>
            intro w' hSw
            skip
            go_simp
            (try rw [if_pos (by omega)])
            (try rw [← HAQ.out])
            (try with_reducible rfl)
          simp only [Act.put, List.setIfInBounds_toArray, List.set_cons_zero, List.set_cons_succ]
          have hcF := hcl.fill [.int .i64 A, .int .i64 B, .slice ax M cx] rfl
          have hgF := hS.fill (show w.heap.size ≤ g from hgg.2) [.int .i64 A, .int .i64 B, .slice ax M cx] 0
          have hCF := hC.fillOther (s := g) (by omega) [.int .i64 A, .int .i64 B, .slice ax M cx] 0
          have hoF := ho.fill hne [.int .i64 A, .int .i64 B, .slice ax M cx] 0
          simp only [fillC, Nat.reduceAdd] at hcF hgF hCF hoF
          obtain ⟨⟨y0, y1, y2⟩, u0, u1, u2⟩ := hcl.three
          refine next_at 9 rfl (by kernel_rfl) (by rfl) (fun K hK => ?_)
          go_simp
          refine hK _ _ hgF ?_
          clear hK K
          clear y0 y1 y2 u0 u1 u2
          refine wpAnyH_done (by kernel_rfl) ?_ _
          refine qz_normal ⟨rfl, g, ax, cx, ?_, hgF, hoF, hcF, hCF, hgg.1⟩
          first | with_reducible rfl | exact rfl
      · skip
        go_simp
        have hcl := CL.new wx [.int .i64 0, .int .i64 0, .slice none 0 0] 60 _ rfl
        have hg := Gr.alloc (Gr.refl wx) (.cells #[.int .i64 0, .int .i64 0, .slice none 0 0] 60)
        have hgg : g0 < wx.heap.size ∧ w.heap.size ≤ wx.heap.size := ⟨hC.lt, Gr.size hS⟩
        refine hK _ _ (hS.step hg) ?_
        replace hS := hS.step hg
        replace hC := hC.gr hg
        clear hK K hg
        generalize wx.alloc (.cells #[.int .i64 0, .int .i64 0, .slice none 0 0] 60) = wv31 at hS hC hcl ⊢
        generalize wx.heap.size = g at hcl hgg ⊢
        refine next_at 3 rfl (by kernel_rfl) (by rfl) (fun K hK => ?_)
        go_simp
        refine (HG2.out _ hS).mono ?_
        rintro e wj ⟨rfl, rfl⟩
        refine hK _ _ hS ?_
        clear hK K
        refine next_at 6 rfl (by kernel_rfl) (by rfl) (fun K hK => ?_)
        refine oper_app (base := wv31.heap.size) (l := []) (m := l.drop 8) (.const (.slice none 0 0)) (.tmp 30) rfl rfl (OwB.nil _ _) rfl (HT.out.gr hS) (by have := HTL.out; simp only [List.length_nil]; omega) (Nat.le_refl _) ?_
        intro vx wv32 ho gx
        have hg : Gr wv31 wv32 := Gr.grownNew (Gr.refl _) gx (fun _ h => by cases h)
        rw [List.nil_append] at ho
        have hne0 : ∀ k, vx.ownBlock = some k → k ≠ g := fun k hk => by have := ho.above k hk; have := hcl.lt; omega
        replace hcl := hcl.gr hg
        replace ho := ho.base (b := g0 + 1) (by have := hC.lt; omega)
        replace hS := hS.step hg
        replace hC := hC.gr hg
        obtain ⟨ax, cx, rfl, -, -⟩ := ho.rb.form
        rw [HML.out] at ho ⊢
        rw [HML.out] at hne0
        have hne := hne0
        refine hK _ _ hS ?_
        simp only [Act.put, List.setIfInBounds_toArray, List.set_cons_zero, List.set_cons_succ]
        clear hK K gx hg
        refine take_at 7 (some 32) (v := ?vuz337) rfl rfl (by kernel_rfl) (by kernel_rfl) (by kernel_rfl) (by rfl) ?yuz337 hS ?tuz337
        case yuz337 =>
          intro w' hSw
          skip
          go_simp
          (try rw [if_pos (by omega)])
          (try rw [← HAQ.out])
          (try with_reducible rfl)
        simp only [Act.put, List.setIfInBounds_toArray, List.set_cons_zero, List.set_cons_succ]
        have hcF := hcl.fill [.int .i64 A, .int .i64 B, .slice ax M cx] rfl
        have hgF := hS.fill (show w.heap.size ≤ g from hgg.2) [.int .i64 A, .int .i64 B, .slice ax M cx] 0
        have hCF := hC.fillOther (s := g) (by omega) [.int .i64 A, .int .i64 B, .slice ax M cx] 0
        have hoF := ho.fill hne [.int .i64 A, .int .i64 B, .slice ax M cx] 0
        simp only [fillC, Nat.reduceAdd] at hcF hgF hCF hoF
        obtain ⟨⟨y0, y1, y2⟩, u0, u1, u2⟩ := hcl.three
        refine next_at 9 rfl (by kernel_rfl) (by rfl) (fun K hK => ?_)
        go_simp
        refine hK _ _ hgF ?_
        clear hK K
        clear y0 y1 y2 u0 u1 u2
        refine wpAnyH_done (by kernel_rfl) ?_ _
        refine qz_normal ⟨rfl, g, ax, cx, ?_, hgF, hoF, hcF, hCF, hgg.1⟩
        first | with_reducible rfl | exact rfl
    · skip
      go_simp
      have hcl := CL.new wx [.int .i64 0, .int .i64 0, .slice none 0 0] 60 _ rfl
      have hg := Gr.alloc (Gr.refl wx) (.cells #[.int .i64 0, .int .i64 0, .slice none 0 0] 60)
      have hgg : g0 < wx.heap.size ∧ w.heap.size ≤ wx.heap.size := ⟨hC.lt, Gr.size hS⟩
      refine hK _ _ (hS.step hg) ?_
      replace hS := hS.step hg
      replace hC := hC.gr hg
      clear hK K hg
      generalize wx.alloc (.cells #[.int .i64 0, .int .i64 0, .slice none 0 0] 60) = wv34 at hS hC hcl ⊢
      generalize wx.heap.size = g at hcl hgg ⊢
      refine next_at 1 rfl (by kernel_rfl) (by rfl) (fun K hK => ?_)
      go_simp
      refine (HG0.out _ hS).mono ?_
      rintro e wj ⟨rfl, rfl⟩
      refine hK _ _ hS ?_
      clear hK K
      refine next_at 3 rfl (by kernel_rfl) (by rfl) (fun K hK => ?_)
      go_simp
      refine (HG2.out _ hS).mono ?_
      rintro e wj ⟨rfl, rfl⟩
      refine hK _ _ hS ?_
      clear hK K
      refine next_at 6 rfl (by kernel_rfl) (by rfl) (fun K hK => ?_)
      refine oper_app (base := wv34.heap.size) (l := []) (m := l.drop 8) (.const (.slice none 0 0)) (.tmp 30) rfl rfl (OwB.nil _ _) rfl (HT.out.gr hS) (by have := HTL.out; simp only [List.length_nil]; omega) (Nat.le_refl _) ?_
      intro vx wv35 ho gx
      have hg : Gr wv34 wv35 := Gr.grownNew (Gr.refl _) gx (fun _ h => by cases h)
      rw [List.nil_append] at ho
      have hne0 : ∀ k, vx.ownBlock = some k → k ≠ g := fun k hk => by have := ho.above k hk; have := hcl.lt; omega
      replace hcl := hcl.gr hg
      replace ho := ho.base (b := g0 + 1) (by have := hC.lt; omega)
      replace hS := hS.step hg
      replace hC := hC.gr hg
      obtain ⟨ax, cx, rfl, -, -⟩ := ho.rb.form
      rw [HML.out] at ho ⊢
      rw [HML.out] at hne0
      have hne := hne0
      refine hK _ _ hS ?_
      simp only [Act.put, List.setIfInBounds_toArray, List.set_cons_zero, List.set_cons_succ]
      clear hK K gx hg
      refine take_at 7 (some 32) (v := ?vuz367) rfl rfl (by kernel_rfl) (by kernel_rfl) (by kernel_rfl) (by rfl) ?yuz367 hS ?tuz367
      case yuz367 =>
        intro w' hSw
        skip
        go_simp
        (try rw [if_pos (by omega)])
        (try rw [← HAQ.out])
        (try with_reducible rfl)
      simp only [Act.put, List.setIfInBounds_toArray, List.set_cons_zero, List.set_cons_succ]
      have hcF := hcl.fill [.int .i64 A, .int .i64 B, .slice ax M cx] rfl
      have hgF := hS.fill (show w.heap.size ≤ g from hgg.2) [.int .i64 A, .int .i64 B, .slice ax M cx] 0
      have hCF := hC.fillOther (s := g) (by omega) [.int .i64 A, .int .i64 B, .slice ax M cx] 0
      have hoF := ho.fill hne [.int .i64 A, .int .i64 B, .slice ax M cx] 0
      simp only [fillC, Nat.reduceAdd] at hcF hgF hCF hoF
      obtain ⟨⟨y0, y1, y2⟩, u0, u1, u2⟩ := hcl.three
      refine next_at 9 rfl (by kernel_rfl) (by rfl) (fun K hK => ?_)
      go_simp
      refine hK _ _ hgF ?_
      clear hK K
      clear y0 y1 y2 u0 u1 u2
      refine wpAnyH_done (by kernel_rfl) ?_ _
      refine qz_normal ⟨rfl, g, ax, cx, ?_, hgF, hoF, hcF, hCF, hgg.1⟩
      first | with_reducible rfl | exact rfl
  case ku =>
    clear hS hC
    intro g ax cx wr ⟨hS, ho, hcl, hC, hgg⟩
    obtain ⟨⟨x0, x1, x2⟩, f0, f1, f2⟩ := hcl.three
    go_wp2_with fail
    refine (rudp_ok src dst A B wr ho.rb hsr hds hA hB (by rw [HML.out]; omega)).mono ?_
    rintro e we ⟨ve, rfl, hve, hg⟩
    replace hS := hS.step hg
    replace ho := ho.gr hg
    replace hcl := hcl.gr hg
    replace hC := hC.gr hg
    rw [HRE.out] at hve
    have HQ := Lib.hid (rweq_c we hve.rb (HR.out.gr hS) (by rw [HRL.out]; omega) (by rw [← HL.out]; omega) cc hcc)
    obtain ⟨ae, ce, rfl, -, -⟩ := hve.rb.form
    rw [HRL.out] at HQ ⊢
    clear hve hg hcc x0 x1 x2 f0 f1 f2
    go_wp2_with fail
    refine HQ.out.mono ?_
    rintro e wf ⟨rfl, hg⟩
    replace hS := hS.step hg
    replace ho := ho.gr hg
    replace hcl := hcl.gr hg
    replace hC := hC.gr hg
    clear hg HQ
    cases cc with
    | false =>
      have HE := Lib.hid (HCF.out rfl)
      obtain ⟨⟨y0, y1, y2⟩, u0, u1, u2⟩ := hC.three
      have hcF := hC.fill [.int .i64 0, .int .i64 0, .slice none 0 0] rfl
      have hgF := hS.fill hle [.int .i64 0, .int .i64 0, .slice none 0 0] 0
      simp only [fillC, Nat.reduceAdd] at hcF hgF
      go_wp2_with fail
      clear y0 y1 y2 u0 u1 u2
      generalize (((wf.setCell ⟨g0, 0, none⟩ (.int .i64 0)).setCell ⟨g0, 1, none⟩ (.int .i64 0)).setCell ⟨g0, 2, none⟩ (.slice none 0 0)) = wF at hcF hgF ⊢
      obtain ⟨⟨c0, c1, c2⟩, -⟩ := hcF.three
      exact bodyPost_ret (v := .tuple #[.agg #[.int .i64 0, .int .i64 0, .slice none 0 0], .int .i64 4]) (by simp [results, Tryz.results40, go_sem, c0, c1, c2]) rfl (.inr ⟨HE.out, rfl, hgF⟩)
    | true =>
      have HE := Lib.hid (HCT.out rfl)
      have hne : ∀ k, (Value.slice ax M cx).ownBlock = some k → k ≠ g0 := fun k hk => by have := ho.above k hk; omega
      replace ho := ho.base (b := w.heap.size) (by omega)
      obtain ⟨⟨y0, y1, y2⟩, u0, u1, u2⟩ := hC.three
      obtain ⟨⟨x0, x1, x2⟩, f0, f1, f2⟩ := hcl.three
      have hcF := hC.fill [.int .i64 A, .int .i64 B, .slice ax M cx] rfl
      have hgF := hS.fill hle [.int .i64 A, .int .i64 B, .slice ax M cx] 0
      have hoF := ho.fill hne [.int .i64 A, .int .i64 B, .slice ax M cx] 0
      simp only [fillC, Nat.reduceAdd] at hcF hgF hoF
      go_wp2_with fail
      clear y0 y1 y2 u0 u1 u2 x0 x1 x2 f0 f1 f2
      generalize (((wf.setCell ⟨g0, 0, none⟩ (.int .i64 A)).setCell ⟨g0, 1, none⟩ (.int .i64 B)).setCell ⟨g0, 2, none⟩ (.slice ax M cx)) = wF at hcF hgF hoF ⊢
      obtain ⟨⟨c0, c1, c2⟩, -⟩ := hcF.three
      exact bodyPost_ret (v := .tuple #[.agg #[.int .i64 A, .int .i64 B, .slice ax M cx], .int .i64 0]) (by simp [results, Tryz.results40, go_sem, c0, c1, c2]) rfl (.inl ⟨HE.out, _, rfl, hoF, hgF⟩)
end Go.Proofs.YtkpejaiigopmgaaGreatDoor
/- The document decodes segments. -/
namespace Go.Proofs.YtkpejaiigopmgaaGreatDoor
open Go Go.RowKit Go.Sort
set_option maxRecDepth 100000
set_option linter.unusedVariables false
set_option linter.unusedSimpArgs false
set_option linter.unusedVariables false
set_option maxHeartbeats 4000000 in
theorem rdtcp_late {p : Nat → Prop} {v : Value} {l : List Nat} (src dst : Nat) (w : World) (hr : Rb p w v l) (hsr : src < 4294967296) (hds : dst < 4294967296) (hlen : 20 ≤ l.length) (hl : l.length ≤ 1480) (h12 : gN l 12 1 = 80) (h18 : gN l 18 1 = 0) (h19 : gN l 19 1 = 0) (h2 : gN l 18 2 = 0) :
    Calls Tryz.prog 41 #[.int .u32 src, .int .u32 dst, v] w (fun e w' => (vE (sP src dst 6) 16 l = 0 ∧ ∃ v', e = .returned (.tuple #[.agg #[.int .i64 (gN l 0 2 : Nat), .int .i64 (gN l 2 2 : Nat), .int .i64 (gN l 4 4 : Nat), .int .i64 (gN l 8 4 : Nat), .int .i64 (gN l 13 1 : Nat), .int .i64 (gN l 14 2 : Nat), v'], .int .i64 0]) ∧ OwB w.heap.size w' v' (l.drop 20) ∧ Gr w w') ∨ (vE (sP src dst 6) 16 l = 4 ∧ e = .returned (.tuple #[.agg #[.int .i64 0, .int .i64 0, .int .i64 0, .int .i64 0, .int .i64 0, .int .i64 0, .slice none 0 0], .int .i64 4]) ∧ Gr w w')) := by
  have HR := Lib.hid hr
  have hlt := hr.bytes
  obtain ⟨av, cap, rfl, hcap, hmx⟩ := hr.form
  obtain ⟨bk, off, rfl, -, -⟩ := hr.at' (i := 0) (by omega)
  obtain ⟨L, hL⟩ : ∃ L, L = l.length := ⟨_, rfl⟩
  have HL := Lib.hid hL
  rw [← hL] at HR hl hcap hlen ⊢
  clear hL hr
  have hC := CL.new w [.int .i64 0, .int .i64 0, .int .i64 0, .int .i64 0, .int .i64 0, .int .i64 0, .slice none 0 0] 80 _ rfl
  have hS := Gr.alloc (Gr.refl w) (.cells #[.int .i64 0, .int .i64 0, .int .i64 0, .int .i64 0, .int .i64 0, .int .i64 0, .slice none 0 0] 80)
  obtain ⟨bz12, oz12, ez12, -, hz12⟩ := HR.out.at' (i := 12) (by rw [← HL.out]; omega)
  cases ez12
  rw [← gN_oneK (show 12 < l.length by rw [← HL.out]; omega)] at hz12
  obtain ⟨bz13, oz13, ez13, -, hz13⟩ := HR.out.at' (i := 13) (by rw [← HL.out]; omega)
  cases ez13
  rw [← gN_oneK (show 13 < l.length by rw [← HL.out]; omega)] at hz13
  obtain ⟨bz18, oz18, ez18, -, hz18⟩ := HR.out.at' (i := 18) (by rw [← HL.out]; omega)
  cases ez18
  rw [← gN_oneK (show 18 < l.length by rw [← HL.out]; omega)] at hz18
  obtain ⟨bz19, oz19, ez19, -, hz19⟩ := HR.out.at' (i := 19) (by rw [← HL.out]; omega)
  cases ez19
  rw [← gN_oneK (show 19 < l.length by rw [← HL.out]; omega)] at hz19
  have d1 : decide ((L : Int) < 20) = false := by rw [decide_eq_false_iff_not]; omega
  have d2 : decide ((1480 : Int) < (L : Int)) = false := by rw [decide_eq_false_iff_not]; omega
  obtain ⟨M, hMM⟩ : ∃ M, M = L - 20 := ⟨_, rfl⟩
  have hM2 : M ≤ 1460 := by omega
  have HMM := Lib.hid hMM
  clear hMM
  have HT := Lib.hid (HR.out.tail (k := 20) (by rw [← HL.out]; omega))
  have HG0 := Lib.hid (fun W (g : Gr w W) => rat_any 0 2 W (HR.out.gr g) (by omega) (by omega) (by rw [← HL.out]; omega) (by rw [← HL.out]; omega))
  have HG2 := Lib.hid (fun W (g : Gr w W) => rat_any 2 2 W (HR.out.gr g) (by omega) (by omega) (by rw [← HL.out]; omega) (by rw [← HL.out]; omega))
  have HG4 := Lib.hid (fun W (g : Gr w W) => rat_any 4 4 W (HR.out.gr g) (by omega) (by omega) (by rw [← HL.out]; omega) (by rw [← HL.out]; omega))
  have HG8 := Lib.hid (fun W (g : Gr w W) => rat_any 8 4 W (HR.out.gr g) (by omega) (by omega) (by rw [← HL.out]; omega) (by rw [← HL.out]; omega))
  have HG14 := Lib.hid (fun W (g : Gr w W) => rat_any 14 2 W (HR.out.gr g) (by omega) (by omega) (by rw [← HL.out]; omega) (by rw [← HL.out]; omega))
  have hA : gN l 0 2 < 65536 := gN_lt hlt 0 2
  have hB : gN l 2 2 < 65536 := gN_lt hlt 2 2
  have hC4 : gN l 4 4 < 4294967296 := gN_lt hlt 4 4
  have hD4 : gN l 8 4 < 4294967296 := gN_lt hlt 8 4
  have hFL : gN l 13 1 < 256 := gN_lt hlt 13 1
  have hE2 : gN l 14 2 < 65536 := gN_lt hlt 14 2
  have HRE0 := tcp_re (src := src) (dst := dst) hlt (by rw [← HL.out]; omega) h12 h2
  rw [h12] at hz12
  rw [h18] at hz18
  rw [h19] at hz19
  have hcases : (vE (sP src dst 6) 16 l = 0 ∧ l = msg (sP src dst 6) (l.take 16) (l.drop 18)) ∨ (vE (sP src dst 6) 16 l = 4 ∧ ¬ l = msg (sP src dst 6) (l.take 16) (l.drop 18)) := by
    by_cases h : l = msg (sP src dst 6) (l.take 16) (l.drop 18)
    · exact .inl ⟨vE_ok (by rw [← HL.out]; omega) h, h⟩
    · exact .inr ⟨vE_bad (by rw [← HL.out]; omega) h, h⟩
  obtain ⟨cc, hcc0⟩ : ∃ cc, cc = decide (msg (sP src dst 6) (l.take 16) (l.drop 18) = l) := ⟨_, rfl⟩
  have HCF : Hid (cc = false → vE (sP src dst 6) 16 l = 4) := Lib.hid (fun h => by
    rcases hcases with ⟨_, h2⟩ | ⟨h1, _⟩
    · rw [hcc0, decide_eq_false_iff_not] at h; exact absurd h2.symm h
    · exact h1)
  have HCT : Hid (cc = true → vE (sP src dst 6) 16 l = 0) := Lib.hid (fun h => by
    rcases hcases with ⟨h1, _⟩ | ⟨_, h2⟩
    · exact h1
    · rw [hcc0, decide_eq_true_eq] at h; exact absurd h.symm h2)
  have HRL : Hid ((msg (sP src dst 6) (l.take 16) (l.drop 18)).length = L) := Lib.hid (by rw [msg_len, List.length_take, List.length_drop, ← HL.out]; omega)
  have HRE := Lib.hid HRE0
  have hcc := hcc0
  clear hcases HRE0 hcc0 hlt
  clear h12 h18 h19 h2
  generalize msg (sP src dst 6) (l.take 16) (l.drop 18) = LM at *
  generalize gN l 0 2 = A at *
  generalize gN l 2 2 = B at *
  generalize gN l 4 4 = C at *
  generalize gN l 8 4 = D at *
  generalize gN l 13 1 = FL at *
  generalize gN l 14 2 = E at *
  generalize vE (sP src dst 6) 16 l = V at *
  have wFL : IntKind.i64.wrap (FL : Int) = (FL : Int) := by rw [IntWalk.i64_in _ (by omega)]
  go_enter Tryz.func41, Tryz.ntmps41
  go_upto_region 1 with fail
  have hle : w.heap.size ≤ w.heap.size := Nat.le_refl _
  generalize w.alloc (.cells #[.int .i64 0, .int .i64 0, .int .i64 0, .int .i64 0, .int .i64 0, .int .i64 0, .slice none 0 0] 80) = ww at hC hS ⊢
  generalize hg0 : w.heap.size = g0 at hC ⊢
  replace hle : w.heap.size ≤ g0 := by omega
  clear hg0
  have hq12 := cell_gr hS hz12
  have hq18 := cell_gr hS hz18
  have hq19 := cell_gr hS hz19
  obtain ⟨⟨y0, y1, y2, y3, y4, y5, y6⟩, u0, u1, u2, u3, u4, u5, u6⟩ := hC.seven
  go_wp2_with fail
  clear hq12 hq18 hq19
  have HML : Hid ((l.drop 20).length = M) := Lib.hid (by rw [HMM.out, List.length_drop, ← HL.out])
  have HTL := Lib.hid (show (l.drop 20).length ≤ 30000 by rw [HML.out]; omega)
  clear y0 y1 y2 y3 y4 y5 y6 u0 u1 u2 u3 u4 u5 u6
  obtain ⟨aq, haq⟩ : ∃ aq, aq = (if cap = 20 then some (⟨bk, off, none⟩ : Addr) else some ⟨bk, off + 20, none⟩) := ⟨_, rfl⟩
  rw [← haq] at HT
  have HAQ := Lib.hid haq
  clear haq
  refine region_cut3 ?aFt (fun g ax cx W => Gr w W ∧ OwB (g0 + 1) W (.slice ax M cx) (l.drop 20) ∧ CL W g [.int .i64 A, .int .i64 B, .int .i64 C, .int .i64 D, .int .i64 FL, .int .i64 E, .slice ax M cx] ∧ CL W g0 [.int .i64 0, .int .i64 0, .int .i64 0, .int .i64 0, .int .i64 0, .int .i64 0, .slice none 0 0] ∧ g0 < g) ?ht ?kt
  case ht =>
    replace hS := hS.step (Gr.drew (Gr.refl ww))
    replace hC := hC.gr (Gr.drew (Gr.refl ww))
    refine region_plain (Gr w) (by kernel_rfl) ?_
    generalize ww.drew = wx at hS hC ⊢
    refine take_at 0 (some 36) (v := ?vt0) rfl rfl (by kernel_rfl) (by kernel_rfl) (by kernel_rfl) (by rfl) ?yt0 hS ?tt0
    case yt0 =>
      intro w' hSw
      skip
      go_simp
      (try rw [if_pos (by omega)])
      (try rw [← HAQ.out])
      (try with_reducible rfl)
    simp only [Act.put, List.setIfInBounds_toArray, List.set_cons_zero, List.set_cons_succ]
    refine take_at 2 (some 38) (v := ?vt2) rfl rfl (by kernel_rfl) (by kernel_rfl) (by kernel_rfl) (by rfl) ?yt2 hS ?tt2
    case yt2 =>
      intro w' hSw
      skip
      go_simp
      (try rw [if_pos (by omega)])
      (try rw [← HAQ.out])
      (try with_reducible rfl)
    simp only [Act.put, List.setIfInBounds_toArray, List.set_cons_zero, List.set_cons_succ]
    refine take_at 4 (some 40) (v := ?vt4) rfl rfl (by kernel_rfl) (by kernel_rfl) (by kernel_rfl) (by rfl) ?yt4 hS ?tt4
    case yt4 =>
      intro w' hSw
      skip
      go_simp
      (try rw [if_pos (by omega)])
      (try rw [← HAQ.out])
      (try with_reducible rfl)
    simp only [Act.put, List.setIfInBounds_toArray, List.set_cons_zero, List.set_cons_succ]
    refine take_at 6 (some 42) (v := ?vt6) rfl rfl (by kernel_rfl) (by kernel_rfl) (by kernel_rfl) (by rfl) ?yt6 hS ?tt6
    case yt6 =>
      intro w' hSw
      skip
      go_simp
      (try rw [if_pos (by omega)])
      (try rw [← HAQ.out])
      (try with_reducible rfl)
    simp only [Act.put, List.setIfInBounds_toArray, List.set_cons_zero, List.set_cons_succ]
    refine take_at 8 (some 44) (v := ?vt8) rfl rfl (by kernel_rfl) (by kernel_rfl) (by kernel_rfl) (by rfl) ?yt8 hS ?tt8
    case yt8 =>
      intro w' hSw
      skip
      go_simp
      (try rw [if_pos (by omega)])
      (try rw [← HAQ.out])
      (try with_reducible rfl)
    simp only [Act.put, List.setIfInBounds_toArray, List.set_cons_zero, List.set_cons_succ]
    refine take_at 9 (some 45) (v := ?vt9) rfl rfl (by kernel_rfl) (by kernel_rfl) (by kernel_rfl) (by rfl) ?yt9 hS ?tt9
    case yt9 =>
      intro w' hSw
      skip
      go_simp
      (try rw [if_pos (by omega)])
      (try rw [← HAQ.out])
      (try with_reducible rfl)
    simp only [Act.put, List.setIfInBounds_toArray, List.set_cons_zero, List.set_cons_succ]
    refine take_at 10 (some 46) (v := ?vt10) rfl rfl (by kernel_rfl) (by kernel_rfl) (by kernel_rfl) (by rfl) ?yt10 hS ?tt10
    case yt10 =>
      intro w' hSw
      have hq := cell_gr hSw hz13
      go_simp
      (try rw [if_pos (by omega)])
      (try rw [← HAQ.out])
      (try with_reducible rfl)
    simp only [Act.put, List.setIfInBounds_toArray, List.set_cons_zero, List.set_cons_succ]
    refine take_at 11 (some 47) (v := ?vt11) rfl rfl (by kernel_rfl) (by kernel_rfl) (by kernel_rfl) (by rfl) ?yt11 hS ?tt11
    case yt11 =>
      intro w' hSw
      skip
      go_simp
      (try rw [if_pos (by omega)])
      (try rw [← HAQ.out])
      (try with_reducible rfl)
    simp only [Act.put, List.setIfInBounds_toArray, List.set_cons_zero, List.set_cons_succ]
    refine take_at 12 (some 48) (v := ?vt12) rfl rfl (by kernel_rfl) (by kernel_rfl) (by kernel_rfl) (by rfl) ?yt12 hS ?tt12
    case yt12 =>
      intro w' hSw
      skip
      go_simp
      (try rw [if_pos (by omega)])
      (try rw [← HAQ.out])
      (try with_reducible rfl)
    simp only [Act.put, List.setIfInBounds_toArray, List.set_cons_zero, List.set_cons_succ]
    refine take_at 14 (some 50) (v := ?vt14) rfl rfl (by kernel_rfl) (by kernel_rfl) (by kernel_rfl) (by rfl) ?yt14 hS ?tt14
    case yt14 =>
      intro w' hSw
      skip
      go_simp
      (try rw [if_pos (by omega)])
      (try rw [← HAQ.out])
      (try with_reducible rfl)
    simp only [Act.put, List.setIfInBounds_toArray, List.set_cons_zero, List.set_cons_succ]
    refine take_at 15 (some 51) (v := .slice aq (L - 20) (cap - 20)) rfl rfl (by kernel_rfl) (by kernel_rfl) (by kernel_rfl) (by rfl) ?yt15 hS ?tt15
    case yt15 =>
      intro w' hSw
      rw [HAQ.out]
      go_simp
      (try rw [if_pos (by omega)])
      (try (intro hcon; exact absurd hcon (by omega)))
      (try with_reducible rfl)
    simp only [Act.put, List.setIfInBounds_toArray, List.set_cons_zero, List.set_cons_succ]
    refine next_two 1 18 rfl rfl (by kernel_rfl) (by rfl) (by rfl) (fun K hK => ?_) (fun K hK => ?_)
    · skip
      go_simp
      refine (HG0.out _ hS).mono ?_
      rintro e wj ⟨rfl, rfl⟩
      refine hK _ _ hS ?_
      clear hK K
      refine next_two 3 18 rfl rfl (by kernel_rfl) (by rfl) (by rfl) (fun K hK => ?_) (fun K hK => ?_)
      · skip
        go_simp
        refine (HG2.out _ hS).mono ?_
        rintro e wj ⟨rfl, rfl⟩
        refine hK _ _ hS ?_
        clear hK K
        refine next_two 5 18 rfl rfl (by kernel_rfl) (by rfl) (by rfl) (fun K hK => ?_) (fun K hK => ?_)
        · skip
          go_simp
          refine (HG4.out _ hS).mono ?_
          rintro e wj ⟨rfl, rfl⟩
          refine hK _ _ hS ?_
          clear hK K
          refine next_two 7 18 rfl rfl (by kernel_rfl) (by rfl) (by rfl) (fun K hK => ?_) (fun K hK => ?_)
          · skip
            go_simp
            refine (HG8.out _ hS).mono ?_
            rintro e wj ⟨rfl, rfl⟩
            refine hK _ _ hS ?_
            clear hK K
            refine next_two 13 18 rfl rfl (by kernel_rfl) (by rfl) (by rfl) (fun K hK => ?_) (fun K hK => ?_)
            · skip
              go_simp
              refine (HG14.out _ hS).mono ?_
              rintro e wj ⟨rfl, rfl⟩
              refine hK _ _ hS ?_
              clear hK K
              refine next_two 16 18 rfl rfl (by kernel_rfl) (by rfl) (by rfl) (fun K hK => ?_) (fun K hK => ?_)
              · skip
                refine oper_app (base := wx.heap.size) (l := []) (m := l.drop 20) (.const (.slice none 0 0)) (.tmp 51) rfl rfl (OwB.nil _ _) rfl (HT.out.gr hS) (by have := HTL.out; simp only [List.length_nil]; omega) (Nat.le_refl _) ?_
                intro vx wv37 ho gx
                have hg : Gr wx wv37 := Gr.grownNew (Gr.refl _) gx (fun _ h => by cases h)
                rw [List.nil_append] at ho
                replace ho := ho.base (b := g0 + 1) (by have := hC.lt; omega)
                replace hS := hS.step hg
                replace hC := hC.gr hg
                obtain ⟨ax, cx, rfl, -, -⟩ := ho.rb.form
                rw [HML.out] at ho ⊢
                refine hK _ _ hS ?_
                simp only [Act.put, List.setIfInBounds_toArray, List.set_cons_zero, List.set_cons_succ]
                clear hK K gx hg
                refine take_at 17 (some 53) (v := ?vtz3817) rfl rfl (by kernel_rfl) (by kernel_rfl) (by kernel_rfl) (by rfl) ?ytz3817 hS ?ttz3817
                case ytz3817 =>
                  intro w' hSw
                  skip
                  go_simp
                  (try rw [if_pos (by omega)])
                  (try rw [← HAQ.out])
                  (try with_reducible rfl)
                simp only [Act.put, List.setIfInBounds_toArray, List.set_cons_zero, List.set_cons_succ]
                refine next_at 18 rfl (by kernel_rfl) (by rfl) (fun K hK => ?_)
                go_simp
                have hcl := CL.new wv37 [.int .i64 0, .int .i64 0, .int .i64 0, .int .i64 0, .int .i64 0, .int .i64 0, .slice none 0 0] 80 _ rfl
                have hg := Gr.alloc (Gr.refl wv37) (.cells #[.int .i64 0, .int .i64 0, .int .i64 0, .int .i64 0, .int .i64 0, .int .i64 0, .slice none 0 0] 80)
                have hgg : g0 < wv37.heap.size ∧ w.heap.size ≤ wv37.heap.size := ⟨hC.lt, Gr.size hS⟩
                have hne : ∀ k, (Value.slice ax M cx).ownBlock = some k → k ≠ wv37.heap.size := fun k hk => by have := ho.under k hk; omega
                replace ho := ho.gr hg
                refine hK _ _ (hS.step hg) ?_
                replace hS := hS.step hg
                replace hC := hC.gr hg
                clear hK K hg
                generalize wv37.alloc (.cells #[.int .i64 0, .int .i64 0, .int .i64 0, .int .i64 0, .int .i64 0, .int .i64 0, .slice none 0 0] 80) = wv39 at hS hC hcl ho ⊢
                generalize wv37.heap.size = g at hcl hgg hne ⊢
                have hcF := hcl.fill [.int .i64 A, .int .i64 B, .int .i64 C, .int .i64 D, .int .i64 FL, .int .i64 E, .slice ax M cx] rfl
                have hgF := hS.fill (show w.heap.size ≤ g from hgg.2) [.int .i64 A, .int .i64 B, .int .i64 C, .int .i64 D, .int .i64 FL, .int .i64 E, .slice ax M cx] 0
                have hCF := hC.fillOther (s := g) (by omega) [.int .i64 A, .int .i64 B, .int .i64 C, .int .i64 D, .int .i64 FL, .int .i64 E, .slice ax M cx] 0
                have hoF := ho.fill hne [.int .i64 A, .int .i64 B, .int .i64 C, .int .i64 D, .int .i64 FL, .int .i64 E, .slice ax M cx] 0
                simp only [fillC, Nat.reduceAdd] at hcF hgF hCF hoF
                obtain ⟨⟨y0, y1, y2, y3, y4, y5, y6⟩, u0, u1, u2, u3, u4, u5, u6⟩ := hcl.seven
                refine next_at 19 rfl (by kernel_rfl) (by rfl) (fun K hK => ?_)
                go_simp
                refine hK _ _ hgF ?_
                clear hK K
                clear y0 y1 y2 y3 y4 y5 y6 u0 u1 u2 u3 u4 u5 u6
                refine wpAnyH_done (by kernel_rfl) ?_ _
                refine qz_normal ⟨rfl, g, ax, cx, ?_, hgF, hoF, hcF, hCF, hgg.1⟩
                first | with_reducible rfl | exact rfl
              · skip
                go_simp
                have hcl := CL.new wx [.int .i64 0, .int .i64 0, .int .i64 0, .int .i64 0, .int .i64 0, .int .i64 0, .slice none 0 0] 80 _ rfl
                have hg := Gr.alloc (Gr.refl wx) (.cells #[.int .i64 0, .int .i64 0, .int .i64 0, .int .i64 0, .int .i64 0, .int .i64 0, .slice none 0 0] 80)
                have hgg : g0 < wx.heap.size ∧ w.heap.size ≤ wx.heap.size := ⟨hC.lt, Gr.size hS⟩
                refine hK _ _ (hS.step hg) ?_
                replace hS := hS.step hg
                replace hC := hC.gr hg
                clear hK K hg
                generalize wx.alloc (.cells #[.int .i64 0, .int .i64 0, .int .i64 0, .int .i64 0, .int .i64 0, .int .i64 0, .slice none 0 0] 80) = wv40 at hS hC hcl ⊢
                generalize wx.heap.size = g at hcl hgg ⊢
                refine next_at 16 rfl (by kernel_rfl) (by rfl) (fun K hK => ?_)
                refine oper_app (base := wv40.heap.size) (l := []) (m := l.drop 20) (.const (.slice none 0 0)) (.tmp 51) rfl rfl (OwB.nil _ _) rfl (HT.out.gr hS) (by have := HTL.out; simp only [List.length_nil]; omega) (Nat.le_refl _) ?_
                intro vx wv41 ho gx
                have hg : Gr wv40 wv41 := Gr.grownNew (Gr.refl _) gx (fun _ h => by cases h)
                rw [List.nil_append] at ho
                have hne0 : ∀ k, vx.ownBlock = some k → k ≠ g := fun k hk => by have := ho.above k hk; have := hcl.lt; omega
                replace hcl := hcl.gr hg
                replace ho := ho.base (b := g0 + 1) (by have := hC.lt; omega)
                replace hS := hS.step hg
                replace hC := hC.gr hg
                obtain ⟨ax, cx, rfl, -, -⟩ := ho.rb.form
                rw [HML.out] at ho ⊢
                rw [HML.out] at hne0
                have hne := hne0
                refine hK _ _ hS ?_
                simp only [Act.put, List.setIfInBounds_toArray, List.set_cons_zero, List.set_cons_succ]
                clear hK K gx hg
                refine take_at 17 (some 53) (v := ?vtz4217) rfl rfl (by kernel_rfl) (by kernel_rfl) (by kernel_rfl) (by rfl) ?ytz4217 hS ?ttz4217
                case ytz4217 =>
                  intro w' hSw
                  skip
                  go_simp
                  (try rw [if_pos (by omega)])
                  (try rw [← HAQ.out])
                  (try with_reducible rfl)
                simp only [Act.put, List.setIfInBounds_toArray, List.set_cons_zero, List.set_cons_succ]
                have hcF := hcl.fill [.int .i64 A, .int .i64 B, .int .i64 C, .int .i64 D, .int .i64 FL, .int .i64 E, .slice ax M cx] rfl
                have hgF := hS.fill (show w.heap.size ≤ g from hgg.2) [.int .i64 A, .int .i64 B, .int .i64 C, .int .i64 D, .int .i64 FL, .int .i64 E, .slice ax M cx] 0
                have hCF := hC.fillOther (s := g) (by omega) [.int .i64 A, .int .i64 B, .int .i64 C, .int .i64 D, .int .i64 FL, .int .i64 E, .slice ax M cx] 0
                have hoF := ho.fill hne [.int .i64 A, .int .i64 B, .int .i64 C, .int .i64 D, .int .i64 FL, .int .i64 E, .slice ax M cx] 0
                simp only [fillC, Nat.reduceAdd] at hcF hgF hCF hoF
                obtain ⟨⟨y0, y1, y2, y3, y4, y5, y6⟩, u0, u1, u2, u3, u4, u5, u6⟩ := hcl.seven
                refine next_at 19 rfl (by kernel_rfl) (by rfl) (fun K hK => ?_)
                go_simp
                refine hK _ _ hgF ?_
                clear hK K
                clear y0 y1 y2 y3 y4 y5 y6 u0 u1 u2 u3 u4 u5 u6
                refine wpAnyH_done (by kernel_rfl) ?_ _
                refine qz_normal ⟨rfl, g, ax, cx, ?_, hgF, hoF, hcF, hCF, hgg.1⟩
                first | with_reducible rfl | exact rfl
            · skip
              go_simp
              have hcl := CL.new wx [.int .i64 0, .int .i64 0, .int .i64 0, .int .i64 0, .int .i64 0, .int .i64 0, .slice none 0 0] 80 _ rfl
              have hg := Gr.alloc (Gr.refl wx) (.cells #[.int .i64 0, .int .i64 0, .int .i64 0, .int .i64 0, .int .i64 0, .int .i64 0, .slice none 0 0] 80)
              have hgg : g0 < wx.heap.size ∧ w.heap.size ≤ wx.heap.size := ⟨hC.lt, Gr.size hS⟩
              refine hK _ _ (hS.step hg) ?_
              replace hS := hS.step hg
              replace hC := hC.gr hg
              clear hK K hg
              generalize wx.alloc (.cells #[.int .i64 0, .int .i64 0, .int .i64 0, .int .i64 0, .int .i64 0, .int .i64 0, .slice none 0 0] 80) = wv43 at hS hC hcl ⊢
              generalize wx.heap.size = g at hcl hgg ⊢
              refine next_at 13 rfl (by kernel_rfl) (by rfl) (fun K hK => ?_)
              go_simp
              refine (HG14.out _ hS).mono ?_
              rintro e wj ⟨rfl, rfl⟩
              refine hK _ _ hS ?_
              clear hK K
              refine next_at 16 rfl (by kernel_rfl) (by rfl) (fun K hK => ?_)
              refine oper_app (base := wv43.heap.size) (l := []) (m := l.drop 20) (.const (.slice none 0 0)) (.tmp 51) rfl rfl (OwB.nil _ _) rfl (HT.out.gr hS) (by have := HTL.out; simp only [List.length_nil]; omega) (Nat.le_refl _) ?_
              intro vx wv44 ho gx
              have hg : Gr wv43 wv44 := Gr.grownNew (Gr.refl _) gx (fun _ h => by cases h)
              rw [List.nil_append] at ho
              have hne0 : ∀ k, vx.ownBlock = some k → k ≠ g := fun k hk => by have := ho.above k hk; have := hcl.lt; omega
              replace hcl := hcl.gr hg
              replace ho := ho.base (b := g0 + 1) (by have := hC.lt; omega)
              replace hS := hS.step hg
              replace hC := hC.gr hg
              obtain ⟨ax, cx, rfl, -, -⟩ := ho.rb.form
              rw [HML.out] at ho ⊢
              rw [HML.out] at hne0
              have hne := hne0
              refine hK _ _ hS ?_
              simp only [Act.put, List.setIfInBounds_toArray, List.set_cons_zero, List.set_cons_succ]
              clear hK K gx hg
              refine take_at 17 (some 53) (v := ?vtz4517) rfl rfl (by kernel_rfl) (by kernel_rfl) (by kernel_rfl) (by rfl) ?ytz4517 hS ?ttz4517
              case ytz4517 =>
                intro w' hSw
                skip
                go_simp
                (try rw [if_pos (by omega)])
                (try rw [← HAQ.out])
                (try with_reducible rfl)
              simp only [Act.put, List.setIfInBounds_toArray, List.set_cons_zero, List.set_cons_succ]
              have hcF := hcl.fill [.int .i64 A, .int .i64 B, .int .i64 C, .int .i64 D, .int .i64 FL, .int .i64 E, .slice ax M cx] rfl
              have hgF := hS.fill (show w.heap.size ≤ g from hgg.2) [.int .i64 A, .int .i64 B, .int .i64 C, .int .i64 D, .int .i64 FL, .int .i64 E, .slice ax M cx] 0
              have hCF := hC.fillOther (s := g) (by omega) [.int .i64 A, .int .i64 B, .int .i64 C, .int .i64 D, .int .i64 FL, .int .i64 E, .slice ax M cx] 0
              have hoF := ho.fill hne [.int .i64 A, .int .i64 B, .int .i64 C, .int .i64 D, .int .i64 FL, .int .i64 E, .slice ax M cx] 0
              simp only [fillC, Nat.reduceAdd] at hcF hgF hCF hoF
              obtain ⟨⟨y0, y1, y2, y3, y4, y5, y6⟩, u0, u1, u2, u3, u4, u5, u6⟩ := hcl.seven
              refine next_at 19 rfl (by kernel_rfl) (by rfl) (fun K hK => ?_)
              go_simp
              refine hK _ _ hgF ?_
              clear hK K
              clear y0 y1 y2 y3 y4 y5 y6 u0 u1 u2 u3 u4 u5 u6
              refine wpAnyH_done (by kernel_rfl) ?_ _
              refine qz_normal ⟨rfl, g, ax, cx, ?_, hgF, hoF, hcF, hCF, hgg.1⟩
              first | with_reducible rfl | exact rfl
          · skip
            go_simp
            have hcl := CL.new wx [.int .i64 0, .int .i64 0, .int .i64 0, .int .i64 0, .int .i64 0, .int .i64 0, .slice none 0 0] 80 _ rfl
            have hg := Gr.alloc (Gr.refl wx) (.cells #[.int .i64 0, .int .i64 0, .int .i64 0, .int .i64 0, .int .i64 0, .int .i64 0, .slice none 0 0] 80)
            have hgg : g0 < wx.heap.size ∧ w.heap.size ≤ wx.heap.size := ⟨hC.lt, Gr.size hS⟩
            refine hK _ _ (hS.step hg) ?_
            replace hS := hS.step hg
            replace hC := hC.gr hg
            clear hK K hg
            generalize wx.alloc (.cells #[.int .i64 0, .int .i64 0, .int .i64 0, .int .i64 0, .int .i64 0, .int .i64 0, .slice none 0 0] 80) = wv46 at hS hC hcl ⊢
            generalize wx.heap.size = g at hcl hgg ⊢
            refine next_at 7 rfl (by kernel_rfl) (by rfl) (fun K hK => ?_)
            go_simp
            refine (HG8.out _ hS).mono ?_
            rintro e wj ⟨rfl, rfl⟩
            refine hK _ _ hS ?_
            clear hK K
            refine next_at 13 rfl (by kernel_rfl) (by rfl) (fun K hK => ?_)
            go_simp
            refine (HG14.out _ hS).mono ?_
            rintro e wj ⟨rfl, rfl⟩
            refine hK _ _ hS ?_
            clear hK K
            refine next_at 16 rfl (by kernel_rfl) (by rfl) (fun K hK => ?_)
            refine oper_app (base := wv46.heap.size) (l := []) (m := l.drop 20) (.const (.slice none 0 0)) (.tmp 51) rfl rfl (OwB.nil _ _) rfl (HT.out.gr hS) (by have := HTL.out; simp only [List.length_nil]; omega) (Nat.le_refl _) ?_
            intro vx wv47 ho gx
            have hg : Gr wv46 wv47 := Gr.grownNew (Gr.refl _) gx (fun _ h => by cases h)
            rw [List.nil_append] at ho
            have hne0 : ∀ k, vx.ownBlock = some k → k ≠ g := fun k hk => by have := ho.above k hk; have := hcl.lt; omega
            replace hcl := hcl.gr hg
            replace ho := ho.base (b := g0 + 1) (by have := hC.lt; omega)
            replace hS := hS.step hg
            replace hC := hC.gr hg
            obtain ⟨ax, cx, rfl, -, -⟩ := ho.rb.form
            rw [HML.out] at ho ⊢
            rw [HML.out] at hne0
            have hne := hne0
            refine hK _ _ hS ?_
            simp only [Act.put, List.setIfInBounds_toArray, List.set_cons_zero, List.set_cons_succ]
            clear hK K gx hg
            refine take_at 17 (some 53) (v := ?vtz4817) rfl rfl (by kernel_rfl) (by kernel_rfl) (by kernel_rfl) (by rfl) ?ytz4817 hS ?ttz4817
            case ytz4817 =>
              intro w' hSw
              skip
              go_simp
              (try rw [if_pos (by omega)])
              (try rw [← HAQ.out])
              (try with_reducible rfl)
            simp only [Act.put, List.setIfInBounds_toArray, List.set_cons_zero, List.set_cons_succ]
            have hcF := hcl.fill [.int .i64 A, .int .i64 B, .int .i64 C, .int .i64 D, .int .i64 FL, .int .i64 E, .slice ax M cx] rfl
            have hgF := hS.fill (show w.heap.size ≤ g from hgg.2) [.int .i64 A, .int .i64 B, .int .i64 C, .int .i64 D, .int .i64 FL, .int .i64 E, .slice ax M cx] 0
            have hCF := hC.fillOther (s := g) (by omega) [.int .i64 A, .int .i64 B, .int .i64 C, .int .i64 D, .int .i64 FL, .int .i64 E, .slice ax M cx] 0
            have hoF := ho.fill hne [.int .i64 A, .int .i64 B, .int .i64 C, .int .i64 D, .int .i64 FL, .int .i64 E, .slice ax M cx] 0
            simp only [fillC, Nat.reduceAdd] at hcF hgF hCF hoF
            obtain ⟨⟨y0, y1, y2, y3, y4, y5, y6⟩, u0, u1, u2, u3, u4, u5, u6⟩ := hcl.seven
            refine next_at 19 rfl (by kernel_rfl) (by rfl) (fun K hK => ?_)
            go_simp
            refine hK _ _ hgF ?_
            clear hK K
            clear y0 y1 y2 y3 y4 y5 y6 u0 u1 u2 u3 u4 u5 u6
            refine wpAnyH_done (by kernel_rfl) ?_ _
            refine qz_normal ⟨rfl, g, ax, cx, ?_, hgF, hoF, hcF, hCF, hgg.1⟩
            first | with_reducible rfl | exact rfl
        · skip
          go_simp
          have hcl := CL.new wx [.int .i64 0, .int .i64 0, .int .i64 0, .int .i64 0, .int .i64 0, .int .i64 0, .slice none 0 0] 80 _ rfl
          have hg := Gr.alloc (Gr.refl wx) (.cells #[.int .i64 0, .int .i64 0, .int .i64 0, .int .i64 0, .int .i64 0, .int .i64 0, .slice none 0 0] 80)
          have hgg : g0 < wx.heap.size ∧ w.heap.size ≤ wx.heap.size := ⟨hC.lt, Gr.size hS⟩
          refine hK _ _ (hS.step hg) ?_
          replace hS := hS.step hg
          replace hC := hC.gr hg
          clear hK K hg
          generalize wx.alloc (.cells #[.int .i64 0, .int .i64 0, .int .i64 0, .int .i64 0, .int .i64 0, .int .i64 0, .slice none 0 0] 80) = wv49 at hS hC hcl ⊢
          generalize wx.heap.size = g at hcl hgg ⊢
          refine next_at 5 rfl (by kernel_rfl) (by rfl) (fun K hK => ?_)
          go_simp
          refine (HG4.out _ hS).mono ?_
          rintro e wj ⟨rfl, rfl⟩
          refine hK _ _ hS ?_
          clear hK K
          refine next_at 7 rfl (by kernel_rfl) (by rfl) (fun K hK => ?_)
          go_simp
          refine (HG8.out _ hS).mono ?_
          rintro e wj ⟨rfl, rfl⟩
          refine hK _ _ hS ?_
          clear hK K
          refine next_at 13 rfl (by kernel_rfl) (by rfl) (fun K hK => ?_)
          go_simp
          refine (HG14.out _ hS).mono ?_
          rintro e wj ⟨rfl, rfl⟩
          refine hK _ _ hS ?_
          clear hK K
          refine next_at 16 rfl (by kernel_rfl) (by rfl) (fun K hK => ?_)
          refine oper_app (base := wv49.heap.size) (l := []) (m := l.drop 20) (.const (.slice none 0 0)) (.tmp 51) rfl rfl (OwB.nil _ _) rfl (HT.out.gr hS) (by have := HTL.out; simp only [List.length_nil]; omega) (Nat.le_refl _) ?_
          intro vx wv50 ho gx
          have hg : Gr wv49 wv50 := Gr.grownNew (Gr.refl _) gx (fun _ h => by cases h)
          rw [List.nil_append] at ho
          have hne0 : ∀ k, vx.ownBlock = some k → k ≠ g := fun k hk => by have := ho.above k hk; have := hcl.lt; omega
          replace hcl := hcl.gr hg
          replace ho := ho.base (b := g0 + 1) (by have := hC.lt; omega)
          replace hS := hS.step hg
          replace hC := hC.gr hg
          obtain ⟨ax, cx, rfl, -, -⟩ := ho.rb.form
          rw [HML.out] at ho ⊢
          rw [HML.out] at hne0
          have hne := hne0
          refine hK _ _ hS ?_
          simp only [Act.put, List.setIfInBounds_toArray, List.set_cons_zero, List.set_cons_succ]
          clear hK K gx hg
          refine take_at 17 (some 53) (v := ?vtz5117) rfl rfl (by kernel_rfl) (by kernel_rfl) (by kernel_rfl) (by rfl) ?ytz5117 hS ?ttz5117
          case ytz5117 =>
            intro w' hSw
            skip
            go_simp
            (try rw [if_pos (by omega)])
            (try rw [← HAQ.out])
            (try with_reducible rfl)
          simp only [Act.put, List.setIfInBounds_toArray, List.set_cons_zero, List.set_cons_succ]
          have hcF := hcl.fill [.int .i64 A, .int .i64 B, .int .i64 C, .int .i64 D, .int .i64 FL, .int .i64 E, .slice ax M cx] rfl
          have hgF := hS.fill (show w.heap.size ≤ g from hgg.2) [.int .i64 A, .int .i64 B, .int .i64 C, .int .i64 D, .int .i64 FL, .int .i64 E, .slice ax M cx] 0
          have hCF := hC.fillOther (s := g) (by omega) [.int .i64 A, .int .i64 B, .int .i64 C, .int .i64 D, .int .i64 FL, .int .i64 E, .slice ax M cx] 0
          have hoF := ho.fill hne [.int .i64 A, .int .i64 B, .int .i64 C, .int .i64 D, .int .i64 FL, .int .i64 E, .slice ax M cx] 0
          simp only [fillC, Nat.reduceAdd] at hcF hgF hCF hoF
          obtain ⟨⟨y0, y1, y2, y3, y4, y5, y6⟩, u0, u1, u2, u3, u4, u5, u6⟩ := hcl.seven
          refine next_at 19 rfl (by kernel_rfl) (by rfl) (fun K hK => ?_)
          go_simp
          refine hK _ _ hgF ?_
          clear hK K
          clear y0 y1 y2 y3 y4 y5 y6 u0 u1 u2 u3 u4 u5 u6
          refine wpAnyH_done (by kernel_rfl) ?_ _
          refine qz_normal ⟨rfl, g, ax, cx, ?_, hgF, hoF, hcF, hCF, hgg.1⟩
          first | with_reducible rfl | exact rfl
      · skip
        go_simp
        have hcl := CL.new wx [.int .i64 0, .int .i64 0, .int .i64 0, .int .i64 0, .int .i64 0, .int .i64 0, .slice none 0 0] 80 _ rfl
        have hg := Gr.alloc (Gr.refl wx) (.cells #[.int .i64 0, .int .i64 0, .int .i64 0, .int .i64 0, .int .i64 0, .int .i64 0, .slice none 0 0] 80)
        have hgg : g0 < wx.heap.size ∧ w.heap.size ≤ wx.heap.size := ⟨hC.lt, Gr.size hS⟩
        refine hK _ _ (hS.step hg) ?_
        replace hS := hS.step hg
        replace hC := hC.gr hg
        clear hK K hg
        generalize wx.alloc (.cells #[.int .i64 0, .int .i64 0, .int .i64 0, .int .i64 0, .int .i64 0, .int .i64 0, .slice none 0 0] 80) = wv52 at hS hC hcl ⊢
        generalize wx.heap.size = g at hcl hgg ⊢
        refine next_at 3 rfl (by kernel_rfl) (by rfl) (fun K hK => ?_)
        go_simp
        refine (HG2.out _ hS).mono ?_
        rintro e wj ⟨rfl, rfl⟩
        refine hK _ _ hS ?_
        clear hK K
        refine next_at 5 rfl (by kernel_rfl) (by rfl) (fun K hK => ?_)
        go_simp
        refine (HG4.out _ hS).mono ?_
        rintro e wj ⟨rfl, rfl⟩
        refine hK _ _ hS ?_
        clear hK K
        refine next_at 7 rfl (by kernel_rfl) (by rfl) (fun K hK => ?_)
        go_simp
        refine (HG8.out _ hS).mono ?_
        rintro e wj ⟨rfl, rfl⟩
        refine hK _ _ hS ?_
        clear hK K
        refine next_at 13 rfl (by kernel_rfl) (by rfl) (fun K hK => ?_)
        go_simp
        refine (HG14.out _ hS).mono ?_
        rintro e wj ⟨rfl, rfl⟩
        refine hK _ _ hS ?_
        clear hK K
        refine next_at 16 rfl (by kernel_rfl) (by rfl) (fun K hK => ?_)
        refine oper_app (base := wv52.heap.size) (l := []) (m := l.drop 20) (.const (.slice none 0 0)) (.tmp 51) rfl rfl (OwB.nil _ _) rfl (HT.out.gr hS) (by have := HTL.out; simp only [List.length_nil]; omega) (Nat.le_refl _) ?_
        intro vx wv53 ho gx
        have hg : Gr wv52 wv53 := Gr.grownNew (Gr.refl _) gx (fun _ h => by cases h)
        rw [List.nil_append] at ho
        have hne0 : ∀ k, vx.ownBlock = some k → k ≠ g := fun k hk => by have := ho.above k hk; have := hcl.lt; omega
        replace hcl := hcl.gr hg
        replace ho := ho.base (b := g0 + 1) (by have := hC.lt; omega)
        replace hS := hS.step hg
        replace hC := hC.gr hg
        obtain ⟨ax, cx, rfl, -, -⟩ := ho.rb.form
        rw [HML.out] at ho ⊢
        rw [HML.out] at hne0
        have hne := hne0
        refine hK _ _ hS ?_
        simp only [Act.put, List.setIfInBounds_toArray, List.set_cons_zero, List.set_cons_succ]
        clear hK K gx hg
        refine take_at 17 (some 53) (v := ?vtz5417) rfl rfl (by kernel_rfl) (by kernel_rfl) (by kernel_rfl) (by rfl) ?ytz5417 hS ?ttz5417
        case ytz5417 =>
          intro w' hSw
          skip
          go_simp
          (try rw [if_pos (by omega)])
          (try rw [← HAQ.out])
          (try with_reducible rfl)
        simp only [Act.put, List.setIfInBounds_toArray, List.set_cons_zero, List.set_cons_succ]
        have hcF := hcl.fill [.int .i64 A, .int .i64 B, .int .i64 C, .int .i64 D, .int .i64 FL, .int .i64 E, .slice ax M cx] rfl
        have hgF := hS.fill (show w.heap.size ≤ g from hgg.2) [.int .i64 A, .int .i64 B, .int .i64 C, .int .i64 D, .int .i64 FL, .int .i64 E, .slice ax M cx] 0
        have hCF := hC.fillOther (s := g) (by omega) [.int .i64 A, .int .i64 B, .int .i64 C, .int .i64 D, .int .i64 FL, .int .i64 E, .slice ax M cx] 0
        have hoF := ho.fill hne [.int .i64 A, .int .i64 B, .int .i64 C, .int .i64 D, .int .i64 FL, .int .i64 E, .slice ax M cx] 0
        simp only [fillC, Nat.reduceAdd] at hcF hgF hCF hoF
        obtain ⟨⟨y0, y1, y2, y3, y4, y5, y6⟩, u0, u1, u2, u3, u4, u5, u6⟩ := hcl.seven
        refine next_at 19 rfl (by kernel_rfl) (by rfl) (fun K hK => ?_)
        go_simp
        refine hK _ _ hgF ?_
        clear hK K
        clear y0 y1 y2 y3 y4 y5 y6 u0 u1 u2 u3 u4 u5 u6
        refine wpAnyH_done (by kernel_rfl) ?_ _
        refine qz_normal ⟨rfl, g, ax, cx, ?_, hgF, hoF, hcF, hCF, hgg.1⟩
        first | with_reducible rfl | exact rfl
    · skip
      go_simp
      have hcl := CL.new wx [.int .i64 0, .int .i64 0, .int .i64 0, .int .i64 0, .int .i64 0, .int .i64 0, .slice none 0 0] 80 _ rfl
      have hg := Gr.alloc (Gr.refl wx) (.cells #[.int .i64 0, .int .i64 0, .int .i64 0, .int .i64 0, .int .i64 0, .int .i64 0, .slice none 0 0] 80)
      have hgg : g0 < wx.heap.size ∧ w.heap.size ≤ wx.heap.size := ⟨hC.lt, Gr.size hS⟩
      refine hK _ _ (hS.step hg) ?_
      replace hS := hS.step hg
      replace hC := hC.gr hg
      clear hK K hg
      generalize wx.alloc (.cells #[.int .i64 0, .int .i64 0, .int .i64 0, .int .i64 0, .int .i64 0, .int .i64 0, .slice none 0 0] 80) = wv55 at hS hC hcl ⊢
      generalize wx.heap.size = g at hcl hgg ⊢
      refine next_at 1 rfl (by kernel_rfl) (by rfl) (fun K hK => ?_)
      go_simp
      refine (HG0.out _ hS).mono ?_
      rintro e wj ⟨rfl, rfl⟩
      refine hK _ _ hS ?_
      clear hK K
      refine next_at 3 rfl (by kernel_rfl) (by rfl) (fun K hK => ?_)
      go_simp
      refine (HG2.out _ hS).mono ?_
      rintro e wj ⟨rfl, rfl⟩
      refine hK _ _ hS ?_
      clear hK K
      refine next_at 5 rfl (by kernel_rfl) (by rfl) (fun K hK => ?_)
      go_simp
      refine (HG4.out _ hS).mono ?_
      rintro e wj ⟨rfl, rfl⟩
      refine hK _ _ hS ?_
      clear hK K
      refine next_at 7 rfl (by kernel_rfl) (by rfl) (fun K hK => ?_)
      go_simp
      refine (HG8.out _ hS).mono ?_
      rintro e wj ⟨rfl, rfl⟩
      refine hK _ _ hS ?_
      clear hK K
      refine next_at 13 rfl (by kernel_rfl) (by rfl) (fun K hK => ?_)
      go_simp
      refine (HG14.out _ hS).mono ?_
      rintro e wj ⟨rfl, rfl⟩
      refine hK _ _ hS ?_
      clear hK K
      refine next_at 16 rfl (by kernel_rfl) (by rfl) (fun K hK => ?_)
      refine oper_app (base := wv55.heap.size) (l := []) (m := l.drop 20) (.const (.slice none 0 0)) (.tmp 51) rfl rfl (OwB.nil _ _) rfl (HT.out.gr hS) (by have := HTL.out; simp only [List.length_nil]; omega) (Nat.le_refl _) ?_
      intro vx wv56 ho gx
      have hg : Gr wv55 wv56 := Gr.grownNew (Gr.refl _) gx (fun _ h => by cases h)
      rw [List.nil_append] at ho
      have hne0 : ∀ k, vx.ownBlock = some k → k ≠ g := fun k hk => by have := ho.above k hk; have := hcl.lt; omega
      replace hcl := hcl.gr hg
      replace ho := ho.base (b := g0 + 1) (by have := hC.lt; omega)
      replace hS := hS.step hg
      replace hC := hC.gr hg
      obtain ⟨ax, cx, rfl, -, -⟩ := ho.rb.form
      rw [HML.out] at ho ⊢
      rw [HML.out] at hne0
      have hne := hne0
      refine hK _ _ hS ?_
      simp only [Act.put, List.setIfInBounds_toArray, List.set_cons_zero, List.set_cons_succ]
      clear hK K gx hg
      refine take_at 17 (some 53) (v := ?vtz5717) rfl rfl (by kernel_rfl) (by kernel_rfl) (by kernel_rfl) (by rfl) ?ytz5717 hS ?ttz5717
      case ytz5717 =>
        intro w' hSw
        skip
        go_simp
        (try rw [if_pos (by omega)])
        (try rw [← HAQ.out])
        (try with_reducible rfl)
      simp only [Act.put, List.setIfInBounds_toArray, List.set_cons_zero, List.set_cons_succ]
      have hcF := hcl.fill [.int .i64 A, .int .i64 B, .int .i64 C, .int .i64 D, .int .i64 FL, .int .i64 E, .slice ax M cx] rfl
      have hgF := hS.fill (show w.heap.size ≤ g from hgg.2) [.int .i64 A, .int .i64 B, .int .i64 C, .int .i64 D, .int .i64 FL, .int .i64 E, .slice ax M cx] 0
      have hCF := hC.fillOther (s := g) (by omega) [.int .i64 A, .int .i64 B, .int .i64 C, .int .i64 D, .int .i64 FL, .int .i64 E, .slice ax M cx] 0
      have hoF := ho.fill hne [.int .i64 A, .int .i64 B, .int .i64 C, .int .i64 D, .int .i64 FL, .int .i64 E, .slice ax M cx] 0
      simp only [fillC, Nat.reduceAdd] at hcF hgF hCF hoF
      obtain ⟨⟨y0, y1, y2, y3, y4, y5, y6⟩, u0, u1, u2, u3, u4, u5, u6⟩ := hcl.seven
      refine next_at 19 rfl (by kernel_rfl) (by rfl) (fun K hK => ?_)
      go_simp
      refine hK _ _ hgF ?_
      clear hK K
      clear y0 y1 y2 y3 y4 y5 y6 u0 u1 u2 u3 u4 u5 u6
      refine wpAnyH_done (by kernel_rfl) ?_ _
      refine qz_normal ⟨rfl, g, ax, cx, ?_, hgF, hoF, hcF, hCF, hgg.1⟩
      first | with_reducible rfl | exact rfl
  case kt =>
    clear hS hC
    intro g ax cx wr ⟨hS, ho, hcl, hC, hgg⟩
    obtain ⟨⟨x0, x1, x2, x3, x4, x5, x6⟩, f0, f1, f2, f3, f4, f5, f6⟩ := hcl.seven
    go_wp2_with fail
    refine (rtcp_ok src dst A B C D FL E wr ho.rb hsr hds hA hB hC4 hD4 hFL hE2 (by rw [HML.out]; omega)).mono ?_
    rintro e we ⟨ve, rfl, hve, hg⟩
    replace hS := hS.step hg
    replace ho := ho.gr hg
    replace hcl := hcl.gr hg
    replace hC := hC.gr hg
    rw [HRE.out] at hve
    have HQ := Lib.hid (rweq_c we hve.rb (HR.out.gr hS) (by rw [HRL.out]; omega) (by rw [← HL.out]; omega) cc hcc)
    obtain ⟨ae, ce, rfl, -, -⟩ := hve.rb.form
    rw [HRL.out] at HQ ⊢
    clear hve hg hcc x0 x1 x2 x3 x4 x5 x6 f0 f1 f2 f3 f4 f5 f6
    go_wp2_with fail
    refine HQ.out.mono ?_
    rintro e wf ⟨rfl, hg⟩
    replace hS := hS.step hg
    replace ho := ho.gr hg
    replace hcl := hcl.gr hg
    replace hC := hC.gr hg
    clear hg HQ
    cases cc with
    | false =>
      have HE := Lib.hid (HCF.out rfl)
      obtain ⟨⟨y0, y1, y2, y3, y4, y5, y6⟩, u0, u1, u2, u3, u4, u5, u6⟩ := hC.seven
      have hcF := hC.fill [.int .i64 0, .int .i64 0, .int .i64 0, .int .i64 0, .int .i64 0, .int .i64 0, .slice none 0 0] rfl
      have hgF := hS.fill hle [.int .i64 0, .int .i64 0, .int .i64 0, .int .i64 0, .int .i64 0, .int .i64 0, .slice none 0 0] 0
      simp only [fillC, Nat.reduceAdd] at hcF hgF
      go_wp2_with fail
      clear y0 y1 y2 y3 y4 y5 y6 u0 u1 u2 u3 u4 u5 u6
      generalize (((((((wf.setCell ⟨g0, 0, none⟩ (.int .i64 0)).setCell ⟨g0, 1, none⟩ (.int .i64 0)).setCell ⟨g0, 2, none⟩ (.int .i64 0)).setCell ⟨g0, 3, none⟩ (.int .i64 0)).setCell ⟨g0, 4, none⟩ (.int .i64 0)).setCell ⟨g0, 5, none⟩ (.int .i64 0)).setCell ⟨g0, 6, none⟩ (.slice none 0 0)) = wF at hcF hgF ⊢
      obtain ⟨⟨c0, c1, c2, c3, c4, c5, c6⟩, -⟩ := hcF.seven
      exact bodyPost_ret (v := .tuple #[.agg #[.int .i64 0, .int .i64 0, .int .i64 0, .int .i64 0, .int .i64 0, .int .i64 0, .slice none 0 0], .int .i64 4]) (by simp [results, Tryz.results41, go_sem, c0, c1, c2, c3, c4, c5, c6]) rfl (.inr ⟨HE.out, rfl, hgF⟩)
    | true =>
      have HE := Lib.hid (HCT.out rfl)
      have hne : ∀ k, (Value.slice ax M cx).ownBlock = some k → k ≠ g0 := fun k hk => by have := ho.above k hk; omega
      replace ho := ho.base (b := w.heap.size) (by omega)
      obtain ⟨⟨y0, y1, y2, y3, y4, y5, y6⟩, u0, u1, u2, u3, u4, u5, u6⟩ := hC.seven
      obtain ⟨⟨x0, x1, x2, x3, x4, x5, x6⟩, f0, f1, f2, f3, f4, f5, f6⟩ := hcl.seven
      have hcF := hC.fill [.int .i64 A, .int .i64 B, .int .i64 C, .int .i64 D, .int .i64 FL, .int .i64 E, .slice ax M cx] rfl
      have hgF := hS.fill hle [.int .i64 A, .int .i64 B, .int .i64 C, .int .i64 D, .int .i64 FL, .int .i64 E, .slice ax M cx] 0
      have hoF := ho.fill hne [.int .i64 A, .int .i64 B, .int .i64 C, .int .i64 D, .int .i64 FL, .int .i64 E, .slice ax M cx] 0
      simp only [fillC, Nat.reduceAdd] at hcF hgF hoF
      go_wp2_with fail
      clear y0 y1 y2 y3 y4 y5 y6 u0 u1 u2 u3 u4 u5 u6 x0 x1 x2 x3 x4 x5 x6 f0 f1 f2 f3 f4 f5 f6
      generalize (((((((wf.setCell ⟨g0, 0, none⟩ (.int .i64 A)).setCell ⟨g0, 1, none⟩ (.int .i64 B)).setCell ⟨g0, 2, none⟩ (.int .i64 C)).setCell ⟨g0, 3, none⟩ (.int .i64 D)).setCell ⟨g0, 4, none⟩ (.int .i64 FL)).setCell ⟨g0, 5, none⟩ (.int .i64 E)).setCell ⟨g0, 6, none⟩ (.slice ax M cx)) = wF at hcF hgF hoF ⊢
      obtain ⟨⟨c0, c1, c2, c3, c4, c5, c6⟩, -⟩ := hcF.seven
      exact bodyPost_ret (v := .tuple #[.agg #[.int .i64 A, .int .i64 B, .int .i64 C, .int .i64 D, .int .i64 FL, .int .i64 E, .slice ax M cx], .int .i64 0]) (by simp [results, Tryz.results41, go_sem, c0, c1, c2, c3, c4, c5, c6]) rfl (.inl ⟨HE.out, _, rfl, hoF, hgF⟩)
end Go.Proofs.YtkpejaiigopmgaaGreatDoor
/- The document's decoders of transport: early errors, the whole contracts. -/
namespace Go.Proofs.YtkpejaiigopmgaaGreatDoor
open Go Go.RowKit Go.Sort
set_option maxRecDepth 100000
set_option linter.unusedVariables false
set_option linter.unusedSimpArgs false
set_option linter.unusedVariables false
theorem gN_twoK {l : List Nat} {i : Nat} (h : i + 2 ≤ l.length) : gN l i 2 = gN l i 1 * 256 + gN l (i + 1) 1 := by
  rw [gN_oneK (show i < l.length by omega), gN_oneK (show i + 1 < l.length by omega)]
  unfold gN
  rw [List.drop_eq_getElem_cons (show i < l.length by omega), List.take_succ_cons, List.drop_eq_getElem_cons (show i + 1 < l.length by omega), List.take_succ_cons, List.take_zero, List.getD_eq_getElem?_getD, List.getD_eq_getElem?_getD, List.getElem?_eq_getElem (show i < l.length by omega), List.getElem?_eq_getElem (show i + 1 < l.length by omega)]
  simp [bnum]
set_option maxHeartbeats 1000000 in
theorem rdecho_short {p : Nat → Prop} {v : Value} {l : List Nat} (w : World) (hr : Rb p w v l) (hs : l.length < 8) (hl : l.length ≤ 30000) :
    Calls Tryz.prog 37 #[v] w (DErr w echoZ0 3) := by
  have HR := Lib.hid hr
  have hlt := hr.bytes
  obtain ⟨av, cap, rfl, hcap, hmx⟩ := hr.form
  obtain ⟨L, hL⟩ : ∃ L, L = l.length := ⟨_, rfl⟩
  have HL := Lib.hid hL
  rw [← hL] at HR hl hcap hs ⊢
  clear hL hr
  have hC := CL.new w [.bool false, .int .i64 0, .int .i64 0, .slice none 0 0] 74 _ rfl
  have hS := Gr.alloc (Gr.refl w) (.cells #[.bool false, .int .i64 0, .int .i64 0, .slice none 0 0] 74)
  have d1 : decide ((L : Int) < 8) = true := by rw [decide_eq_true_eq]; omega
  go_enter Tryz.func37, Tryz.ntmps37
  go_upto_region 1 with fail
  have hle : w.heap.size ≤ w.heap.size := Nat.le_refl _
  generalize w.alloc (.cells #[.bool false, .int .i64 0, .int .i64 0, .slice none 0 0] 74) = ww at hC hS ⊢
  generalize hg0 : w.heap.size = g0 at hC ⊢
  replace hle : w.heap.size ≤ g0 := by omega
  clear hg0
  obtain ⟨⟨y0, y1, y2, y3⟩, u0, u1, u2, u3⟩ := hC.four
  have hcF := hC.fill [.bool false, .int .i64 0, .int .i64 0, .slice none 0 0] rfl
  have hgF := hS.fill hle [.bool false, .int .i64 0, .int .i64 0, .slice none 0 0] 0
  simp only [fillC, Nat.reduceAdd] at hcF hgF
  go_wp2_with fail
  clear y0 y1 y2 y3 u0 u1 u2 u3
  generalize ((((ww.setCell ⟨g0, 0, none⟩ (.bool false)).setCell ⟨g0, 1, none⟩ (.int .i64 0)).setCell ⟨g0, 2, none⟩ (.int .i64 0)).setCell ⟨g0, 3, none⟩ (.slice none 0 0)) = wF at hcF hgF ⊢
  obtain ⟨⟨c0, c1, c2, c3⟩, -⟩ := hcF.four
  exact bodyPost_ret (v := .tuple #[.agg #[.bool false, .int .i64 0, .int .i64 0, .slice none 0 0], .int .i64 3]) (by simp [results, Tryz.results37, go_sem, c0, c1, c2, c3]) rfl ⟨rfl, hgF⟩
set_option maxHeartbeats 1000000 in
theorem rdudp_short {p : Nat → Prop} {v : Value} {l : List Nat} (src dst : Nat) (w : World) (hr : Rb p w v l) (hs : l.length < 8) (hl : l.length ≤ 30000) :
    Calls Tryz.prog 40 #[.int .u32 src, .int .u32 dst, v] w (DErr w udpZ0 3) := by
  have HR := Lib.hid hr
  have hlt := hr.bytes
  obtain ⟨av, cap, rfl, hcap, hmx⟩ := hr.form
  obtain ⟨L, hL⟩ : ∃ L, L = l.length := ⟨_, rfl⟩
  have HL := Lib.hid hL
  rw [← hL] at HR hl hcap hs ⊢
  clear hL hr
  have hC := CL.new w [.int .i64 0, .int .i64 0, .slice none 0 0] 60 _ rfl
  have hS := Gr.alloc (Gr.refl w) (.cells #[.int .i64 0, .int .i64 0, .slice none 0 0] 60)
  have d1 : decide ((L : Int) < 8) = true := by rw [decide_eq_true_eq]; omega
  go_enter Tryz.func40, Tryz.ntmps40
  go_upto_region 1 with fail
  have hle : w.heap.size ≤ w.heap.size := Nat.le_refl _
  generalize w.alloc (.cells #[.int .i64 0, .int .i64 0, .slice none 0 0] 60) = ww at hC hS ⊢
  generalize hg0 : w.heap.size = g0 at hC ⊢
  replace hle : w.heap.size ≤ g0 := by omega
  clear hg0
  obtain ⟨⟨y0, y1, y2⟩, u0, u1, u2⟩ := hC.three
  have hcF := hC.fill [.int .i64 0, .int .i64 0, .slice none 0 0] rfl
  have hgF := hS.fill hle [.int .i64 0, .int .i64 0, .slice none 0 0] 0
  simp only [fillC, Nat.reduceAdd] at hcF hgF
  go_wp2_with fail
  clear y0 y1 y2 u0 u1 u2
  generalize (((ww.setCell ⟨g0, 0, none⟩ (.int .i64 0)).setCell ⟨g0, 1, none⟩ (.int .i64 0)).setCell ⟨g0, 2, none⟩ (.slice none 0 0)) = wF at hcF hgF ⊢
  obtain ⟨⟨c0, c1, c2⟩, -⟩ := hcF.three
  exact bodyPost_ret (v := .tuple #[.agg #[.int .i64 0, .int .i64 0, .slice none 0 0], .int .i64 3]) (by simp [results, Tryz.results40, go_sem, c0, c1, c2]) rfl ⟨rfl, hgF⟩
set_option maxHeartbeats 1000000 in
theorem rdtcp_short {p : Nat → Prop} {v : Value} {l : List Nat} (src dst : Nat) (w : World) (hr : Rb p w v l) (hs : l.length < 20) (hl : l.length ≤ 30000) :
    Calls Tryz.prog 41 #[.int .u32 src, .int .u32 dst, v] w (DErr w tcpZ0 3) := by
  have HR := Lib.hid hr
  have hlt := hr.bytes
  obtain ⟨av, cap, rfl, hcap, hmx⟩ := hr.form
  obtain ⟨L, hL⟩ : ∃ L, L = l.length := ⟨_, rfl⟩
  have HL := Lib.hid hL
  rw [← hL] at HR hl hcap hs ⊢
  clear hL hr
  have hC := CL.new w [.int .i64 0, .int .i64 0, .int .i64 0, .int .i64 0, .int .i64 0, .int .i64 0, .slice none 0 0] 80 _ rfl
  have hS := Gr.alloc (Gr.refl w) (.cells #[.int .i64 0, .int .i64 0, .int .i64 0, .int .i64 0, .int .i64 0, .int .i64 0, .slice none 0 0] 80)
  have d1 : decide ((L : Int) < 20) = true := by rw [decide_eq_true_eq]; omega
  go_enter Tryz.func41, Tryz.ntmps41
  go_upto_region 1 with fail
  have hle : w.heap.size ≤ w.heap.size := Nat.le_refl _
  generalize w.alloc (.cells #[.int .i64 0, .int .i64 0, .int .i64 0, .int .i64 0, .int .i64 0, .int .i64 0, .slice none 0 0] 80) = ww at hC hS ⊢
  generalize hg0 : w.heap.size = g0 at hC ⊢
  replace hle : w.heap.size ≤ g0 := by omega
  clear hg0
  obtain ⟨⟨y0, y1, y2, y3, y4, y5, y6⟩, u0, u1, u2, u3, u4, u5, u6⟩ := hC.seven
  have hcF := hC.fill [.int .i64 0, .int .i64 0, .int .i64 0, .int .i64 0, .int .i64 0, .int .i64 0, .slice none 0 0] rfl
  have hgF := hS.fill hle [.int .i64 0, .int .i64 0, .int .i64 0, .int .i64 0, .int .i64 0, .int .i64 0, .slice none 0 0] 0
  simp only [fillC, Nat.reduceAdd] at hcF hgF
  go_wp2_with fail
  clear y0 y1 y2 y3 y4 y5 y6 u0 u1 u2 u3 u4 u5 u6
  generalize (((((((ww.setCell ⟨g0, 0, none⟩ (.int .i64 0)).setCell ⟨g0, 1, none⟩ (.int .i64 0)).setCell ⟨g0, 2, none⟩ (.int .i64 0)).setCell ⟨g0, 3, none⟩ (.int .i64 0)).setCell ⟨g0, 4, none⟩ (.int .i64 0)).setCell ⟨g0, 5, none⟩ (.int .i64 0)).setCell ⟨g0, 6, none⟩ (.slice none 0 0)) = wF at hcF hgF ⊢
  obtain ⟨⟨c0, c1, c2, c3, c4, c5, c6⟩, -⟩ := hcF.seven
  exact bodyPost_ret (v := .tuple #[.agg #[.int .i64 0, .int .i64 0, .int .i64 0, .int .i64 0, .int .i64 0, .int .i64 0, .slice none 0 0], .int .i64 3]) (by simp [results, Tryz.results41, go_sem, c0, c1, c2, c3, c4, c5, c6]) rfl ⟨rfl, hgF⟩
set_option maxHeartbeats 1000000 in
theorem rdecho_form0 {p : Nat → Prop} {v : Value} {l : List Nat} (w : World) (hr : Rb p w v l) (h8 : 8 ≤ l.length) (ha : gN l 0 1 ≠ 8) (hb : gN l 0 1 ≠ 0) (hl : l.length ≤ 30000) :
    Calls Tryz.prog 37 #[v] w (DErr w echoZ0 2) := by
  have HR := Lib.hid hr
  have hlt := hr.bytes
  obtain ⟨av, cap, rfl, hcap, hmx⟩ := hr.form
  obtain ⟨bk, off, rfl, -, -⟩ := hr.at' (i := 0) (by omega)
  obtain ⟨L, hL⟩ : ∃ L, L = l.length := ⟨_, rfl⟩
  have HL := Lib.hid hL
  rw [← hL] at HR hl hcap h8 ⊢
  clear hL hr
  have hC := CL.new w [.bool false, .int .i64 0, .int .i64 0, .slice none 0 0] 74 _ rfl
  have hS := Gr.alloc (Gr.refl w) (.cells #[.bool false, .int .i64 0, .int .i64 0, .slice none 0 0] 74)
  have d1 : decide ((L : Int) < 8) = false := by rw [decide_eq_false_iff_not]; omega
  obtain ⟨bz0, oz0, ez0, -, hz0⟩ := HR.out.at' (i := 0) (by rw [← HL.out]; omega)
  cases ez0
  rw [← gN_oneK (show 0 < l.length by rw [← HL.out]; omega)] at hz0
  rw [Nat.add_zero] at hz0
  generalize gN l 0 1 = B0 at *
  have n1 : ((B0 : Int) != 8) = true := by rw [bne_iff_ne]; omega
  have n2 : ((B0 : Int) != 0) = true := by rw [bne_iff_ne]; omega
  clear ha hb
  go_enter Tryz.func37, Tryz.ntmps37
  go_upto_region 1 with fail
  have hle : w.heap.size ≤ w.heap.size := Nat.le_refl _
  generalize w.alloc (.cells #[.bool false, .int .i64 0, .int .i64 0, .slice none 0 0] 74) = ww at hC hS ⊢
  generalize hg0 : w.heap.size = g0 at hC ⊢
  replace hle : w.heap.size ≤ g0 := by omega
  clear hg0
  have hq0 := cell_gr hS hz0
  obtain ⟨⟨y0, y1, y2, y3⟩, u0, u1, u2, u3⟩ := hC.four
  have hcF := hC.fill [.bool false, .int .i64 0, .int .i64 0, .slice none 0 0] rfl
  have hgF := hS.fill hle [.bool false, .int .i64 0, .int .i64 0, .slice none 0 0] 0
  simp only [fillC, Nat.reduceAdd] at hcF hgF
  go_wp2_with fail
  clear y0 y1 y2 y3 u0 u1 u2 u3
  generalize ((((ww.setCell ⟨g0, 0, none⟩ (.bool false)).setCell ⟨g0, 1, none⟩ (.int .i64 0)).setCell ⟨g0, 2, none⟩ (.int .i64 0)).setCell ⟨g0, 3, none⟩ (.slice none 0 0)) = wF at hcF hgF ⊢
  obtain ⟨⟨c0, c1, c2, c3⟩, -⟩ := hcF.four
  exact bodyPost_ret (v := .tuple #[.agg #[.bool false, .int .i64 0, .int .i64 0, .slice none 0 0], .int .i64 2]) (by simp [results, Tryz.results37, go_sem, c0, c1, c2, c3]) rfl ⟨rfl, hgF⟩
set_option maxHeartbeats 1000000 in
theorem rdecho_form1 {p : Nat → Prop} {v : Value} {l : List Nat} (w : World) (hr : Rb p w v l) (h8 : 8 ≤ l.length) (ha : gN l 0 1 = 8) (h1 : gN l 1 1 ≠ 0) (hl : l.length ≤ 30000) :
    Calls Tryz.prog 37 #[v] w (DErr w echoZ0 2) := by
  have HR := Lib.hid hr
  have hlt := hr.bytes
  obtain ⟨av, cap, rfl, hcap, hmx⟩ := hr.form
  obtain ⟨bk, off, rfl, -, -⟩ := hr.at' (i := 0) (by omega)
  obtain ⟨L, hL⟩ : ∃ L, L = l.length := ⟨_, rfl⟩
  have HL := Lib.hid hL
  rw [← hL] at HR hl hcap h8 ⊢
  clear hL hr
  have hC := CL.new w [.bool false, .int .i64 0, .int .i64 0, .slice none 0 0] 74 _ rfl
  have hS := Gr.alloc (Gr.refl w) (.cells #[.bool false, .int .i64 0, .int .i64 0, .slice none 0 0] 74)
  have d1 : decide ((L : Int) < 8) = false := by rw [decide_eq_false_iff_not]; omega
  obtain ⟨bz0, oz0, ez0, -, hz0⟩ := HR.out.at' (i := 0) (by rw [← HL.out]; omega)
  cases ez0
  rw [← gN_oneK (show 0 < l.length by rw [← HL.out]; omega)] at hz0
  rw [Nat.add_zero] at hz0
  obtain ⟨bz1, oz1, ez1, -, hz1⟩ := HR.out.at' (i := 1) (by rw [← HL.out]; omega)
  cases ez1
  rw [← gN_oneK (show 1 < l.length by rw [← HL.out]; omega)] at hz1
  rw [ha] at hz0
  generalize gN l 1 1 = B1 at *
  have n1 : ((B1 : Int) != 0) = true := by rw [bne_iff_ne]; omega
  clear ha h1
  go_enter Tryz.func37, Tryz.ntmps37
  go_upto_region 1 with fail
  have hle : w.heap.size ≤ w.heap.size := Nat.le_refl _
  generalize w.alloc (.cells #[.bool false, .int .i64 0, .int .i64 0, .slice none 0 0] 74) = ww at hC hS ⊢
  generalize hg0 : w.heap.size = g0 at hC ⊢
  replace hle : w.heap.size ≤ g0 := by omega
  clear hg0
  have hq0 := cell_gr hS hz0
  have hq1 := cell_gr hS hz1
  obtain ⟨⟨y0, y1, y2, y3⟩, u0, u1, u2, u3⟩ := hC.four
  have hcF := hC.fill [.bool false, .int .i64 0, .int .i64 0, .slice none 0 0] rfl
  have hgF := hS.fill hle [.bool false, .int .i64 0, .int .i64 0, .slice none 0 0] 0
  simp only [fillC, Nat.reduceAdd] at hcF hgF
  go_wp2_with fail
  clear y0 y1 y2 y3 u0 u1 u2 u3
  generalize ((((ww.setCell ⟨g0, 0, none⟩ (.bool false)).setCell ⟨g0, 1, none⟩ (.int .i64 0)).setCell ⟨g0, 2, none⟩ (.int .i64 0)).setCell ⟨g0, 3, none⟩ (.slice none 0 0)) = wF at hcF hgF ⊢
  obtain ⟨⟨c0, c1, c2, c3⟩, -⟩ := hcF.four
  exact bodyPost_ret (v := .tuple #[.agg #[.bool false, .int .i64 0, .int .i64 0, .slice none 0 0], .int .i64 2]) (by simp [results, Tryz.results37, go_sem, c0, c1, c2, c3]) rfl ⟨rfl, hgF⟩
set_option maxHeartbeats 1000000 in
theorem rdecho_limit1 {p : Nat → Prop} {v : Value} {l : List Nat} (w : World) (hr : Rb p w v l) (h8 : 8 ≤ l.length) (ha : gN l 0 1 = 8) (h1 : gN l 1 1 = 0) (hm : 1480 < l.length) (hl : l.length ≤ 30000) :
    Calls Tryz.prog 37 #[v] w (DErr w echoZ0 5) := by
  have HR := Lib.hid hr
  have hlt := hr.bytes
  obtain ⟨av, cap, rfl, hcap, hmx⟩ := hr.form
  obtain ⟨bk, off, rfl, -, -⟩ := hr.at' (i := 0) (by omega)
  obtain ⟨L, hL⟩ : ∃ L, L = l.length := ⟨_, rfl⟩
  have HL := Lib.hid hL
  rw [← hL] at HR hl hcap h8 hm ⊢
  clear hL hr
  have hC := CL.new w [.bool false, .int .i64 0, .int .i64 0, .slice none 0 0] 74 _ rfl
  have hS := Gr.alloc (Gr.refl w) (.cells #[.bool false, .int .i64 0, .int .i64 0, .slice none 0 0] 74)
  have d1 : decide ((L : Int) < 8) = false := by rw [decide_eq_false_iff_not]; omega
  obtain ⟨bz0, oz0, ez0, -, hz0⟩ := HR.out.at' (i := 0) (by rw [← HL.out]; omega)
  cases ez0
  rw [← gN_oneK (show 0 < l.length by rw [← HL.out]; omega)] at hz0
  rw [Nat.add_zero] at hz0
  obtain ⟨bz1, oz1, ez1, -, hz1⟩ := HR.out.at' (i := 1) (by rw [← HL.out]; omega)
  cases ez1
  rw [← gN_oneK (show 1 < l.length by rw [← HL.out]; omega)] at hz1
  rw [ha] at hz0
  rw [h1] at hz1
  have d2 : decide ((1480 : Int) < (L : Int)) = true := by rw [decide_eq_true_eq]; omega
  clear ha h1
  go_enter Tryz.func37, Tryz.ntmps37
  go_upto_region 1 with fail
  have hle : w.heap.size ≤ w.heap.size := Nat.le_refl _
  generalize w.alloc (.cells #[.bool false, .int .i64 0, .int .i64 0, .slice none 0 0] 74) = ww at hC hS ⊢
  generalize hg0 : w.heap.size = g0 at hC ⊢
  replace hle : w.heap.size ≤ g0 := by omega
  clear hg0
  have hq0 := cell_gr hS hz0
  have hq1 := cell_gr hS hz1
  obtain ⟨⟨y0, y1, y2, y3⟩, u0, u1, u2, u3⟩ := hC.four
  have hcF := hC.fill [.bool false, .int .i64 0, .int .i64 0, .slice none 0 0] rfl
  have hgF := hS.fill hle [.bool false, .int .i64 0, .int .i64 0, .slice none 0 0] 0
  simp only [fillC, Nat.reduceAdd] at hcF hgF
  go_wp2_with fail
  clear y0 y1 y2 y3 u0 u1 u2 u3
  generalize ((((ww.setCell ⟨g0, 0, none⟩ (.bool false)).setCell ⟨g0, 1, none⟩ (.int .i64 0)).setCell ⟨g0, 2, none⟩ (.int .i64 0)).setCell ⟨g0, 3, none⟩ (.slice none 0 0)) = wF at hcF hgF ⊢
  obtain ⟨⟨c0, c1, c2, c3⟩, -⟩ := hcF.four
  exact bodyPost_ret (v := .tuple #[.agg #[.bool false, .int .i64 0, .int .i64 0, .slice none 0 0], .int .i64 5]) (by simp [results, Tryz.results37, go_sem, c0, c1, c2, c3]) rfl ⟨rfl, hgF⟩
set_option maxHeartbeats 1000000 in
theorem rdecho_form2 {p : Nat → Prop} {v : Value} {l : List Nat} (w : World) (hr : Rb p w v l) (h8 : 8 ≤ l.length) (ha : gN l 0 1 = 0) (h1 : gN l 1 1 ≠ 0) (hl : l.length ≤ 30000) :
    Calls Tryz.prog 37 #[v] w (DErr w echoZ0 2) := by
  have HR := Lib.hid hr
  have hlt := hr.bytes
  obtain ⟨av, cap, rfl, hcap, hmx⟩ := hr.form
  obtain ⟨bk, off, rfl, -, -⟩ := hr.at' (i := 0) (by omega)
  obtain ⟨L, hL⟩ : ∃ L, L = l.length := ⟨_, rfl⟩
  have HL := Lib.hid hL
  rw [← hL] at HR hl hcap h8 ⊢
  clear hL hr
  have hC := CL.new w [.bool false, .int .i64 0, .int .i64 0, .slice none 0 0] 74 _ rfl
  have hS := Gr.alloc (Gr.refl w) (.cells #[.bool false, .int .i64 0, .int .i64 0, .slice none 0 0] 74)
  have d1 : decide ((L : Int) < 8) = false := by rw [decide_eq_false_iff_not]; omega
  obtain ⟨bz0, oz0, ez0, -, hz0⟩ := HR.out.at' (i := 0) (by rw [← HL.out]; omega)
  cases ez0
  rw [← gN_oneK (show 0 < l.length by rw [← HL.out]; omega)] at hz0
  rw [Nat.add_zero] at hz0
  obtain ⟨bz1, oz1, ez1, -, hz1⟩ := HR.out.at' (i := 1) (by rw [← HL.out]; omega)
  cases ez1
  rw [← gN_oneK (show 1 < l.length by rw [← HL.out]; omega)] at hz1
  rw [ha] at hz0
  generalize gN l 1 1 = B1 at *
  have n1 : ((B1 : Int) != 0) = true := by rw [bne_iff_ne]; omega
  clear ha h1
  go_enter Tryz.func37, Tryz.ntmps37
  go_upto_region 1 with fail
  have hle : w.heap.size ≤ w.heap.size := Nat.le_refl _
  generalize w.alloc (.cells #[.bool false, .int .i64 0, .int .i64 0, .slice none 0 0] 74) = ww at hC hS ⊢
  generalize hg0 : w.heap.size = g0 at hC ⊢
  replace hle : w.heap.size ≤ g0 := by omega
  clear hg0
  have hq0 := cell_gr hS hz0
  have hq1 := cell_gr hS hz1
  obtain ⟨⟨y0, y1, y2, y3⟩, u0, u1, u2, u3⟩ := hC.four
  have hcF := hC.fill [.bool false, .int .i64 0, .int .i64 0, .slice none 0 0] rfl
  have hgF := hS.fill hle [.bool false, .int .i64 0, .int .i64 0, .slice none 0 0] 0
  simp only [fillC, Nat.reduceAdd] at hcF hgF
  go_wp2_with fail
  clear y0 y1 y2 y3 u0 u1 u2 u3
  generalize ((((ww.setCell ⟨g0, 0, none⟩ (.bool false)).setCell ⟨g0, 1, none⟩ (.int .i64 0)).setCell ⟨g0, 2, none⟩ (.int .i64 0)).setCell ⟨g0, 3, none⟩ (.slice none 0 0)) = wF at hcF hgF ⊢
  obtain ⟨⟨c0, c1, c2, c3⟩, -⟩ := hcF.four
  exact bodyPost_ret (v := .tuple #[.agg #[.bool false, .int .i64 0, .int .i64 0, .slice none 0 0], .int .i64 2]) (by simp [results, Tryz.results37, go_sem, c0, c1, c2, c3]) rfl ⟨rfl, hgF⟩
set_option maxHeartbeats 1000000 in
theorem rdecho_limit2 {p : Nat → Prop} {v : Value} {l : List Nat} (w : World) (hr : Rb p w v l) (h8 : 8 ≤ l.length) (ha : gN l 0 1 = 0) (h1 : gN l 1 1 = 0) (hm : 1480 < l.length) (hl : l.length ≤ 30000) :
    Calls Tryz.prog 37 #[v] w (DErr w echoZ0 5) := by
  have HR := Lib.hid hr
  have hlt := hr.bytes
  obtain ⟨av, cap, rfl, hcap, hmx⟩ := hr.form
  obtain ⟨bk, off, rfl, -, -⟩ := hr.at' (i := 0) (by omega)
  obtain ⟨L, hL⟩ : ∃ L, L = l.length := ⟨_, rfl⟩
  have HL := Lib.hid hL
  rw [← hL] at HR hl hcap h8 hm ⊢
  clear hL hr
  have hC := CL.new w [.bool false, .int .i64 0, .int .i64 0, .slice none 0 0] 74 _ rfl
  have hS := Gr.alloc (Gr.refl w) (.cells #[.bool false, .int .i64 0, .int .i64 0, .slice none 0 0] 74)
  have d1 : decide ((L : Int) < 8) = false := by rw [decide_eq_false_iff_not]; omega
  obtain ⟨bz0, oz0, ez0, -, hz0⟩ := HR.out.at' (i := 0) (by rw [← HL.out]; omega)
  cases ez0
  rw [← gN_oneK (show 0 < l.length by rw [← HL.out]; omega)] at hz0
  rw [Nat.add_zero] at hz0
  obtain ⟨bz1, oz1, ez1, -, hz1⟩ := HR.out.at' (i := 1) (by rw [← HL.out]; omega)
  cases ez1
  rw [← gN_oneK (show 1 < l.length by rw [← HL.out]; omega)] at hz1
  rw [ha] at hz0
  rw [h1] at hz1
  have d2 : decide ((1480 : Int) < (L : Int)) = true := by rw [decide_eq_true_eq]; omega
  clear ha h1
  go_enter Tryz.func37, Tryz.ntmps37
  go_upto_region 1 with fail
  have hle : w.heap.size ≤ w.heap.size := Nat.le_refl _
  generalize w.alloc (.cells #[.bool false, .int .i64 0, .int .i64 0, .slice none 0 0] 74) = ww at hC hS ⊢
  generalize hg0 : w.heap.size = g0 at hC ⊢
  replace hle : w.heap.size ≤ g0 := by omega
  clear hg0
  have hq0 := cell_gr hS hz0
  have hq1 := cell_gr hS hz1
  obtain ⟨⟨y0, y1, y2, y3⟩, u0, u1, u2, u3⟩ := hC.four
  have hcF := hC.fill [.bool false, .int .i64 0, .int .i64 0, .slice none 0 0] rfl
  have hgF := hS.fill hle [.bool false, .int .i64 0, .int .i64 0, .slice none 0 0] 0
  simp only [fillC, Nat.reduceAdd] at hcF hgF
  go_wp2_with fail
  clear y0 y1 y2 y3 u0 u1 u2 u3
  generalize ((((ww.setCell ⟨g0, 0, none⟩ (.bool false)).setCell ⟨g0, 1, none⟩ (.int .i64 0)).setCell ⟨g0, 2, none⟩ (.int .i64 0)).setCell ⟨g0, 3, none⟩ (.slice none 0 0)) = wF at hcF hgF ⊢
  obtain ⟨⟨c0, c1, c2, c3⟩, -⟩ := hcF.four
  exact bodyPost_ret (v := .tuple #[.agg #[.bool false, .int .i64 0, .int .i64 0, .slice none 0 0], .int .i64 5]) (by simp [results, Tryz.results37, go_sem, c0, c1, c2, c3]) rfl ⟨rfl, hgF⟩
set_option maxHeartbeats 1000000 in
theorem rdudp_form {p : Nat → Prop} {v : Value} {l : List Nat} (src dst : Nat) (w : World) (hr : Rb p w v l) (h8 : 8 ≤ l.length) (ha : gN l 4 2 ≠ l.length) (hl : l.length ≤ 30000) :
    Calls Tryz.prog 40 #[.int .u32 src, .int .u32 dst, v] w (DErr w udpZ0 2) := by
  have HR := Lib.hid hr
  have hlt := hr.bytes
  obtain ⟨av, cap, rfl, hcap, hmx⟩ := hr.form
  obtain ⟨bk, off, rfl, -, -⟩ := hr.at' (i := 0) (by omega)
  obtain ⟨L, hL⟩ : ∃ L, L = l.length := ⟨_, rfl⟩
  have HL := Lib.hid hL
  rw [← hL] at HR hl hcap h8 ha ⊢
  clear hL hr
  have hC := CL.new w [.int .i64 0, .int .i64 0, .slice none 0 0] 60 _ rfl
  have hS := Gr.alloc (Gr.refl w) (.cells #[.int .i64 0, .int .i64 0, .slice none 0 0] 60)
  have d1 : decide ((L : Int) < 8) = false := by rw [decide_eq_false_iff_not]; omega
  have HG4 := Lib.hid (fun W (g : Gr w W) => rat_any 4 2 W (HR.out.gr g) (by omega) (by omega) (by rw [← HL.out]; omega) (by rw [← HL.out]; omega))
  generalize gN l 4 2 = C4 at *
  have n1 : ((C4 : Int) != (L : Int)) = true := by rw [bne_iff_ne]; omega
  clear ha
  go_enter Tryz.func40, Tryz.ntmps40
  go_upto_region 1 with fail
  have hle : w.heap.size ≤ w.heap.size := Nat.le_refl _
  generalize w.alloc (.cells #[.int .i64 0, .int .i64 0, .slice none 0 0] 60) = ww at hC hS ⊢
  generalize hg0 : w.heap.size = g0 at hC ⊢
  replace hle : w.heap.size ≤ g0 := by omega
  clear hg0
  go_wp2_with fail
  refine (HG4.out _ hS).mono ?_
  rintro e wj ⟨rfl, rfl⟩
  obtain ⟨⟨y0, y1, y2⟩, u0, u1, u2⟩ := hC.three
  have hcF := hC.fill [.int .i64 0, .int .i64 0, .slice none 0 0] rfl
  have hgF := hS.fill hle [.int .i64 0, .int .i64 0, .slice none 0 0] 0
  simp only [fillC, Nat.reduceAdd] at hcF hgF
  go_wp2_with fail
  clear y0 y1 y2 u0 u1 u2
  generalize (((ww.setCell ⟨g0, 0, none⟩ (.int .i64 0)).setCell ⟨g0, 1, none⟩ (.int .i64 0)).setCell ⟨g0, 2, none⟩ (.slice none 0 0)) = wF at hcF hgF ⊢
  obtain ⟨⟨c0, c1, c2⟩, -⟩ := hcF.three
  exact bodyPost_ret (v := .tuple #[.agg #[.int .i64 0, .int .i64 0, .slice none 0 0], .int .i64 2]) (by simp [results, Tryz.results40, go_sem, c0, c1, c2]) rfl ⟨rfl, hgF⟩
set_option maxHeartbeats 1000000 in
theorem rdudp_limit {p : Nat → Prop} {v : Value} {l : List Nat} (src dst : Nat) (w : World) (hr : Rb p w v l) (h8 : 8 ≤ l.length) (ha : gN l 4 2 = l.length) (hm : 1480 < l.length) (hl : l.length ≤ 30000) :
    Calls Tryz.prog 40 #[.int .u32 src, .int .u32 dst, v] w (DErr w udpZ0 5) := by
  have HR := Lib.hid hr
  have hlt := hr.bytes
  obtain ⟨av, cap, rfl, hcap, hmx⟩ := hr.form
  obtain ⟨bk, off, rfl, -, -⟩ := hr.at' (i := 0) (by omega)
  obtain ⟨L, hL⟩ : ∃ L, L = l.length := ⟨_, rfl⟩
  have HL := Lib.hid hL
  rw [← hL] at HR hl hcap h8 ha hm ⊢
  clear hL hr
  have hC := CL.new w [.int .i64 0, .int .i64 0, .slice none 0 0] 60 _ rfl
  have hS := Gr.alloc (Gr.refl w) (.cells #[.int .i64 0, .int .i64 0, .slice none 0 0] 60)
  have d1 : decide ((L : Int) < 8) = false := by rw [decide_eq_false_iff_not]; omega
  have HG4 := Lib.hid (fun W (g : Gr w W) => rat_any 4 2 W (HR.out.gr g) (by omega) (by omega) (by rw [← HL.out]; omega) (by rw [← HL.out]; omega))
  rw [ha] at HG4
  have d2 : decide ((1480 : Int) < (L : Int)) = true := by rw [decide_eq_true_eq]; omega
  clear ha
  go_enter Tryz.func40, Tryz.ntmps40
  go_upto_region 1 with fail
  have hle : w.heap.size ≤ w.heap.size := Nat.le_refl _
  generalize w.alloc (.cells #[.int .i64 0, .int .i64 0, .slice none 0 0] 60) = ww at hC hS ⊢
  generalize hg0 : w.heap.size = g0 at hC ⊢
  replace hle : w.heap.size ≤ g0 := by omega
  clear hg0
  go_wp2_with fail
  refine (HG4.out _ hS).mono ?_
  rintro e wj ⟨rfl, rfl⟩
  obtain ⟨⟨y0, y1, y2⟩, u0, u1, u2⟩ := hC.three
  have hcF := hC.fill [.int .i64 0, .int .i64 0, .slice none 0 0] rfl
  have hgF := hS.fill hle [.int .i64 0, .int .i64 0, .slice none 0 0] 0
  simp only [fillC, Nat.reduceAdd] at hcF hgF
  go_wp2_with fail
  clear y0 y1 y2 u0 u1 u2
  generalize (((ww.setCell ⟨g0, 0, none⟩ (.int .i64 0)).setCell ⟨g0, 1, none⟩ (.int .i64 0)).setCell ⟨g0, 2, none⟩ (.slice none 0 0)) = wF at hcF hgF ⊢
  obtain ⟨⟨c0, c1, c2⟩, -⟩ := hcF.three
  exact bodyPost_ret (v := .tuple #[.agg #[.int .i64 0, .int .i64 0, .slice none 0 0], .int .i64 5]) (by simp [results, Tryz.results40, go_sem, c0, c1, c2]) rfl ⟨rfl, hgF⟩
set_option maxHeartbeats 1000000 in
theorem rdtcp_form12 {p : Nat → Prop} {v : Value} {l : List Nat} (src dst : Nat) (w : World) (hr : Rb p w v l) (h8 : 20 ≤ l.length) (ha : gN l 12 1 ≠ 80) (hl : l.length ≤ 30000) :
    Calls Tryz.prog 41 #[.int .u32 src, .int .u32 dst, v] w (DErr w tcpZ0 2) := by
  have HR := Lib.hid hr
  have hlt := hr.bytes
  obtain ⟨av, cap, rfl, hcap, hmx⟩ := hr.form
  obtain ⟨bk, off, rfl, -, -⟩ := hr.at' (i := 0) (by omega)
  obtain ⟨L, hL⟩ : ∃ L, L = l.length := ⟨_, rfl⟩
  have HL := Lib.hid hL
  rw [← hL] at HR hl hcap h8 ⊢
  clear hL hr
  have hC := CL.new w [.int .i64 0, .int .i64 0, .int .i64 0, .int .i64 0, .int .i64 0, .int .i64 0, .slice none 0 0] 80 _ rfl
  have hS := Gr.alloc (Gr.refl w) (.cells #[.int .i64 0, .int .i64 0, .int .i64 0, .int .i64 0, .int .i64 0, .int .i64 0, .slice none 0 0] 80)
  have d1 : decide ((L : Int) < 20) = false := by rw [decide_eq_false_iff_not]; omega
  obtain ⟨bz12, oz12, ez12, -, hz12⟩ := HR.out.at' (i := 12) (by rw [← HL.out]; omega)
  cases ez12
  rw [← gN_oneK (show 12 < l.length by rw [← HL.out]; omega)] at hz12
  generalize gN l 12 1 = B0 at *
  have n1 : ((B0 : Int) != 80) = true := by rw [bne_iff_ne]; omega
  clear ha
  go_enter Tryz.func41, Tryz.ntmps41
  go_upto_region 1 with fail
  have hle : w.heap.size ≤ w.heap.size := Nat.le_refl _
  generalize w.alloc (.cells #[.int .i64 0, .int .i64 0, .int .i64 0, .int .i64 0, .int .i64 0, .int .i64 0, .slice none 0 0] 80) = ww at hC hS ⊢
  generalize hg0 : w.heap.size = g0 at hC ⊢
  replace hle : w.heap.size ≤ g0 := by omega
  clear hg0
  have hq12 := cell_gr hS hz12
  obtain ⟨⟨y0, y1, y2, y3, y4, y5, y6⟩, u0, u1, u2, u3, u4, u5, u6⟩ := hC.seven
  have hcF := hC.fill [.int .i64 0, .int .i64 0, .int .i64 0, .int .i64 0, .int .i64 0, .int .i64 0, .slice none 0 0] rfl
  have hgF := hS.fill hle [.int .i64 0, .int .i64 0, .int .i64 0, .int .i64 0, .int .i64 0, .int .i64 0, .slice none 0 0] 0
  simp only [fillC, Nat.reduceAdd] at hcF hgF
  go_wp2_with fail
  clear y0 y1 y2 y3 y4 y5 y6 u0 u1 u2 u3 u4 u5 u6
  generalize (((((((ww.setCell ⟨g0, 0, none⟩ (.int .i64 0)).setCell ⟨g0, 1, none⟩ (.int .i64 0)).setCell ⟨g0, 2, none⟩ (.int .i64 0)).setCell ⟨g0, 3, none⟩ (.int .i64 0)).setCell ⟨g0, 4, none⟩ (.int .i64 0)).setCell ⟨g0, 5, none⟩ (.int .i64 0)).setCell ⟨g0, 6, none⟩ (.slice none 0 0)) = wF at hcF hgF ⊢
  obtain ⟨⟨c0, c1, c2, c3, c4, c5, c6⟩, -⟩ := hcF.seven
  exact bodyPost_ret (v := .tuple #[.agg #[.int .i64 0, .int .i64 0, .int .i64 0, .int .i64 0, .int .i64 0, .int .i64 0, .slice none 0 0], .int .i64 2]) (by simp [results, Tryz.results41, go_sem, c0, c1, c2, c3, c4, c5, c6]) rfl ⟨rfl, hgF⟩
set_option maxHeartbeats 1000000 in
theorem rdtcp_form18 {p : Nat → Prop} {v : Value} {l : List Nat} (src dst : Nat) (w : World) (hr : Rb p w v l) (h8 : 20 ≤ l.length) (ha : gN l 12 1 = 80) (hb : gN l 18 1 ≠ 0) (hl : l.length ≤ 30000) :
    Calls Tryz.prog 41 #[.int .u32 src, .int .u32 dst, v] w (DErr w tcpZ0 2) := by
  have HR := Lib.hid hr
  have hlt := hr.bytes
  obtain ⟨av, cap, rfl, hcap, hmx⟩ := hr.form
  obtain ⟨bk, off, rfl, -, -⟩ := hr.at' (i := 0) (by omega)
  obtain ⟨L, hL⟩ : ∃ L, L = l.length := ⟨_, rfl⟩
  have HL := Lib.hid hL
  rw [← hL] at HR hl hcap h8 ⊢
  clear hL hr
  have hC := CL.new w [.int .i64 0, .int .i64 0, .int .i64 0, .int .i64 0, .int .i64 0, .int .i64 0, .slice none 0 0] 80 _ rfl
  have hS := Gr.alloc (Gr.refl w) (.cells #[.int .i64 0, .int .i64 0, .int .i64 0, .int .i64 0, .int .i64 0, .int .i64 0, .slice none 0 0] 80)
  have d1 : decide ((L : Int) < 20) = false := by rw [decide_eq_false_iff_not]; omega
  obtain ⟨bz12, oz12, ez12, -, hz12⟩ := HR.out.at' (i := 12) (by rw [← HL.out]; omega)
  cases ez12
  rw [← gN_oneK (show 12 < l.length by rw [← HL.out]; omega)] at hz12
  obtain ⟨bz18, oz18, ez18, -, hz18⟩ := HR.out.at' (i := 18) (by rw [← HL.out]; omega)
  cases ez18
  rw [← gN_oneK (show 18 < l.length by rw [← HL.out]; omega)] at hz18
  rw [ha] at hz12
  generalize gN l 18 1 = B0 at *
  have n1 : ((B0 : Int) != 0) = true := by rw [bne_iff_ne]; omega
  clear ha hb
  go_enter Tryz.func41, Tryz.ntmps41
  go_upto_region 1 with fail
  have hle : w.heap.size ≤ w.heap.size := Nat.le_refl _
  generalize w.alloc (.cells #[.int .i64 0, .int .i64 0, .int .i64 0, .int .i64 0, .int .i64 0, .int .i64 0, .slice none 0 0] 80) = ww at hC hS ⊢
  generalize hg0 : w.heap.size = g0 at hC ⊢
  replace hle : w.heap.size ≤ g0 := by omega
  clear hg0
  have hq12 := cell_gr hS hz12
  have hq18 := cell_gr hS hz18
  obtain ⟨⟨y0, y1, y2, y3, y4, y5, y6⟩, u0, u1, u2, u3, u4, u5, u6⟩ := hC.seven
  have hcF := hC.fill [.int .i64 0, .int .i64 0, .int .i64 0, .int .i64 0, .int .i64 0, .int .i64 0, .slice none 0 0] rfl
  have hgF := hS.fill hle [.int .i64 0, .int .i64 0, .int .i64 0, .int .i64 0, .int .i64 0, .int .i64 0, .slice none 0 0] 0
  simp only [fillC, Nat.reduceAdd] at hcF hgF
  go_wp2_with fail
  clear y0 y1 y2 y3 y4 y5 y6 u0 u1 u2 u3 u4 u5 u6
  generalize (((((((ww.setCell ⟨g0, 0, none⟩ (.int .i64 0)).setCell ⟨g0, 1, none⟩ (.int .i64 0)).setCell ⟨g0, 2, none⟩ (.int .i64 0)).setCell ⟨g0, 3, none⟩ (.int .i64 0)).setCell ⟨g0, 4, none⟩ (.int .i64 0)).setCell ⟨g0, 5, none⟩ (.int .i64 0)).setCell ⟨g0, 6, none⟩ (.slice none 0 0)) = wF at hcF hgF ⊢
  obtain ⟨⟨c0, c1, c2, c3, c4, c5, c6⟩, -⟩ := hcF.seven
  exact bodyPost_ret (v := .tuple #[.agg #[.int .i64 0, .int .i64 0, .int .i64 0, .int .i64 0, .int .i64 0, .int .i64 0, .slice none 0 0], .int .i64 2]) (by simp [results, Tryz.results41, go_sem, c0, c1, c2, c3, c4, c5, c6]) rfl ⟨rfl, hgF⟩
set_option maxHeartbeats 1000000 in
theorem rdtcp_form19 {p : Nat → Prop} {v : Value} {l : List Nat} (src dst : Nat) (w : World) (hr : Rb p w v l) (h8 : 20 ≤ l.length) (ha : gN l 12 1 = 80) (hb : gN l 18 1 = 0) (hc : gN l 19 1 ≠ 0) (hl : l.length ≤ 30000) :
    Calls Tryz.prog 41 #[.int .u32 src, .int .u32 dst, v] w (DErr w tcpZ0 2) := by
  have HR := Lib.hid hr
  have hlt := hr.bytes
  obtain ⟨av, cap, rfl, hcap, hmx⟩ := hr.form
  obtain ⟨bk, off, rfl, -, -⟩ := hr.at' (i := 0) (by omega)
  obtain ⟨L, hL⟩ : ∃ L, L = l.length := ⟨_, rfl⟩
  have HL := Lib.hid hL
  rw [← hL] at HR hl hcap h8 ⊢
  clear hL hr
  have hC := CL.new w [.int .i64 0, .int .i64 0, .int .i64 0, .int .i64 0, .int .i64 0, .int .i64 0, .slice none 0 0] 80 _ rfl
  have hS := Gr.alloc (Gr.refl w) (.cells #[.int .i64 0, .int .i64 0, .int .i64 0, .int .i64 0, .int .i64 0, .int .i64 0, .slice none 0 0] 80)
  have d1 : decide ((L : Int) < 20) = false := by rw [decide_eq_false_iff_not]; omega
  obtain ⟨bz12, oz12, ez12, -, hz12⟩ := HR.out.at' (i := 12) (by rw [← HL.out]; omega)
  cases ez12
  rw [← gN_oneK (show 12 < l.length by rw [← HL.out]; omega)] at hz12
  obtain ⟨bz18, oz18, ez18, -, hz18⟩ := HR.out.at' (i := 18) (by rw [← HL.out]; omega)
  cases ez18
  rw [← gN_oneK (show 18 < l.length by rw [← HL.out]; omega)] at hz18
  obtain ⟨bz19, oz19, ez19, -, hz19⟩ := HR.out.at' (i := 19) (by rw [← HL.out]; omega)
  cases ez19
  rw [← gN_oneK (show 19 < l.length by rw [← HL.out]; omega)] at hz19
  rw [ha] at hz12
  rw [hb] at hz18
  generalize gN l 19 1 = B0 at *
  have n1 : ((B0 : Int) != 0) = true := by rw [bne_iff_ne]; omega
  clear ha hb hc
  go_enter Tryz.func41, Tryz.ntmps41
  go_upto_region 1 with fail
  have hle : w.heap.size ≤ w.heap.size := Nat.le_refl _
  generalize w.alloc (.cells #[.int .i64 0, .int .i64 0, .int .i64 0, .int .i64 0, .int .i64 0, .int .i64 0, .slice none 0 0] 80) = ww at hC hS ⊢
  generalize hg0 : w.heap.size = g0 at hC ⊢
  replace hle : w.heap.size ≤ g0 := by omega
  clear hg0
  have hq12 := cell_gr hS hz12
  have hq18 := cell_gr hS hz18
  have hq19 := cell_gr hS hz19
  obtain ⟨⟨y0, y1, y2, y3, y4, y5, y6⟩, u0, u1, u2, u3, u4, u5, u6⟩ := hC.seven
  have hcF := hC.fill [.int .i64 0, .int .i64 0, .int .i64 0, .int .i64 0, .int .i64 0, .int .i64 0, .slice none 0 0] rfl
  have hgF := hS.fill hle [.int .i64 0, .int .i64 0, .int .i64 0, .int .i64 0, .int .i64 0, .int .i64 0, .slice none 0 0] 0
  simp only [fillC, Nat.reduceAdd] at hcF hgF
  go_wp2_with fail
  clear y0 y1 y2 y3 y4 y5 y6 u0 u1 u2 u3 u4 u5 u6
  generalize (((((((ww.setCell ⟨g0, 0, none⟩ (.int .i64 0)).setCell ⟨g0, 1, none⟩ (.int .i64 0)).setCell ⟨g0, 2, none⟩ (.int .i64 0)).setCell ⟨g0, 3, none⟩ (.int .i64 0)).setCell ⟨g0, 4, none⟩ (.int .i64 0)).setCell ⟨g0, 5, none⟩ (.int .i64 0)).setCell ⟨g0, 6, none⟩ (.slice none 0 0)) = wF at hcF hgF ⊢
  obtain ⟨⟨c0, c1, c2, c3, c4, c5, c6⟩, -⟩ := hcF.seven
  exact bodyPost_ret (v := .tuple #[.agg #[.int .i64 0, .int .i64 0, .int .i64 0, .int .i64 0, .int .i64 0, .int .i64 0, .slice none 0 0], .int .i64 2]) (by simp [results, Tryz.results41, go_sem, c0, c1, c2, c3, c4, c5, c6]) rfl ⟨rfl, hgF⟩
set_option maxHeartbeats 1000000 in
theorem rdtcp_limit {p : Nat → Prop} {v : Value} {l : List Nat} (src dst : Nat) (w : World) (hr : Rb p w v l) (h8 : 20 ≤ l.length) (ha : gN l 12 1 = 80) (hb : gN l 18 1 = 0) (hc : gN l 19 1 = 0) (hm : 1480 < l.length) (hl : l.length ≤ 30000) :
    Calls Tryz.prog 41 #[.int .u32 src, .int .u32 dst, v] w (DErr w tcpZ0 5) := by
  have HR := Lib.hid hr
  have hlt := hr.bytes
  obtain ⟨av, cap, rfl, hcap, hmx⟩ := hr.form
  obtain ⟨bk, off, rfl, -, -⟩ := hr.at' (i := 0) (by omega)
  obtain ⟨L, hL⟩ : ∃ L, L = l.length := ⟨_, rfl⟩
  have HL := Lib.hid hL
  rw [← hL] at HR hl hcap h8 hm ⊢
  clear hL hr
  have hC := CL.new w [.int .i64 0, .int .i64 0, .int .i64 0, .int .i64 0, .int .i64 0, .int .i64 0, .slice none 0 0] 80 _ rfl
  have hS := Gr.alloc (Gr.refl w) (.cells #[.int .i64 0, .int .i64 0, .int .i64 0, .int .i64 0, .int .i64 0, .int .i64 0, .slice none 0 0] 80)
  have d1 : decide ((L : Int) < 20) = false := by rw [decide_eq_false_iff_not]; omega
  obtain ⟨bz12, oz12, ez12, -, hz12⟩ := HR.out.at' (i := 12) (by rw [← HL.out]; omega)
  cases ez12
  rw [← gN_oneK (show 12 < l.length by rw [← HL.out]; omega)] at hz12
  obtain ⟨bz18, oz18, ez18, -, hz18⟩ := HR.out.at' (i := 18) (by rw [← HL.out]; omega)
  cases ez18
  rw [← gN_oneK (show 18 < l.length by rw [← HL.out]; omega)] at hz18
  obtain ⟨bz19, oz19, ez19, -, hz19⟩ := HR.out.at' (i := 19) (by rw [← HL.out]; omega)
  cases ez19
  rw [← gN_oneK (show 19 < l.length by rw [← HL.out]; omega)] at hz19
  rw [ha] at hz12
  rw [hb] at hz18
  rw [hc] at hz19
  have d2 : decide ((1480 : Int) < (L : Int)) = true := by rw [decide_eq_true_eq]; omega
  clear ha hb hc
  go_enter Tryz.func41, Tryz.ntmps41
  go_upto_region 1 with fail
  have hle : w.heap.size ≤ w.heap.size := Nat.le_refl _
  generalize w.alloc (.cells #[.int .i64 0, .int .i64 0, .int .i64 0, .int .i64 0, .int .i64 0, .int .i64 0, .slice none 0 0] 80) = ww at hC hS ⊢
  generalize hg0 : w.heap.size = g0 at hC ⊢
  replace hle : w.heap.size ≤ g0 := by omega
  clear hg0
  have hq12 := cell_gr hS hz12
  have hq18 := cell_gr hS hz18
  have hq19 := cell_gr hS hz19
  obtain ⟨⟨y0, y1, y2, y3, y4, y5, y6⟩, u0, u1, u2, u3, u4, u5, u6⟩ := hC.seven
  have hcF := hC.fill [.int .i64 0, .int .i64 0, .int .i64 0, .int .i64 0, .int .i64 0, .int .i64 0, .slice none 0 0] rfl
  have hgF := hS.fill hle [.int .i64 0, .int .i64 0, .int .i64 0, .int .i64 0, .int .i64 0, .int .i64 0, .slice none 0 0] 0
  simp only [fillC, Nat.reduceAdd] at hcF hgF
  go_wp2_with fail
  clear y0 y1 y2 y3 y4 y5 y6 u0 u1 u2 u3 u4 u5 u6
  generalize (((((((ww.setCell ⟨g0, 0, none⟩ (.int .i64 0)).setCell ⟨g0, 1, none⟩ (.int .i64 0)).setCell ⟨g0, 2, none⟩ (.int .i64 0)).setCell ⟨g0, 3, none⟩ (.int .i64 0)).setCell ⟨g0, 4, none⟩ (.int .i64 0)).setCell ⟨g0, 5, none⟩ (.int .i64 0)).setCell ⟨g0, 6, none⟩ (.slice none 0 0)) = wF at hcF hgF ⊢
  obtain ⟨⟨c0, c1, c2, c3, c4, c5, c6⟩, -⟩ := hcF.seven
  exact bodyPost_ret (v := .tuple #[.agg #[.int .i64 0, .int .i64 0, .int .i64 0, .int .i64 0, .int .i64 0, .int .i64 0, .slice none 0 0], .int .i64 5]) (by simp [results, Tryz.results41, go_sem, c0, c1, c2, c3, c4, c5, c6]) rfl ⟨rfl, hgF⟩
end Go.Proofs.YtkpejaiigopmgaaGreatDoor
