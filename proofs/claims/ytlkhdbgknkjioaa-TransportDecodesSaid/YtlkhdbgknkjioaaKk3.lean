/- The document decodes datagrams. -/
import Derived.Test.YtlkhdbgknkjioaaKk0
import Derived.WalkKit
import Derived.WalkSpells
import Derived.WalkLawsBesides
import Derived.WalkSmall
import Derived.Handy
import Derived.BigQuiet
import Derived.Deep.QuietTactic
import Derived.Deep.RegionHeld3
import Derived.Deep.DeepFit
import Derived.Below
import Derived.Lib.Hide
import Derived.Lib.QuietBelow
import Derived.Deep.DeepCutAuto
namespace Go.Proofs.Ytlkhdbgknkjioaa
open Go Go.RowKit Go.Sort
set_option maxRecDepth 100000
set_option linter.unusedVariables false
set_option linter.unusedSimpArgs false
set_option linter.unusedVariables false
set_option maxHeartbeats 1000000 in
theorem rdudp_late {p : Nat → Prop} {v : Value} {l : List Nat} (src dst : Nat) (w : World) (hr : Rb p w v l) (hsr : src < 4294967296) (hds : dst < 4294967296) (hlen : 8 ≤ l.length) (hl : l.length ≤ 1480) (h4 : gN l 4 2 = l.length) :
    Calls Try.prog 53 #[.int .u32 src, .int .u32 dst, v] w (fun e w' => (vE (sU src dst) 6 l = 0 ∧ ∃ v', e = .returned (.tuple #[.agg #[.int .i64 (gN l 0 2 : Nat), .int .i64 (gN l 2 2 : Nat), v'], .int .i64 0]) ∧ OwB w.heap.size w' v' (l.drop 8) ∧ Gr w w') ∨ (vE (sU src dst) 6 l = 4 ∧ e = .returned (.tuple #[.agg #[.int .i64 0, .int .i64 0, .slice none 0 0], .int .i64 4]) ∧ Gr w w')) := by
  have HR := Lib.hid hr
  have hlt := hr.bytes
  obtain ⟨av, cap, rfl, hcap, hmx⟩ := hr.form
  obtain ⟨bk, off, rfl, -, -⟩ := hr.at' (i := 0) (by omega)
  obtain ⟨L, hL⟩ : ∃ L, L = l.length := ⟨_, rfl⟩
  have HL := Lib.hid hL
  rw [← hL] at HR hl hcap hlen h4 ⊢
  clear hL hr
  have hC := CL.new w [.int .i64 0, .int .i64 0, .slice none 0 0] 41 _ rfl
  have hS := Gr.alloc (Gr.refl w) (.cells #[.int .i64 0, .int .i64 0, .slice none 0 0] 41)
  have d1 : decide ((L : Int) < 8) = false := by rw [decide_eq_false_iff_not]; omega
  have d2 : decide ((1480 : Int) < (L : Int)) = false := by rw [decide_eq_false_iff_not]; omega
  obtain ⟨M, hMM⟩ : ∃ M, M = L - 8 := ⟨_, rfl⟩
  have hM2 : M ≤ 1472 := by omega
  have HMM := Lib.hid hMM
  clear hMM
  have HT := Lib.hid (HR.out.tail (k := 8) (by rw [← HL.out]; omega))
  have HG0 := Lib.hid (fun W (g : Gr w W) => rat_any 0 2 W (HR.out.gr g) (by omega) (by omega) (by rw [← HL.out]; omega) (by rw [← HL.out]; omega))
  have HG2 := Lib.hid (fun W (g : Gr w W) => rat_any 2 2 W (HR.out.gr g) (by omega) (by omega) (by rw [← HL.out]; omega) (by rw [← HL.out]; omega))
  have HGL := Lib.hid (fun W (g : Gr w W) => rat_any 4 2 W (HR.out.gr g) (by omega) (by omega) (by rw [← HL.out]; omega) (by rw [← HL.out]; omega))
  have hA : gN l 0 2 < 65536 := gN_lt hlt 0 2
  have hB : gN l 2 2 < 65536 := gN_lt hlt 2 2
  have HRE0 := udp_re (src := src) (dst := dst) hlt (by rw [← HL.out]; omega) (h4.trans HL.out)
  rw [h4] at HGL
  have hcases : (vE (sU src dst) 6 l = 0 ∧ l = msg (sU src dst) (l.take 6) (l.drop 8)) ∨ (vE (sU src dst) 6 l = 4 ∧ ¬ l = msg (sU src dst) (l.take 6) (l.drop 8)) := by
    by_cases h : l = msg (sU src dst) (l.take 6) (l.drop 8)
    · exact .inl ⟨vE_ok (by rw [← HL.out]; omega) h, h⟩
    · exact .inr ⟨vE_bad (by rw [← HL.out]; omega) h, h⟩
  obtain ⟨cc, hcc0⟩ : ∃ cc, cc = decide (msg (sU src dst) (l.take 6) (l.drop 8) = l) := ⟨_, rfl⟩
  have HCF : Hid (cc = false → vE (sU src dst) 6 l = 4) := Lib.hid (fun h => by
    rcases hcases with ⟨_, h2⟩ | ⟨h1, _⟩
    · rw [hcc0, decide_eq_false_iff_not] at h; exact absurd h2.symm h
    · exact h1)
  have HCT : Hid (cc = true → vE (sU src dst) 6 l = 0) := Lib.hid (fun h => by
    rcases hcases with ⟨h1, _⟩ | ⟨_, h2⟩
    · exact h1
    · rw [hcc0, decide_eq_true_eq] at h; exact absurd h.symm h2)
  have HRL : Hid ((msg (sU src dst) (l.take 6) (l.drop 8)).length = L) := Lib.hid (by rw [msg_len, List.length_take, List.length_drop, ← HL.out]; omega)
  have HRE := Lib.hid HRE0
  have hcc := hcc0
  clear hcases HRE0 hcc0 hlt
  clear h4
  generalize msg (sU src dst) (l.take 6) (l.drop 8) = LM at *
  generalize gN l 0 2 = A at *
  generalize gN l 2 2 = B at *
  generalize vE (sU src dst) 6 l = V at *
  go_enter Try.func53, Try.ntmps53
  go_upto_region 1 with fail
  have hle : w.heap.size ≤ w.heap.size := Nat.le_refl _
  generalize w.alloc (.cells #[.int .i64 0, .int .i64 0, .slice none 0 0] 41) = ww at hC hS ⊢
  generalize hg0 : w.heap.size = g0 at hC ⊢
  replace hle : w.heap.size ≤ g0 := by omega
  clear hg0
  go_wp2_with fail
  refine (HGL.out _ hS).mono ?_
  rintro e wj ⟨rfl, rfl⟩
  clear HGL
  obtain ⟨⟨y0, y1, y2⟩, u0, u1, u2⟩ := hC.three
  go_wp2_with fail
  have HML : Hid ((l.drop 8).length = M) := Lib.hid (by rw [HMM.out, List.length_drop, ← HL.out])
  have HTL := Lib.hid (show (l.drop 8).length ≤ 30000 by rw [HML.out]; omega)
  clear y0 y1 y2 u0 u1 u2
  obtain ⟨aq, haq⟩ : ∃ aq, aq = (if cap = 8 then some (⟨bk, off, none⟩ : Addr) else some ⟨bk, off + 8, none⟩) := ⟨_, rfl⟩
  rw [← haq] at HT
  have HAQ := Lib.hid haq
  clear haq
  refine region_cut3 ?aFu (fun g ax cx W => Gr w W ∧ OwB (g0 + 1) W (.slice ax M cx) (l.drop 8) ∧ CL W g [.int .i64 A, .int .i64 B, .slice ax M cx] ∧ CL W g0 [.int .i64 0, .int .i64 0, .slice none 0 0] ∧ g0 < g) ?hu ?ku
  case hu =>
    replace hS := hS.step (Gr.drew (Gr.refl ww))
    replace hC := hC.gr (Gr.drew (Gr.refl ww))
    refine region_plain (Gr w) (by kernel_rfl) ?_
    generalize ww.drew = wx at hS hC ⊢
    refine take_at 0 (some 25) (v := ?vu0) rfl rfl (by kernel_rfl) (by kernel_rfl) (by kernel_rfl) (by rfl) ?yu0 hS ?tu0
    case yu0 =>
      intro w' hSw
      skip
      go_simp
      (try rw [if_pos (by omega)])
      (try rw [← HAQ.out])
      (try with_reducible rfl)
    simp only [Act.put, List.setIfInBounds_toArray, List.set_cons_zero, List.set_cons_succ]
    refine take_at 2 (some 27) (v := ?vu2) rfl rfl (by kernel_rfl) (by kernel_rfl) (by kernel_rfl) (by rfl) ?yu2 hS ?tu2
    case yu2 =>
      intro w' hSw
      skip
      go_simp
      (try rw [if_pos (by omega)])
      (try rw [← HAQ.out])
      (try with_reducible rfl)
    simp only [Act.put, List.setIfInBounds_toArray, List.set_cons_zero, List.set_cons_succ]
    refine take_at 4 (some 29) (v := ?vu4) rfl rfl (by kernel_rfl) (by kernel_rfl) (by kernel_rfl) (by rfl) ?yu4 hS ?tu4
    case yu4 =>
      intro w' hSw
      skip
      go_simp
      (try rw [if_pos (by omega)])
      (try rw [← HAQ.out])
      (try with_reducible rfl)
    simp only [Act.put, List.setIfInBounds_toArray, List.set_cons_zero, List.set_cons_succ]
    refine take_at 5 (some 30) (v := .slice aq (L - 8) (cap - 8)) rfl rfl (by kernel_rfl) (by kernel_rfl) (by kernel_rfl) (by rfl) ?yu5 hS ?tu5
    case yu5 =>
      intro w' hSw
      rw [HAQ.out]
      go_simp
      (try rw [if_pos (by omega)])
      (try (intro hcon; exact absurd hcon (by omega)))
      (try with_reducible rfl)
    simp only [Act.put, List.setIfInBounds_toArray, List.set_cons_zero, List.set_cons_succ]
    refine next_two 1 8 rfl rfl (by kernel_rfl) (by rfl) (by rfl) (fun K hK => ?_) (fun K hK => ?_)
    · skip
      go_simp
      refine (HG0.out _ hS).mono ?_
      rintro e wj ⟨rfl, rfl⟩
      refine hK _ _ hS ?_
      clear hK K
      refine next_two 3 8 rfl rfl (by kernel_rfl) (by rfl) (by rfl) (fun K hK => ?_) (fun K hK => ?_)
      · skip
        go_simp
        refine (HG2.out _ hS).mono ?_
        rintro e wj ⟨rfl, rfl⟩
        refine hK _ _ hS ?_
        clear hK K
        refine next_two 6 8 rfl rfl (by kernel_rfl) (by rfl) (by rfl) (fun K hK => ?_) (fun K hK => ?_)
        · skip
          refine oper_app (base := wx.heap.size) (l := []) (m := l.drop 8) (.const (.slice none 0 0)) (.tmp 30) rfl rfl (OwB.nil _ _) rfl (HT.out.gr hS) (by have := HTL.out; simp only [List.length_nil]; omega) (Nat.le_refl _) ?_
          intro vx wv25 ho gx
          have hg : Gr wx wv25 := Gr.grownNew (Gr.refl _) gx (fun _ h => by cases h)
          rw [List.nil_append] at ho
          replace ho := ho.base (b := g0 + 1) (by have := hC.lt; omega)
          replace hS := hS.step hg
          replace hC := hC.gr hg
          obtain ⟨ax, cx, rfl, -, -⟩ := ho.rb.form
          rw [HML.out] at ho ⊢
          refine hK _ _ hS ?_
          simp only [Act.put, List.setIfInBounds_toArray, List.set_cons_zero, List.set_cons_succ]
          clear hK K gx hg
          refine take_at 7 (some 32) (v := ?vuz267) rfl rfl (by kernel_rfl) (by kernel_rfl) (by kernel_rfl) (by rfl) ?yuz267 hS ?tuz267
          case yuz267 =>
            intro w' hSw
            skip
            go_simp
            (try rw [if_pos (by omega)])
            (try rw [← HAQ.out])
            (try with_reducible rfl)
          simp only [Act.put, List.setIfInBounds_toArray, List.set_cons_zero, List.set_cons_succ]
          refine next_at 8 rfl (by kernel_rfl) (by rfl) (fun K hK => ?_)
          go_simp
          have hcl := CL.new wv25 [.int .i64 0, .int .i64 0, .slice none 0 0] 41 _ rfl
          have hg := Gr.alloc (Gr.refl wv25) (.cells #[.int .i64 0, .int .i64 0, .slice none 0 0] 41)
          have hgg : g0 < wv25.heap.size ∧ w.heap.size ≤ wv25.heap.size := ⟨hC.lt, Gr.size hS⟩
          have hne : ∀ k, (Value.slice ax M cx).ownBlock = some k → k ≠ wv25.heap.size := fun k hk => by have := ho.under k hk; omega
          replace ho := ho.gr hg
          refine hK _ _ (hS.step hg) ?_
          replace hS := hS.step hg
          replace hC := hC.gr hg
          clear hK K hg
          generalize wv25.alloc (.cells #[.int .i64 0, .int .i64 0, .slice none 0 0] 41) = wv27 at hS hC hcl ho ⊢
          generalize wv25.heap.size = g at hcl hgg hne ⊢
          have hcF := hcl.fill [.int .i64 A, .int .i64 B, .slice ax M cx] rfl
          have hgF := hS.fill (show w.heap.size ≤ g from hgg.2) [.int .i64 A, .int .i64 B, .slice ax M cx] 0
          have hCF := hC.fillOther (s := g) (by omega) [.int .i64 A, .int .i64 B, .slice ax M cx] 0
          have hoF := ho.fill hne [.int .i64 A, .int .i64 B, .slice ax M cx] 0
          simp only [fillC, Nat.reduceAdd] at hcF hgF hCF hoF
          obtain ⟨⟨y0, y1, y2⟩, u0, u1, u2⟩ := hcl.three
          refine next_at 9 rfl (by kernel_rfl) (by rfl) (fun K hK => ?_)
          go_simp
          refine hK _ _ hgF ?_
          clear hK K
          clear y0 y1 y2 u0 u1 u2
          refine wpAnyH_done (by kernel_rfl) ?_ _
          refine qz_normal ⟨rfl, g, ax, cx, ?_, hgF, hoF, hcF, hCF, hgg.1⟩
          first | with_reducible rfl | exact rfl
        · skip
          go_simp
          have hcl := CL.new wx [.int .i64 0, .int .i64 0, .slice none 0 0] 41 _ rfl
          have hg := Gr.alloc (Gr.refl wx) (.cells #[.int .i64 0, .int .i64 0, .slice none 0 0] 41)
          have hgg : g0 < wx.heap.size ∧ w.heap.size ≤ wx.heap.size := ⟨hC.lt, Gr.size hS⟩
          refine hK _ _ (hS.step hg) ?_
          replace hS := hS.step hg
          replace hC := hC.gr hg
          clear hK K hg
          generalize wx.alloc (.cells #[.int .i64 0, .int .i64 0, .slice none 0 0] 41) = wv28 at hS hC hcl ⊢
          generalize wx.heap.size = g at hcl hgg ⊢
          refine next_at 6 rfl (by kernel_rfl) (by rfl) (fun K hK => ?_)
          refine oper_app (base := wv28.heap.size) (l := []) (m := l.drop 8) (.const (.slice none 0 0)) (.tmp 30) rfl rfl (OwB.nil _ _) rfl (HT.out.gr hS) (by have := HTL.out; simp only [List.length_nil]; omega) (Nat.le_refl _) ?_
          intro vx wv29 ho gx
          have hg : Gr wv28 wv29 := Gr.grownNew (Gr.refl _) gx (fun _ h => by cases h)
          rw [List.nil_append] at ho
          have hne0 : ∀ k, vx.ownBlock = some k → k ≠ g := fun k hk => by have := ho.above k hk; have := hcl.lt; omega
          replace hcl := hcl.gr hg
          replace ho := ho.base (b := g0 + 1) (by have := hC.lt; omega)
          replace hS := hS.step hg
          replace hC := hC.gr hg
          obtain ⟨ax, cx, rfl, -, -⟩ := ho.rb.form
          rw [HML.out] at ho ⊢
          rw [HML.out] at hne0
          have hne := hne0
          refine hK _ _ hS ?_
          simp only [Act.put, List.setIfInBounds_toArray, List.set_cons_zero, List.set_cons_succ]
          clear hK K gx hg
          refine take_at 7 (some 32) (v := ?vuz307) rfl rfl (by kernel_rfl) (by kernel_rfl) (by kernel_rfl) (by rfl) ?yuz307 hS ?tuz307
          case yuz307 =>
            intro w' hSw
            skip
            go_simp
            (try rw [if_pos (by omega)])
            (try rw [← HAQ.out])
            (try with_reducible rfl)
          simp only [Act.put, List.setIfInBounds_toArray, List.set_cons_zero, List.set_cons_succ]
          have hcF := hcl.fill [.int .i64 A, .int .i64 B, .slice ax M cx] rfl
          have hgF := hS.fill (show w.heap.size ≤ g from hgg.2) [.int .i64 A, .int .i64 B, .slice ax M cx] 0
          have hCF := hC.fillOther (s := g) (by omega) [.int .i64 A, .int .i64 B, .slice ax M cx] 0
          have hoF := ho.fill hne [.int .i64 A, .int .i64 B, .slice ax M cx] 0
          simp only [fillC, Nat.reduceAdd] at hcF hgF hCF hoF
          obtain ⟨⟨y0, y1, y2⟩, u0, u1, u2⟩ := hcl.three
          refine next_at 9 rfl (by kernel_rfl) (by rfl) (fun K hK => ?_)
          go_simp
          refine hK _ _ hgF ?_
          clear hK K
          clear y0 y1 y2 u0 u1 u2
          refine wpAnyH_done (by kernel_rfl) ?_ _
          refine qz_normal ⟨rfl, g, ax, cx, ?_, hgF, hoF, hcF, hCF, hgg.1⟩
          first | with_reducible rfl | exact rfl
      · skip
        go_simp
        have hcl := CL.new wx [.int .i64 0, .int .i64 0, .slice none 0 0] 41 _ rfl
        have hg := Gr.alloc (Gr.refl wx) (.cells #[.int .i64 0, .int .i64 0, .slice none 0 0] 41)
        have hgg : g0 < wx.heap.size ∧ w.heap.size ≤ wx.heap.size := ⟨hC.lt, Gr.size hS⟩
        refine hK _ _ (hS.step hg) ?_
        replace hS := hS.step hg
        replace hC := hC.gr hg
        clear hK K hg
        generalize wx.alloc (.cells #[.int .i64 0, .int .i64 0, .slice none 0 0] 41) = wv31 at hS hC hcl ⊢
        generalize wx.heap.size = g at hcl hgg ⊢
        refine next_at 3 rfl (by kernel_rfl) (by rfl) (fun K hK => ?_)
        go_simp
        refine (HG2.out _ hS).mono ?_
        rintro e wj ⟨rfl, rfl⟩
        refine hK _ _ hS ?_
        clear hK K
        refine next_at 6 rfl (by kernel_rfl) (by rfl) (fun K hK => ?_)
        refine oper_app (base := wv31.heap.size) (l := []) (m := l.drop 8) (.const (.slice none 0 0)) (.tmp 30) rfl rfl (OwB.nil _ _) rfl (HT.out.gr hS) (by have := HTL.out; simp only [List.length_nil]; omega) (Nat.le_refl _) ?_
        intro vx wv32 ho gx
        have hg : Gr wv31 wv32 := Gr.grownNew (Gr.refl _) gx (fun _ h => by cases h)
        rw [List.nil_append] at ho
        have hne0 : ∀ k, vx.ownBlock = some k → k ≠ g := fun k hk => by have := ho.above k hk; have := hcl.lt; omega
        replace hcl := hcl.gr hg
        replace ho := ho.base (b := g0 + 1) (by have := hC.lt; omega)
        replace hS := hS.step hg
        replace hC := hC.gr hg
        obtain ⟨ax, cx, rfl, -, -⟩ := ho.rb.form
        rw [HML.out] at ho ⊢
        rw [HML.out] at hne0
        have hne := hne0
        refine hK _ _ hS ?_
        simp only [Act.put, List.setIfInBounds_toArray, List.set_cons_zero, List.set_cons_succ]
        clear hK K gx hg
        refine take_at 7 (some 32) (v := ?vuz337) rfl rfl (by kernel_rfl) (by kernel_rfl) (by kernel_rfl) (by rfl) ?yuz337 hS ?tuz337
        case yuz337 =>
          intro w' hSw
          skip
          go_simp
          (try rw [if_pos (by omega)])
          (try rw [← HAQ.out])
          (try with_reducible rfl)
        simp only [Act.put, List.setIfInBounds_toArray, List.set_cons_zero, List.set_cons_succ]
        have hcF := hcl.fill [.int .i64 A, .int .i64 B, .slice ax M cx] rfl
        have hgF := hS.fill (show w.heap.size ≤ g from hgg.2) [.int .i64 A, .int .i64 B, .slice ax M cx] 0
        have hCF := hC.fillOther (s := g) (by omega) [.int .i64 A, .int .i64 B, .slice ax M cx] 0
        have hoF := ho.fill hne [.int .i64 A, .int .i64 B, .slice ax M cx] 0
        simp only [fillC, Nat.reduceAdd] at hcF hgF hCF hoF
        obtain ⟨⟨y0, y1, y2⟩, u0, u1, u2⟩ := hcl.three
        refine next_at 9 rfl (by kernel_rfl) (by rfl) (fun K hK => ?_)
        go_simp
        refine hK _ _ hgF ?_
        clear hK K
        clear y0 y1 y2 u0 u1 u2
        refine wpAnyH_done (by kernel_rfl) ?_ _
        refine qz_normal ⟨rfl, g, ax, cx, ?_, hgF, hoF, hcF, hCF, hgg.1⟩
        first | with_reducible rfl | exact rfl
    · skip
      go_simp
      have hcl := CL.new wx [.int .i64 0, .int .i64 0, .slice none 0 0] 41 _ rfl
      have hg := Gr.alloc (Gr.refl wx) (.cells #[.int .i64 0, .int .i64 0, .slice none 0 0] 41)
      have hgg : g0 < wx.heap.size ∧ w.heap.size ≤ wx.heap.size := ⟨hC.lt, Gr.size hS⟩
      refine hK _ _ (hS.step hg) ?_
      replace hS := hS.step hg
      replace hC := hC.gr hg
      clear hK K hg
      generalize wx.alloc (.cells #[.int .i64 0, .int .i64 0, .slice none 0 0] 41) = wv34 at hS hC hcl ⊢
      generalize wx.heap.size = g at hcl hgg ⊢
      refine next_at 1 rfl (by kernel_rfl) (by rfl) (fun K hK => ?_)
      go_simp
      refine (HG0.out _ hS).mono ?_
      rintro e wj ⟨rfl, rfl⟩
      refine hK _ _ hS ?_
      clear hK K
      refine next_at 3 rfl (by kernel_rfl) (by rfl) (fun K hK => ?_)
      go_simp
      refine (HG2.out _ hS).mono ?_
      rintro e wj ⟨rfl, rfl⟩
      refine hK _ _ hS ?_
      clear hK K
      refine next_at 6 rfl (by kernel_rfl) (by rfl) (fun K hK => ?_)
      refine oper_app (base := wv34.heap.size) (l := []) (m := l.drop 8) (.const (.slice none 0 0)) (.tmp 30) rfl rfl (OwB.nil _ _) rfl (HT.out.gr hS) (by have := HTL.out; simp only [List.length_nil]; omega) (Nat.le_refl _) ?_
      intro vx wv35 ho gx
      have hg : Gr wv34 wv35 := Gr.grownNew (Gr.refl _) gx (fun _ h => by cases h)
      rw [List.nil_append] at ho
      have hne0 : ∀ k, vx.ownBlock = some k → k ≠ g := fun k hk => by have := ho.above k hk; have := hcl.lt; omega
      replace hcl := hcl.gr hg
      replace ho := ho.base (b := g0 + 1) (by have := hC.lt; omega)
      replace hS := hS.step hg
      replace hC := hC.gr hg
      obtain ⟨ax, cx, rfl, -, -⟩ := ho.rb.form
      rw [HML.out] at ho ⊢
      rw [HML.out] at hne0
      have hne := hne0
      refine hK _ _ hS ?_
      simp only [Act.put, List.setIfInBounds_toArray, List.set_cons_zero, List.set_cons_succ]
      clear hK K gx hg
      refine take_at 7 (some 32) (v := ?vuz367) rfl rfl (by kernel_rfl) (by kernel_rfl) (by kernel_rfl) (by rfl) ?yuz367 hS ?tuz367
      case yuz367 =>
        intro w' hSw
        skip
        go_simp
        (try rw [if_pos (by omega)])
        (try rw [← HAQ.out])
        (try with_reducible rfl)
      simp only [Act.put, List.setIfInBounds_toArray, List.set_cons_zero, List.set_cons_succ]
      have hcF := hcl.fill [.int .i64 A, .int .i64 B, .slice ax M cx] rfl
      have hgF := hS.fill (show w.heap.size ≤ g from hgg.2) [.int .i64 A, .int .i64 B, .slice ax M cx] 0
      have hCF := hC.fillOther (s := g) (by omega) [.int .i64 A, .int .i64 B, .slice ax M cx] 0
      have hoF := ho.fill hne [.int .i64 A, .int .i64 B, .slice ax M cx] 0
      simp only [fillC, Nat.reduceAdd] at hcF hgF hCF hoF
      obtain ⟨⟨y0, y1, y2⟩, u0, u1, u2⟩ := hcl.three
      refine next_at 9 rfl (by kernel_rfl) (by rfl) (fun K hK => ?_)
      go_simp
      refine hK _ _ hgF ?_
      clear hK K
      clear y0 y1 y2 u0 u1 u2
      refine wpAnyH_done (by kernel_rfl) ?_ _
      refine qz_normal ⟨rfl, g, ax, cx, ?_, hgF, hoF, hcF, hCF, hgg.1⟩
      first | with_reducible rfl | exact rfl
  case ku =>
    clear hS hC
    intro g ax cx wr ⟨hS, ho, hcl, hC, hgg⟩
    obtain ⟨⟨x0, x1, x2⟩, f0, f1, f2⟩ := hcl.three
    go_wp2_with fail
    refine (rudp_ok src dst A B wr ho.rb hsr hds hA hB (by rw [HML.out]; omega)).mono ?_
    rintro e we ⟨ve, rfl, hve, hg⟩
    replace hS := hS.step hg
    replace ho := ho.gr hg
    replace hcl := hcl.gr hg
    replace hC := hC.gr hg
    rw [HRE.out] at hve
    have HQ := Lib.hid (rweq_c we hve.rb (HR.out.gr hS) (by rw [HRL.out]; omega) (by rw [← HL.out]; omega) cc hcc)
    obtain ⟨ae, ce, rfl, -, -⟩ := hve.rb.form
    rw [HRL.out] at HQ ⊢
    clear hve hg hcc x0 x1 x2 f0 f1 f2
    go_wp2_with fail
    refine HQ.out.mono ?_
    rintro e wf ⟨rfl, hg⟩
    replace hS := hS.step hg
    replace ho := ho.gr hg
    replace hcl := hcl.gr hg
    replace hC := hC.gr hg
    clear hg HQ
    cases cc with
    | false =>
      have HE := Lib.hid (HCF.out rfl)
      obtain ⟨⟨y0, y1, y2⟩, u0, u1, u2⟩ := hC.three
      have hcF := hC.fill [.int .i64 0, .int .i64 0, .slice none 0 0] rfl
      have hgF := hS.fill hle [.int .i64 0, .int .i64 0, .slice none 0 0] 0
      simp only [fillC, Nat.reduceAdd] at hcF hgF
      go_wp2_with fail
      clear y0 y1 y2 u0 u1 u2
      generalize (((wf.setCell ⟨g0, 0, none⟩ (.int .i64 0)).setCell ⟨g0, 1, none⟩ (.int .i64 0)).setCell ⟨g0, 2, none⟩ (.slice none 0 0)) = wF at hcF hgF ⊢
      obtain ⟨⟨c0, c1, c2⟩, -⟩ := hcF.three
      exact bodyPost_ret (v := .tuple #[.agg #[.int .i64 0, .int .i64 0, .slice none 0 0], .int .i64 4]) (by simp [results, Try.results53, go_sem, c0, c1, c2]) rfl (.inr ⟨HE.out, rfl, hgF⟩)
    | true =>
      have HE := Lib.hid (HCT.out rfl)
      have hne : ∀ k, (Value.slice ax M cx).ownBlock = some k → k ≠ g0 := fun k hk => by have := ho.above k hk; omega
      replace ho := ho.base (b := w.heap.size) (by omega)
      obtain ⟨⟨y0, y1, y2⟩, u0, u1, u2⟩ := hC.three
      obtain ⟨⟨x0, x1, x2⟩, f0, f1, f2⟩ := hcl.three
      have hcF := hC.fill [.int .i64 A, .int .i64 B, .slice ax M cx] rfl
      have hgF := hS.fill hle [.int .i64 A, .int .i64 B, .slice ax M cx] 0
      have hoF := ho.fill hne [.int .i64 A, .int .i64 B, .slice ax M cx] 0
      simp only [fillC, Nat.reduceAdd] at hcF hgF hoF
      go_wp2_with fail
      clear y0 y1 y2 u0 u1 u2 x0 x1 x2 f0 f1 f2
      generalize (((wf.setCell ⟨g0, 0, none⟩ (.int .i64 A)).setCell ⟨g0, 1, none⟩ (.int .i64 B)).setCell ⟨g0, 2, none⟩ (.slice ax M cx)) = wF at hcF hgF hoF ⊢
      obtain ⟨⟨c0, c1, c2⟩, -⟩ := hcF.three
      exact bodyPost_ret (v := .tuple #[.agg #[.int .i64 A, .int .i64 B, .slice ax M cx], .int .i64 0]) (by simp [results, Try.results53, go_sem, c0, c1, c2]) rfl (.inl ⟨HE.out, _, rfl, hoF, hgF⟩)
end Go.Proofs.Ytlkhdbgknkjioaa
