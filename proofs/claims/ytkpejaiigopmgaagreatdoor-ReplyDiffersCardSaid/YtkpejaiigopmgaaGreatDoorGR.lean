/- Several texts in one. -/
import Derived.Test.YtkpejaiigopmgaaGreatDoorGE
import Derived.Test.YtkpejaiigopmgaaGreatDoorGO
import Derived.Test.YtkpejaiigopmgaaGreatDoorGL
import Derived.WalkKit
import Derived.WalkSpells
import Derived.WalkLawsBesides
import Derived.WalkSmall
import Derived.Handy
import Derived.BigQuiet
import Derived.Deep.QuietTactic
import Derived.Deep.RegionHeld3
import Derived.Deep.DeepFit
import Derived.Below
import Derived.Lib.Hide
import Derived.Lib.QuietBelow
import Derived.Deep.DeepCutAuto
/- The document's decoders of transport. -/
namespace Go.Proofs.YtkpejaiigopmgaaGreatDoor
open Go Go.RowKit Go.Sort
set_option maxRecDepth 100000
set_option linter.unusedVariables false
set_option linter.unusedSimpArgs false
theorem region_cut3 {P : Program} {c : Code} {Q : Exit → Act → World → Prop} {a : Act} {w : World} (aF : Nat → Option Addr → Nat → Act) (R : Nat → Option Addr → Nat → World → Prop)
    (h : c.wp P (fun e a' w' => e = .normal ∧ ∃ x1 x2 x3, a' = aF x1 x2 x3 ∧ R x1 x2 x3 w') a w) (k : ∀ x1 x2 x3 w', R x1 x2 x3 w' → Q .normal (aF x1 x2 x3) w') : c.wp P Q a w := by
  refine Code.wp_mono (fun e a' w' h' => ?_) h
  obtain ⟨he, x1, x2, x3, ha, hr⟩ := h'
  rw [he, ha]
  exact k _ _ _ _ hr
theorem OwB.under {base : Nat} {w : World} {v : Value} {l : List Nat} (h : OwB base w v l) : ∀ k, v.ownBlock = some k → k < w.heap.size := by
  intro k hk
  rcases h.1.2 with ⟨rfl, h0⟩ | ⟨g, cap, cur, rfl, hg, hh, _⟩
  · cases hk
  · simp [Value.ownBlock] at hk
    subst hk
    rcases Nat.lt_or_ge g w.heap.size with h | h
    · exact h
    · rw [Array.getElem?_eq_none h] at hh; cases hh
theorem CL.fillOther {w : World} {g s : Nat} {vs : List Value} (h : CL w g vs) (hs : g ≠ s) (ws : List Value) (i : Nat) : CL (fillC w s i ws) g vs := by
  induction ws generalizing w i with
  | nil => exact h
  | cons v t ih => exact ih (h.other v hs) (i + 1)
theorem gN_oneK {l : List Nat} {i : Nat} (h : i < l.length) : gN l i 1 = l.getD i 0 := by
  unfold gN
  rw [List.drop_eq_getElem_cons h, List.take_succ_cons, List.take_zero, List.getD_eq_getElem?_getD, List.getElem?_eq_getElem h]
  simp [bnum]
theorem drop_two (l : List Nat) (i k m : Nat) : (l.drop i).take k ++ (l.drop (i + k)).take m = (l.drop i).take (k + m) := by
  rw [List.take_add, List.drop_drop]
theorem echo_re {l : List Nat} {r : Bool} (hb : ∀ x ∈ l, x < 256) (h8 : 8 ≤ l.length) (hk : gN l 0 1 = kind r) (h1 : gN l 1 1 = 0) : echoL r (gN l 4 2) (gN l 6 2) (l.drop 8) = msg s0 (l.take 2) (l.drop 4) := by
  unfold echoL
  congr 1
  · unfold echoA
    rw [show (if r then 0 else 8) = gN l 0 1 from hk.symm, show bput 0 1 = bput (gN l 1 1) 1 by rw [h1], bput_gN hb (by omega), bput_gN hb (by omega), drop_two l 0 1 1]
    rfl
  · unfold echoZ
    rw [bput_gN hb (by omega), bput_gN hb (by omega), drop_two l 4 2 2]
    rw [show l.drop 8 = (l.drop 4).drop (2 + 2) by rw [List.drop_drop], List.take_append_drop]
theorem note_re {l : List Nat} (hb : ∀ x ∈ l, x < 256) (h8 : 8 ≤ l.length) (h4 : gN l 4 4 = 0) : noteL (gN l 0 1) (gN l 1 1) (l.drop 8) = msg s0 (l.take 2) (l.drop 4) := by
  unfold noteL
  congr 1
  · unfold noteA
    rw [bput_gN hb (by omega), bput_gN hb (by omega), drop_two l 0 1 1]
    rfl
  · unfold noteZ
    rw [show bput 0 4 = bput (gN l 4 4) 4 by rw [h4], bput_gN hb (by omega)]
    rw [show l.drop 8 = (l.drop 4).drop 4 by rw [List.drop_drop], List.take_append_drop]
theorem udp_re {src dst : Nat} {l : List Nat} (hb : ∀ x ∈ l, x < 256) (h8 : 8 ≤ l.length) (h4 : gN l 4 2 = l.length) : udpL src dst (gN l 0 2) (gN l 2 2) (l.drop 8) = msg (sU src dst) (l.take 6) (l.drop 8) := by
  unfold udpL
  congr 1
  unfold udpA bputs
  simp only [List.flatMap_cons, List.flatMap_nil, List.append_nil]
  rw [show 8 + (l.drop 8).length = gN l 4 2 by rw [List.length_drop]; omega, bput_gN hb (by omega), bput_gN hb (by omega), bput_gN hb (by omega), drop_two l 2 2 2, drop_two l 0 2 4]
  rfl
theorem tcp_re {src dst : Nat} {l : List Nat} (hb : ∀ x ∈ l, x < 256) (h8 : 20 ≤ l.length) (h12 : gN l 12 1 = 80) (h18 : gN l 18 2 = 0) : tcpL src dst (gN l 0 2) (gN l 2 2) (gN l 4 4) (gN l 8 4) (gN l 13 1) (gN l 14 2) (l.drop 20) = msg (sP src dst 6) (l.take 16) (l.drop 18) := by
  unfold tcpL
  congr 1
  · unfold tcpA
    rw [show bput 80 1 = bput (gN l 12 1) 1 by rw [h12], bput_gN hb (by omega), bput_gN hb (by omega), bput_gN hb (by omega), bput_gN hb (by omega), bput_gN hb (by omega), bput_gN hb (by omega), bput_gN hb (by omega)]
    rw [drop_two l 12 1 1, drop_two l 4 4 4, drop_two l 0 2 2, drop_two l 0 4 8, drop_two l 0 12 2, drop_two l 0 14 2]
    rfl
  · unfold tcpZ
    rw [show bput 0 2 = bput (gN l 18 2) 2 by rw [h18], bput_gN hb (by omega)]
    rw [show l.drop 20 = (l.drop 18).drop 2 by rw [List.drop_drop], List.take_append_drop]
theorem cell_gr {w W : World} (h : Gr w W) {b o : Nat} {v : Value} (hc : w.cell? ⟨b, o, none⟩ = some v) : W.cell? ⟨b, o, none⟩ = some v := by
  rw [(Gr.cells h).1 _ _ (World.block_lt_of_cell? _ _ hc)]; exact hc
end Go.Proofs.YtkpejaiigopmgaaGreatDoor
/- The document decodes echoes. -/
namespace Go.Proofs.YtkpejaiigopmgaaGreatDoor
open Go Go.RowKit Go.Sort
set_option maxRecDepth 100000
set_option linter.unusedVariables false
set_option linter.unusedSimpArgs false
set_option linter.unusedVariables false
def EchoRes (w : World) (l : List Nat) (e : Ending) (w' : World) : Prop :=
  ∃ v', e = .returned (.tuple #[.agg #[.bool (decide (dcEcho l = 0) && decide (gN l 0 1 = 0)), .int .i64 (if dcEcho l = 0 then gN l 4 2 else 0 : Nat), .int .i64 (if dcEcho l = 0 then gN l 6 2 else 0 : Nat), v'], .int .i64 (dcEcho l)]) ∧ OwB w.heap.size w' v' (if dcEcho l = 0 then l.drop 8 else []) ∧ Gr w w'
set_option maxHeartbeats 1000000 in
theorem rdecho_late {p : Nat → Prop} {v : Value} {l : List Nat} (r : Bool) (w : World) (hr : Rb p w v l) (hlen : 8 ≤ l.length) (hl : l.length ≤ 1480) (hk : gN l 0 1 = kind r) (h1 : gN l 1 1 = 0) :
    Calls Tryz.prog 37 #[v] w (fun e w' => (vE s0 2 l = 0 ∧ ∃ v', e = .returned (.tuple #[.agg #[.bool r, .int .i64 (gN l 4 2 : Nat), .int .i64 (gN l 6 2 : Nat), v'], .int .i64 0]) ∧ OwB w.heap.size w' v' (l.drop 8) ∧ Gr w w') ∨ (vE s0 2 l = 4 ∧ e = .returned (.tuple #[.agg #[.bool false, .int .i64 0, .int .i64 0, .slice none 0 0], .int .i64 4]) ∧ Gr w w')) := by
  have HR := Lib.hid hr
  have hlt := hr.bytes
  obtain ⟨av, cap, rfl, hcap, hmx⟩ := hr.form
  obtain ⟨bk, off, rfl, -, -⟩ := hr.at' (i := 0) (by omega)
  obtain ⟨L, hL⟩ : ∃ L, L = l.length := ⟨_, rfl⟩
  have HL := Lib.hid hL
  rw [← hL] at HR hl hcap hlen ⊢
  clear hL hr
  have hC := CL.new w [.bool false, .int .i64 0, .int .i64 0, .slice none 0 0] 74 _ rfl
  have hS := Gr.alloc (Gr.refl w) (.cells #[.bool false, .int .i64 0, .int .i64 0, .slice none 0 0] 74)
  obtain ⟨bz0, oz0, ez0, -, hz0⟩ := HR.out.at' (i := 0) (by rw [← HL.out]; omega)
  cases ez0
  rw [← gN_oneK (show 0 < l.length by rw [← HL.out]; omega)] at hz0
  rw [Nat.add_zero] at hz0
  obtain ⟨bz1, oz1, ez1, -, hz1⟩ := HR.out.at' (i := 1) (by rw [← HL.out]; omega)
  cases ez1
  rw [← gN_oneK (show 1 < l.length by rw [← HL.out]; omega)] at hz1
  have d1 : decide ((L : Int) < 8) = false := by rw [decide_eq_false_iff_not]; omega
  have d2 : decide ((1480 : Int) < (L : Int)) = false := by rw [decide_eq_false_iff_not]; omega
  obtain ⟨M, hMM⟩ : ∃ M, M = L - 8 := ⟨_, rfl⟩
  have hM2 : M ≤ 1472 := by omega
  have HMM := Lib.hid hMM
  clear hMM
  have HT := Lib.hid (HR.out.tail (k := 8) (by rw [← HL.out]; omega))
  have HG4 := Lib.hid (fun W (g : Gr w W) => rat_any 4 2 W (HR.out.gr g) (by omega) (by omega) (by rw [← HL.out]; omega) (by rw [← HL.out]; omega))
  have HG6 := Lib.hid (fun W (g : Gr w W) => rat_any 6 2 W (HR.out.gr g) (by omega) (by omega) (by rw [← HL.out]; omega) (by rw [← HL.out]; omega))
  have hA : gN l 4 2 < 65536 := gN_lt hlt 4 2
  have hB : gN l 6 2 < 65536 := gN_lt hlt 6 2
  have HRE0 := echo_re (r := r) hlt (by rw [← HL.out]; omega) hk h1
  have hcases : (vE s0 2 l = 0 ∧ l = msg s0 (l.take 2) (l.drop 4)) ∨ (vE s0 2 l = 4 ∧ ¬ l = msg s0 (l.take 2) (l.drop 4)) := by
    by_cases h : l = msg s0 (l.take 2) (l.drop 4)
    · exact .inl ⟨vE_ok (by rw [← HL.out]; omega) h, h⟩
    · exact .inr ⟨vE_bad (by rw [← HL.out]; omega) h, h⟩
  obtain ⟨cc, hcc0⟩ : ∃ cc, cc = decide (msg s0 (l.take 2) (l.drop 4) = l) := ⟨_, rfl⟩
  have HCF : Hid (cc = false → vE s0 2 l = 4) := Lib.hid (fun h => by
    rcases hcases with ⟨_, h2⟩ | ⟨h1, _⟩
    · rw [hcc0, decide_eq_false_iff_not] at h; exact absurd h2.symm h
    · exact h1)
  have HCT : Hid (cc = true → vE s0 2 l = 0) := Lib.hid (fun h => by
    rcases hcases with ⟨h1, _⟩ | ⟨_, h2⟩
    · exact h1
    · rw [hcc0, decide_eq_true_eq] at h; exact absurd h.symm h2)
  have HRL : Hid ((msg s0 (l.take 2) (l.drop 4)).length = L) := Lib.hid (by rw [msg_len, List.length_take, List.length_drop, ← HL.out]; omega)
  have HRE := Lib.hid HRE0
  have hcc := hcc0
  clear hcases HRE0 hcc0 hlt
  rw [hk] at hz0
  rw [h1] at hz1
  clear hk h1
  generalize msg s0 (l.take 2) (l.drop 4) = LM at *
  generalize gN l 4 2 = A at *
  generalize gN l 6 2 = B at *
  generalize vE s0 2 l = V at *
  cases r with
  | false =>
    unfold kind at hz0
    simp only [if_pos, if_neg, Bool.false_eq_true, if_true, if_false] at hz0
    go_enter Tryz.func37, Tryz.ntmps37
    go_upto_region 1 with fail
    have hle : w.heap.size ≤ w.heap.size := Nat.le_refl _
    generalize w.alloc (.cells #[.bool false, .int .i64 0, .int .i64 0, .slice none 0 0] 74) = ww at hC hS ⊢
    generalize hg0 : w.heap.size = g0 at hC ⊢
    replace hle : w.heap.size ≤ g0 := by omega
    clear hg0
    have hq0 := cell_gr hS hz0
    have hq1 := cell_gr hS hz1
    obtain ⟨⟨y0, y1, y2, y3⟩, u0, u1, u2, u3⟩ := hC.four
    go_wp2_with fail
    clear hq0 hq1
    have HML : Hid ((l.drop 8).length = M) := Lib.hid (by rw [HMM.out, List.length_drop, ← HL.out])
    have HTL := Lib.hid (show (l.drop 8).length ≤ 30000 by rw [HML.out]; omega)
    clear y0 y1 y2 y3 u0 u1 u2 u3
    obtain ⟨aq, haq⟩ : ∃ aq, aq = (if cap = 8 then some (⟨bk, off, none⟩ : Addr) else some ⟨bk, off + 8, none⟩) := ⟨_, rfl⟩
    rw [← haq] at HT
    have HAQ := Lib.hid haq
    clear haq
    refine region_cut3 ?aFef (fun g ax cx W => Gr w W ∧ OwB (g0 + 1) W (.slice ax M cx) (l.drop 8) ∧ CL W g [.bool false, .int .i64 A, .int .i64 B, .slice ax M cx] ∧ CL W g0 [.bool false, .int .i64 0, .int .i64 0, .slice none 0 0] ∧ g0 < g) ?hef ?kef
    case hef =>
      replace hS := hS.step (Gr.drew (Gr.refl ww))
      replace hC := hC.gr (Gr.drew (Gr.refl ww))
      refine region_plain (Gr w) (by kernel_rfl) ?_
      generalize ww.drew = wx at hS hC ⊢
      refine take_at 0 (some 32) (v := ?vef0) rfl rfl (by kernel_rfl) (by kernel_rfl) (by kernel_rfl) (by rfl) ?yef0 hS ?tef0
      case yef0 =>
        intro w' hSw
        skip
        go_simp
        (try rw [if_pos (by omega)])
        (try rw [← HAQ.out])
        (try with_reducible rfl)
      simp only [Act.put, List.setIfInBounds_toArray, List.set_cons_zero, List.set_cons_succ]
      refine take_at 1 (some 33) (v := ?vef1) rfl rfl (by kernel_rfl) (by kernel_rfl) (by kernel_rfl) (by rfl) ?yef1 hS ?tef1
      case yef1 =>
        intro w' hSw
        skip
        go_simp
        (try rw [if_pos (by omega)])
        (try rw [← HAQ.out])
        (try with_reducible rfl)
      simp only [Act.put, List.setIfInBounds_toArray, List.set_cons_zero, List.set_cons_succ]
      refine take_at 2 (some 34) (v := ?vef2) rfl rfl (by kernel_rfl) (by kernel_rfl) (by kernel_rfl) (by rfl) ?yef2 hS ?tef2
      case yef2 =>
        intro w' hSw
        have hq := cell_gr hSw hz0
        go_simp
        (try rw [if_pos (by omega)])
        (try rw [← HAQ.out])
        (try with_reducible rfl)
      simp only [Act.put, List.setIfInBounds_toArray, List.set_cons_zero, List.set_cons_succ]
      refine take_at 3 (some 35) (v := ?vef3) rfl rfl (by kernel_rfl) (by kernel_rfl) (by kernel_rfl) (by rfl) ?yef3 hS ?tef3
      case yef3 =>
        intro w' hSw
        skip
        go_simp
        (try rw [if_pos (by omega)])
        (try rw [← HAQ.out])
        (try with_reducible rfl)
      simp only [Act.put, List.setIfInBounds_toArray, List.set_cons_zero, List.set_cons_succ]
      refine take_at 4 (some 36) (v := ?vef4) rfl rfl (by kernel_rfl) (by kernel_rfl) (by kernel_rfl) (by rfl) ?yef4 hS ?tef4
      case yef4 =>
        intro w' hSw
        skip
        go_simp
        (try rw [if_pos (by omega)])
        (try rw [← HAQ.out])
        (try with_reducible rfl)
      simp only [Act.put, List.setIfInBounds_toArray, List.set_cons_zero, List.set_cons_succ]
      refine take_at 6 (some 38) (v := ?vef6) rfl rfl (by kernel_rfl) (by kernel_rfl) (by kernel_rfl) (by rfl) ?yef6 hS ?tef6
      case yef6 =>
        intro w' hSw
        skip
        go_simp
        (try rw [if_pos (by omega)])
        (try rw [← HAQ.out])
        (try with_reducible rfl)
      simp only [Act.put, List.setIfInBounds_toArray, List.set_cons_zero, List.set_cons_succ]
      refine take_at 8 (some 40) (v := ?vef8) rfl rfl (by kernel_rfl) (by kernel_rfl) (by kernel_rfl) (by rfl) ?yef8 hS ?tef8
      case yef8 =>
        intro w' hSw
        skip
        go_simp
        (try rw [if_pos (by omega)])
        (try rw [← HAQ.out])
        (try with_reducible rfl)
      simp only [Act.put, List.setIfInBounds_toArray, List.set_cons_zero, List.set_cons_succ]
      refine take_at 9 (some 41) (v := .slice aq (L - 8) (cap - 8)) rfl rfl (by kernel_rfl) (by kernel_rfl) (by kernel_rfl) (by rfl) ?yef9 hS ?tef9
      case yef9 =>
        intro w' hSw
        rw [HAQ.out]
        go_simp
        (try rw [if_pos (by omega)])
        (try (intro hcon; exact absurd hcon (by omega)))
        (try with_reducible rfl)
      simp only [Act.put, List.setIfInBounds_toArray, List.set_cons_zero, List.set_cons_succ]
      refine next_two 5 12 rfl rfl (by kernel_rfl) (by rfl) (by rfl) (fun K hK => ?_) (fun K hK => ?_)
      · skip
        go_simp
        refine (HG4.out _ hS).mono ?_
        rintro e wj ⟨rfl, rfl⟩
        refine hK _ _ hS ?_
        clear hK K
        refine next_two 7 12 rfl rfl (by kernel_rfl) (by rfl) (by rfl) (fun K hK => ?_) (fun K hK => ?_)
        · skip
          go_simp
          refine (HG6.out _ hS).mono ?_
          rintro e wj ⟨rfl, rfl⟩
          refine hK _ _ hS ?_
          clear hK K
          refine next_two 10 12 rfl rfl (by kernel_rfl) (by rfl) (by rfl) (fun K hK => ?_) (fun K hK => ?_)
          · skip
            refine oper_app (base := wx.heap.size) (l := []) (m := l.drop 8) (.const (.slice none 0 0)) (.tmp 41) rfl rfl (OwB.nil _ _) rfl (HT.out.gr hS) (by have := HTL.out; simp only [List.length_nil]; omega) (Nat.le_refl _) ?_
            intro vx wv1 ho gx
            have hg : Gr wx wv1 := Gr.grownNew (Gr.refl _) gx (fun _ h => by cases h)
            rw [List.nil_append] at ho
            replace ho := ho.base (b := g0 + 1) (by have := hC.lt; omega)
            replace hS := hS.step hg
            replace hC := hC.gr hg
            obtain ⟨ax, cx, rfl, -, -⟩ := ho.rb.form
            rw [HML.out] at ho ⊢
            refine hK _ _ hS ?_
            simp only [Act.put, List.setIfInBounds_toArray, List.set_cons_zero, List.set_cons_succ]
            clear hK K gx hg
            refine take_at 11 (some 43) (v := ?vefz211) rfl rfl (by kernel_rfl) (by kernel_rfl) (by kernel_rfl) (by rfl) ?yefz211 hS ?tefz211
            case yefz211 =>
              intro w' hSw
              skip
              go_simp
              (try rw [if_pos (by omega)])
              (try rw [← HAQ.out])
              (try with_reducible rfl)
            simp only [Act.put, List.setIfInBounds_toArray, List.set_cons_zero, List.set_cons_succ]
            refine next_at 12 rfl (by kernel_rfl) (by rfl) (fun K hK => ?_)
            go_simp
            have hcl := CL.new wv1 [.bool false, .int .i64 0, .int .i64 0, .slice none 0 0] 74 _ rfl
            have hg := Gr.alloc (Gr.refl wv1) (.cells #[.bool false, .int .i64 0, .int .i64 0, .slice none 0 0] 74)
            have hgg : g0 < wv1.heap.size ∧ w.heap.size ≤ wv1.heap.size := ⟨hC.lt, Gr.size hS⟩
            have hne : ∀ k, (Value.slice ax M cx).ownBlock = some k → k ≠ wv1.heap.size := fun k hk => by have := ho.under k hk; omega
            replace ho := ho.gr hg
            refine hK _ _ (hS.step hg) ?_
            replace hS := hS.step hg
            replace hC := hC.gr hg
            clear hK K hg
            generalize wv1.alloc (.cells #[.bool false, .int .i64 0, .int .i64 0, .slice none 0 0] 74) = wv3 at hS hC hcl ho ⊢
            generalize wv1.heap.size = g at hcl hgg hne ⊢
            have hcF := hcl.fill [.bool false, .int .i64 A, .int .i64 B, .slice ax M cx] rfl
            have hgF := hS.fill (show w.heap.size ≤ g from hgg.2) [.bool false, .int .i64 A, .int .i64 B, .slice ax M cx] 0
            have hCF := hC.fillOther (s := g) (by omega) [.bool false, .int .i64 A, .int .i64 B, .slice ax M cx] 0
            have hoF := ho.fill hne [.bool false, .int .i64 A, .int .i64 B, .slice ax M cx] 0
            simp only [fillC, Nat.reduceAdd] at hcF hgF hCF hoF
            obtain ⟨⟨y0, y1, y2, y3⟩, u0, u1, u2, u3⟩ := hcl.four
            refine next_at 13 rfl (by kernel_rfl) (by rfl) (fun K hK => ?_)
            go_simp
            refine hK _ _ hgF ?_
            clear hK K
            clear y0 y1 y2 y3 u0 u1 u2 u3
            refine wpAnyH_done (by kernel_rfl) ?_ _
            refine qz_normal ⟨rfl, g, ax, cx, ?_, hgF, hoF, hcF, hCF, hgg.1⟩
            first | with_reducible rfl | exact rfl
          · skip
            go_simp
            have hcl := CL.new wx [.bool false, .int .i64 0, .int .i64 0, .slice none 0 0] 74 _ rfl
            have hg := Gr.alloc (Gr.refl wx) (.cells #[.bool false, .int .i64 0, .int .i64 0, .slice none 0 0] 74)
            have hgg : g0 < wx.heap.size ∧ w.heap.size ≤ wx.heap.size := ⟨hC.lt, Gr.size hS⟩
            refine hK _ _ (hS.step hg) ?_
            replace hS := hS.step hg
            replace hC := hC.gr hg
            clear hK K hg
            generalize wx.alloc (.cells #[.bool false, .int .i64 0, .int .i64 0, .slice none 0 0] 74) = wv4 at hS hC hcl ⊢
            generalize wx.heap.size = g at hcl hgg ⊢
            refine next_at 10 rfl (by kernel_rfl) (by rfl) (fun K hK => ?_)
            refine oper_app (base := wv4.heap.size) (l := []) (m := l.drop 8) (.const (.slice none 0 0)) (.tmp 41) rfl rfl (OwB.nil _ _) rfl (HT.out.gr hS) (by have := HTL.out; simp only [List.length_nil]; omega) (Nat.le_refl _) ?_
            intro vx wv5 ho gx
            have hg : Gr wv4 wv5 := Gr.grownNew (Gr.refl _) gx (fun _ h => by cases h)
            rw [List.nil_append] at ho
            have hne0 : ∀ k, vx.ownBlock = some k → k ≠ g := fun k hk => by have := ho.above k hk; have := hcl.lt; omega
            replace hcl := hcl.gr hg
            replace ho := ho.base (b := g0 + 1) (by have := hC.lt; omega)
            replace hS := hS.step hg
            replace hC := hC.gr hg
            obtain ⟨ax, cx, rfl, -, -⟩ := ho.rb.form
            rw [HML.out] at ho ⊢
            rw [HML.out] at hne0
            have hne := hne0
            refine hK _ _ hS ?_
            simp only [Act.put, List.setIfInBounds_toArray, List.set_cons_zero, List.set_cons_succ]
            clear hK K gx hg
            refine take_at 11 (some 43) (v := ?vefz611) rfl rfl (by kernel_rfl) (by kernel_rfl) (by kernel_rfl) (by rfl) ?yefz611 hS ?tefz611
            case yefz611 =>
              intro w' hSw
              skip
              go_simp
              (try rw [if_pos (by omega)])
              (try rw [← HAQ.out])
              (try with_reducible rfl)
            simp only [Act.put, List.setIfInBounds_toArray, List.set_cons_zero, List.set_cons_succ]
            have hcF := hcl.fill [.bool false, .int .i64 A, .int .i64 B, .slice ax M cx] rfl
            have hgF := hS.fill (show w.heap.size ≤ g from hgg.2) [.bool false, .int .i64 A, .int .i64 B, .slice ax M cx] 0
            have hCF := hC.fillOther (s := g) (by omega) [.bool false, .int .i64 A, .int .i64 B, .slice ax M cx] 0
            have hoF := ho.fill hne [.bool false, .int .i64 A, .int .i64 B, .slice ax M cx] 0
            simp only [fillC, Nat.reduceAdd] at hcF hgF hCF hoF
            obtain ⟨⟨y0, y1, y2, y3⟩, u0, u1, u2, u3⟩ := hcl.four
            refine next_at 13 rfl (by kernel_rfl) (by rfl) (fun K hK => ?_)
            go_simp
            refine hK _ _ hgF ?_
            clear hK K
            clear y0 y1 y2 y3 u0 u1 u2 u3
            refine wpAnyH_done (by kernel_rfl) ?_ _
            refine qz_normal ⟨rfl, g, ax, cx, ?_, hgF, hoF, hcF, hCF, hgg.1⟩
            first | with_reducible rfl | exact rfl
        · skip
          go_simp
          have hcl := CL.new wx [.bool false, .int .i64 0, .int .i64 0, .slice none 0 0] 74 _ rfl
          have hg := Gr.alloc (Gr.refl wx) (.cells #[.bool false, .int .i64 0, .int .i64 0, .slice none 0 0] 74)
          have hgg : g0 < wx.heap.size ∧ w.heap.size ≤ wx.heap.size := ⟨hC.lt, Gr.size hS⟩
          refine hK _ _ (hS.step hg) ?_
          replace hS := hS.step hg
          replace hC := hC.gr hg
          clear hK K hg
          generalize wx.alloc (.cells #[.bool false, .int .i64 0, .int .i64 0, .slice none 0 0] 74) = wv7 at hS hC hcl ⊢
          generalize wx.heap.size = g at hcl hgg ⊢
          refine next_at 7 rfl (by kernel_rfl) (by rfl) (fun K hK => ?_)
          go_simp
          refine (HG6.out _ hS).mono ?_
          rintro e wj ⟨rfl, rfl⟩
          refine hK _ _ hS ?_
          clear hK K
          refine next_at 10 rfl (by kernel_rfl) (by rfl) (fun K hK => ?_)
          refine oper_app (base := wv7.heap.size) (l := []) (m := l.drop 8) (.const (.slice none 0 0)) (.tmp 41) rfl rfl (OwB.nil _ _) rfl (HT.out.gr hS) (by have := HTL.out; simp only [List.length_nil]; omega) (Nat.le_refl _) ?_
          intro vx wv8 ho gx
          have hg : Gr wv7 wv8 := Gr.grownNew (Gr.refl _) gx (fun _ h => by cases h)
          rw [List.nil_append] at ho
          have hne0 : ∀ k, vx.ownBlock = some k → k ≠ g := fun k hk => by have := ho.above k hk; have := hcl.lt; omega
          replace hcl := hcl.gr hg
          replace ho := ho.base (b := g0 + 1) (by have := hC.lt; omega)
          replace hS := hS.step hg
          replace hC := hC.gr hg
          obtain ⟨ax, cx, rfl, -, -⟩ := ho.rb.form
          rw [HML.out] at ho ⊢
          rw [HML.out] at hne0
          have hne := hne0
          refine hK _ _ hS ?_
          simp only [Act.put, List.setIfInBounds_toArray, List.set_cons_zero, List.set_cons_succ]
          clear hK K gx hg
          refine take_at 11 (some 43) (v := ?vefz911) rfl rfl (by kernel_rfl) (by kernel_rfl) (by kernel_rfl) (by rfl) ?yefz911 hS ?tefz911
          case yefz911 =>
            intro w' hSw
            skip
            go_simp
            (try rw [if_pos (by omega)])
            (try rw [← HAQ.out])
            (try with_reducible rfl)
          simp only [Act.put, List.setIfInBounds_toArray, List.set_cons_zero, List.set_cons_succ]
          have hcF := hcl.fill [.bool false, .int .i64 A, .int .i64 B, .slice ax M cx] rfl
          have hgF := hS.fill (show w.heap.size ≤ g from hgg.2) [.bool false, .int .i64 A, .int .i64 B, .slice ax M cx] 0
          have hCF := hC.fillOther (s := g) (by omega) [.bool false, .int .i64 A, .int .i64 B, .slice ax M cx] 0
          have hoF := ho.fill hne [.bool false, .int .i64 A, .int .i64 B, .slice ax M cx] 0
          simp only [fillC, Nat.reduceAdd] at hcF hgF hCF hoF
          obtain ⟨⟨y0, y1, y2, y3⟩, u0, u1, u2, u3⟩ := hcl.four
          refine next_at 13 rfl (by kernel_rfl) (by rfl) (fun K hK => ?_)
          go_simp
          refine hK _ _ hgF ?_
          clear hK K
          clear y0 y1 y2 y3 u0 u1 u2 u3
          refine wpAnyH_done (by kernel_rfl) ?_ _
          refine qz_normal ⟨rfl, g, ax, cx, ?_, hgF, hoF, hcF, hCF, hgg.1⟩
          first | with_reducible rfl | exact rfl
      · skip
        go_simp
        have hcl := CL.new wx [.bool false, .int .i64 0, .int .i64 0, .slice none 0 0] 74 _ rfl
        have hg := Gr.alloc (Gr.refl wx) (.cells #[.bool false, .int .i64 0, .int .i64 0, .slice none 0 0] 74)
        have hgg : g0 < wx.heap.size ∧ w.heap.size ≤ wx.heap.size := ⟨hC.lt, Gr.size hS⟩
        refine hK _ _ (hS.step hg) ?_
        replace hS := hS.step hg
        replace hC := hC.gr hg
        clear hK K hg
        generalize wx.alloc (.cells #[.bool false, .int .i64 0, .int .i64 0, .slice none 0 0] 74) = wv10 at hS hC hcl ⊢
        generalize wx.heap.size = g at hcl hgg ⊢
        refine next_at 5 rfl (by kernel_rfl) (by rfl) (fun K hK => ?_)
        go_simp
        refine (HG4.out _ hS).mono ?_
        rintro e wj ⟨rfl, rfl⟩
        refine hK _ _ hS ?_
        clear hK K
        refine next_at 7 rfl (by kernel_rfl) (by rfl) (fun K hK => ?_)
        go_simp
        refine (HG6.out _ hS).mono ?_
        rintro e wj ⟨rfl, rfl⟩
        refine hK _ _ hS ?_
        clear hK K
        refine next_at 10 rfl (by kernel_rfl) (by rfl) (fun K hK => ?_)
        refine oper_app (base := wv10.heap.size) (l := []) (m := l.drop 8) (.const (.slice none 0 0)) (.tmp 41) rfl rfl (OwB.nil _ _) rfl (HT.out.gr hS) (by have := HTL.out; simp only [List.length_nil]; omega) (Nat.le_refl _) ?_
        intro vx wv11 ho gx
        have hg : Gr wv10 wv11 := Gr.grownNew (Gr.refl _) gx (fun _ h => by cases h)
        rw [List.nil_append] at ho
        have hne0 : ∀ k, vx.ownBlock = some k → k ≠ g := fun k hk => by have := ho.above k hk; have := hcl.lt; omega
        replace hcl := hcl.gr hg
        replace ho := ho.base (b := g0 + 1) (by have := hC.lt; omega)
        replace hS := hS.step hg
        replace hC := hC.gr hg
        obtain ⟨ax, cx, rfl, -, -⟩ := ho.rb.form
        rw [HML.out] at ho ⊢
        rw [HML.out] at hne0
        have hne := hne0
        refine hK _ _ hS ?_
        simp only [Act.put, List.setIfInBounds_toArray, List.set_cons_zero, List.set_cons_succ]
        clear hK K gx hg
        refine take_at 11 (some 43) (v := ?vefz1211) rfl rfl (by kernel_rfl) (by kernel_rfl) (by kernel_rfl) (by rfl) ?yefz1211 hS ?tefz1211
        case yefz1211 =>
          intro w' hSw
          skip
          go_simp
          (try rw [if_pos (by omega)])
          (try rw [← HAQ.out])
          (try with_reducible rfl)
        simp only [Act.put, List.setIfInBounds_toArray, List.set_cons_zero, List.set_cons_succ]
        have hcF := hcl.fill [.bool false, .int .i64 A, .int .i64 B, .slice ax M cx] rfl
        have hgF := hS.fill (show w.heap.size ≤ g from hgg.2) [.bool false, .int .i64 A, .int .i64 B, .slice ax M cx] 0
        have hCF := hC.fillOther (s := g) (by omega) [.bool false, .int .i64 A, .int .i64 B, .slice ax M cx] 0
        have hoF := ho.fill hne [.bool false, .int .i64 A, .int .i64 B, .slice ax M cx] 0
        simp only [fillC, Nat.reduceAdd] at hcF hgF hCF hoF
        obtain ⟨⟨y0, y1, y2, y3⟩, u0, u1, u2, u3⟩ := hcl.four
        refine next_at 13 rfl (by kernel_rfl) (by rfl) (fun K hK => ?_)
        go_simp
        refine hK _ _ hgF ?_
        clear hK K
        clear y0 y1 y2 y3 u0 u1 u2 u3
        refine wpAnyH_done (by kernel_rfl) ?_ _
        refine qz_normal ⟨rfl, g, ax, cx, ?_, hgF, hoF, hcF, hCF, hgg.1⟩
        first | with_reducible rfl | exact rfl
    case kef =>
      clear hS hC
      intro g ax cx wr ⟨hS, ho, hcl, hC, hgg⟩
      obtain ⟨⟨x0, x1, x2, x3⟩, f0, f1, f2, f3⟩ := hcl.four
      go_wp2_with fail
      refine (recho_ok false A B wr ho.rb hA hB (by rw [HML.out]; omega)).mono ?_
      rintro e we ⟨ve, rfl, hve, hg⟩
      replace hS := hS.step hg
      replace ho := ho.gr hg
      replace hcl := hcl.gr hg
      replace hC := hC.gr hg
      rw [HRE.out] at hve
      have HQ := Lib.hid (rweq_c we hve.rb (HR.out.gr hS) (by rw [HRL.out]; omega) (by rw [← HL.out]; omega) cc hcc)
      obtain ⟨ae, ce, rfl, -, -⟩ := hve.rb.form
      rw [HRL.out] at HQ ⊢
      clear hve hg hcc x0 x1 x2 x3 f0 f1 f2 f3
      go_wp2_with fail
      refine HQ.out.mono ?_
      rintro e wf ⟨rfl, hg⟩
      replace hS := hS.step hg
      replace ho := ho.gr hg
      replace hcl := hcl.gr hg
      replace hC := hC.gr hg
      clear hg HQ
      cases cc with
      | false =>
        have HE := Lib.hid (HCF.out rfl)
        obtain ⟨⟨y0, y1, y2, y3⟩, u0, u1, u2, u3⟩ := hC.four
        have hcF := hC.fill [.bool false, .int .i64 0, .int .i64 0, .slice none 0 0] rfl
        have hgF := hS.fill hle [.bool false, .int .i64 0, .int .i64 0, .slice none 0 0] 0
        simp only [fillC, Nat.reduceAdd] at hcF hgF
        go_wp2_with fail
        clear y0 y1 y2 y3 u0 u1 u2 u3
        generalize ((((wf.setCell ⟨g0, 0, none⟩ (.bool false)).setCell ⟨g0, 1, none⟩ (.int .i64 0)).setCell ⟨g0, 2, none⟩ (.int .i64 0)).setCell ⟨g0, 3, none⟩ (.slice none 0 0)) = wF at hcF hgF ⊢
        obtain ⟨⟨c0, c1, c2, c3⟩, -⟩ := hcF.four
        exact bodyPost_ret (v := .tuple #[.agg #[.bool false, .int .i64 0, .int .i64 0, .slice none 0 0], .int .i64 4]) (by simp [results, Tryz.results37, go_sem, c0, c1, c2, c3]) rfl (.inr ⟨HE.out, rfl, hgF⟩)
      | true =>
        have HE := Lib.hid (HCT.out rfl)
        have hne : ∀ k, (Value.slice ax M cx).ownBlock = some k → k ≠ g0 := fun k hk => by have := ho.above k hk; omega
        replace ho := ho.base (b := w.heap.size) (by omega)
        obtain ⟨⟨y0, y1, y2, y3⟩, u0, u1, u2, u3⟩ := hC.four
        obtain ⟨⟨x0, x1, x2, x3⟩, f0, f1, f2, f3⟩ := hcl.four
        have hcF := hC.fill [.bool false, .int .i64 A, .int .i64 B, .slice ax M cx] rfl
        have hgF := hS.fill hle [.bool false, .int .i64 A, .int .i64 B, .slice ax M cx] 0
        have hoF := ho.fill hne [.bool false, .int .i64 A, .int .i64 B, .slice ax M cx] 0
        simp only [fillC, Nat.reduceAdd] at hcF hgF hoF
        go_wp2_with fail
        clear y0 y1 y2 y3 u0 u1 u2 u3 x0 x1 x2 x3 f0 f1 f2 f3
        generalize ((((wf.setCell ⟨g0, 0, none⟩ (.bool false)).setCell ⟨g0, 1, none⟩ (.int .i64 A)).setCell ⟨g0, 2, none⟩ (.int .i64 B)).setCell ⟨g0, 3, none⟩ (.slice ax M cx)) = wF at hcF hgF hoF ⊢
        obtain ⟨⟨c0, c1, c2, c3⟩, -⟩ := hcF.four
        exact bodyPost_ret (v := .tuple #[.agg #[.bool false, .int .i64 A, .int .i64 B, .slice ax M cx], .int .i64 0]) (by simp [results, Tryz.results37, go_sem, c0, c1, c2, c3]) rfl (.inl ⟨HE.out, _, rfl, hoF, hgF⟩)
  | true =>
    unfold kind at hz0
    simp only [if_pos, if_neg, Bool.false_eq_true, if_true, if_false] at hz0
    go_enter Tryz.func37, Tryz.ntmps37
    go_upto_region 1 with fail
    have hle : w.heap.size ≤ w.heap.size := Nat.le_refl _
    generalize w.alloc (.cells #[.bool false, .int .i64 0, .int .i64 0, .slice none 0 0] 74) = ww at hC hS ⊢
    generalize hg0 : w.heap.size = g0 at hC ⊢
    replace hle : w.heap.size ≤ g0 := by omega
    clear hg0
    have hq0 := cell_gr hS hz0
    have hq1 := cell_gr hS hz1
    obtain ⟨⟨y0, y1, y2, y3⟩, u0, u1, u2, u3⟩ := hC.four
    go_wp2_with fail
    clear hq0 hq1
    have HML : Hid ((l.drop 8).length = M) := Lib.hid (by rw [HMM.out, List.length_drop, ← HL.out])
    have HTL := Lib.hid (show (l.drop 8).length ≤ 30000 by rw [HML.out]; omega)
    clear y0 y1 y2 y3 u0 u1 u2 u3
    obtain ⟨aq, haq⟩ : ∃ aq, aq = (if cap = 8 then some (⟨bk, off, none⟩ : Addr) else some ⟨bk, off + 8, none⟩) := ⟨_, rfl⟩
    rw [← haq] at HT
    have HAQ := Lib.hid haq
    clear haq
    refine region_cut3 ?aFet (fun g ax cx W => Gr w W ∧ OwB (g0 + 1) W (.slice ax M cx) (l.drop 8) ∧ CL W g [.bool true, .int .i64 A, .int .i64 B, .slice ax M cx] ∧ CL W g0 [.bool false, .int .i64 0, .int .i64 0, .slice none 0 0] ∧ g0 < g) ?het ?ket
    case het =>
      replace hS := hS.step (Gr.drew (Gr.refl ww))
      replace hC := hC.gr (Gr.drew (Gr.refl ww))
      refine region_plain (Gr w) (by kernel_rfl) ?_
      generalize ww.drew = wx at hS hC ⊢
      refine take_at 0 (some 32) (v := ?vet0) rfl rfl (by kernel_rfl) (by kernel_rfl) (by kernel_rfl) (by rfl) ?yet0 hS ?tet0
      case yet0 =>
        intro w' hSw
        skip
        go_simp
        (try rw [if_pos (by omega)])
        (try rw [← HAQ.out])
        (try with_reducible rfl)
      simp only [Act.put, List.setIfInBounds_toArray, List.set_cons_zero, List.set_cons_succ]
      refine take_at 1 (some 33) (v := ?vet1) rfl rfl (by kernel_rfl) (by kernel_rfl) (by kernel_rfl) (by rfl) ?yet1 hS ?tet1
      case yet1 =>
        intro w' hSw
        skip
        go_simp
        (try rw [if_pos (by omega)])
        (try rw [← HAQ.out])
        (try with_reducible rfl)
      simp only [Act.put, List.setIfInBounds_toArray, List.set_cons_zero, List.set_cons_succ]
      refine take_at 2 (some 34) (v := ?vet2) rfl rfl (by kernel_rfl) (by kernel_rfl) (by kernel_rfl) (by rfl) ?yet2 hS ?tet2
      case yet2 =>
        intro w' hSw
        have hq := cell_gr hSw hz0
        go_simp
        (try rw [if_pos (by omega)])
        (try rw [← HAQ.out])
        (try with_reducible rfl)
      simp only [Act.put, List.setIfInBounds_toArray, List.set_cons_zero, List.set_cons_succ]
      refine take_at 3 (some 35) (v := ?vet3) rfl rfl (by kernel_rfl) (by kernel_rfl) (by kernel_rfl) (by rfl) ?yet3 hS ?tet3
      case yet3 =>
        intro w' hSw
        skip
        go_simp
        (try rw [if_pos (by omega)])
        (try rw [← HAQ.out])
        (try with_reducible rfl)
      simp only [Act.put, List.setIfInBounds_toArray, List.set_cons_zero, List.set_cons_succ]
      refine take_at 4 (some 36) (v := ?vet4) rfl rfl (by kernel_rfl) (by kernel_rfl) (by kernel_rfl) (by rfl) ?yet4 hS ?tet4
      case yet4 =>
        intro w' hSw
        skip
        go_simp
        (try rw [if_pos (by omega)])
        (try rw [← HAQ.out])
        (try with_reducible rfl)
      simp only [Act.put, List.setIfInBounds_toArray, List.set_cons_zero, List.set_cons_succ]
      refine take_at 6 (some 38) (v := ?vet6) rfl rfl (by kernel_rfl) (by kernel_rfl) (by kernel_rfl) (by rfl) ?yet6 hS ?tet6
      case yet6 =>
        intro w' hSw
        skip
        go_simp
        (try rw [if_pos (by omega)])
        (try rw [← HAQ.out])
        (try with_reducible rfl)
      simp only [Act.put, List.setIfInBounds_toArray, List.set_cons_zero, List.set_cons_succ]
      refine take_at 8 (some 40) (v := ?vet8) rfl rfl (by kernel_rfl) (by kernel_rfl) (by kernel_rfl) (by rfl) ?yet8 hS ?tet8
      case yet8 =>
        intro w' hSw
        skip
        go_simp
        (try rw [if_pos (by omega)])
        (try rw [← HAQ.out])
        (try with_reducible rfl)
      simp only [Act.put, List.setIfInBounds_toArray, List.set_cons_zero, List.set_cons_succ]
      refine take_at 9 (some 41) (v := .slice aq (L - 8) (cap - 8)) rfl rfl (by kernel_rfl) (by kernel_rfl) (by kernel_rfl) (by rfl) ?yet9 hS ?tet9
      case yet9 =>
        intro w' hSw
        rw [HAQ.out]
        go_simp
        (try rw [if_pos (by omega)])
        (try (intro hcon; exact absurd hcon (by omega)))
        (try with_reducible rfl)
      simp only [Act.put, List.setIfInBounds_toArray, List.set_cons_zero, List.set_cons_succ]
      refine next_two 5 12 rfl rfl (by kernel_rfl) (by rfl) (by rfl) (fun K hK => ?_) (fun K hK => ?_)
      · skip
        go_simp
        refine (HG4.out _ hS).mono ?_
        rintro e wj ⟨rfl, rfl⟩
        refine hK _ _ hS ?_
        clear hK K
        refine next_two 7 12 rfl rfl (by kernel_rfl) (by rfl) (by rfl) (fun K hK => ?_) (fun K hK => ?_)
        · skip
          go_simp
          refine (HG6.out _ hS).mono ?_
          rintro e wj ⟨rfl, rfl⟩
          refine hK _ _ hS ?_
          clear hK K
          refine next_two 10 12 rfl rfl (by kernel_rfl) (by rfl) (by rfl) (fun K hK => ?_) (fun K hK => ?_)
          · skip
            refine oper_app (base := wx.heap.size) (l := []) (m := l.drop 8) (.const (.slice none 0 0)) (.tmp 41) rfl rfl (OwB.nil _ _) rfl (HT.out.gr hS) (by have := HTL.out; simp only [List.length_nil]; omega) (Nat.le_refl _) ?_
            intro vx wv13 ho gx
            have hg : Gr wx wv13 := Gr.grownNew (Gr.refl _) gx (fun _ h => by cases h)
            rw [List.nil_append] at ho
            replace ho := ho.base (b := g0 + 1) (by have := hC.lt; omega)
            replace hS := hS.step hg
            replace hC := hC.gr hg
            obtain ⟨ax, cx, rfl, -, -⟩ := ho.rb.form
            rw [HML.out] at ho ⊢
            refine hK _ _ hS ?_
            simp only [Act.put, List.setIfInBounds_toArray, List.set_cons_zero, List.set_cons_succ]
            clear hK K gx hg
            refine take_at 11 (some 43) (v := ?vetz1411) rfl rfl (by kernel_rfl) (by kernel_rfl) (by kernel_rfl) (by rfl) ?yetz1411 hS ?tetz1411
            case yetz1411 =>
              intro w' hSw
              skip
              go_simp
              (try rw [if_pos (by omega)])
              (try rw [← HAQ.out])
              (try with_reducible rfl)
            simp only [Act.put, List.setIfInBounds_toArray, List.set_cons_zero, List.set_cons_succ]
            refine next_at 12 rfl (by kernel_rfl) (by rfl) (fun K hK => ?_)
            go_simp
            have hcl := CL.new wv13 [.bool false, .int .i64 0, .int .i64 0, .slice none 0 0] 74 _ rfl
            have hg := Gr.alloc (Gr.refl wv13) (.cells #[.bool false, .int .i64 0, .int .i64 0, .slice none 0 0] 74)
            have hgg : g0 < wv13.heap.size ∧ w.heap.size ≤ wv13.heap.size := ⟨hC.lt, Gr.size hS⟩
            have hne : ∀ k, (Value.slice ax M cx).ownBlock = some k → k ≠ wv13.heap.size := fun k hk => by have := ho.under k hk; omega
            replace ho := ho.gr hg
            refine hK _ _ (hS.step hg) ?_
            replace hS := hS.step hg
            replace hC := hC.gr hg
            clear hK K hg
            generalize wv13.alloc (.cells #[.bool false, .int .i64 0, .int .i64 0, .slice none 0 0] 74) = wv15 at hS hC hcl ho ⊢
            generalize wv13.heap.size = g at hcl hgg hne ⊢
            have hcF := hcl.fill [.bool true, .int .i64 A, .int .i64 B, .slice ax M cx] rfl
            have hgF := hS.fill (show w.heap.size ≤ g from hgg.2) [.bool true, .int .i64 A, .int .i64 B, .slice ax M cx] 0
            have hCF := hC.fillOther (s := g) (by omega) [.bool true, .int .i64 A, .int .i64 B, .slice ax M cx] 0
            have hoF := ho.fill hne [.bool true, .int .i64 A, .int .i64 B, .slice ax M cx] 0
            simp only [fillC, Nat.reduceAdd] at hcF hgF hCF hoF
            obtain ⟨⟨y0, y1, y2, y3⟩, u0, u1, u2, u3⟩ := hcl.four
            refine next_at 13 rfl (by kernel_rfl) (by rfl) (fun K hK => ?_)
            go_simp
            refine hK _ _ hgF ?_
            clear hK K
            clear y0 y1 y2 y3 u0 u1 u2 u3
            refine wpAnyH_done (by kernel_rfl) ?_ _
            refine qz_normal ⟨rfl, g, ax, cx, ?_, hgF, hoF, hcF, hCF, hgg.1⟩
            first | with_reducible rfl | exact rfl
          · skip
            go_simp
            have hcl := CL.new wx [.bool false, .int .i64 0, .int .i64 0, .slice none 0 0] 74 _ rfl
            have hg := Gr.alloc (Gr.refl wx) (.cells #[.bool false, .int .i64 0, .int .i64 0, .slice none 0 0] 74)
            have hgg : g0 < wx.heap.size ∧ w.heap.size ≤ wx.heap.size := ⟨hC.lt, Gr.size hS⟩
            refine hK _ _ (hS.step hg) ?_
            replace hS := hS.step hg
            replace hC := hC.gr hg
            clear hK K hg
            generalize wx.alloc (.cells #[.bool false, .int .i64 0, .int .i64 0, .slice none 0 0] 74) = wv16 at hS hC hcl ⊢
            generalize wx.heap.size = g at hcl hgg ⊢
            refine next_at 10 rfl (by kernel_rfl) (by rfl) (fun K hK => ?_)
            refine oper_app (base := wv16.heap.size) (l := []) (m := l.drop 8) (.const (.slice none 0 0)) (.tmp 41) rfl rfl (OwB.nil _ _) rfl (HT.out.gr hS) (by have := HTL.out; simp only [List.length_nil]; omega) (Nat.le_refl _) ?_
            intro vx wv17 ho gx
            have hg : Gr wv16 wv17 := Gr.grownNew (Gr.refl _) gx (fun _ h => by cases h)
            rw [List.nil_append] at ho
            have hne0 : ∀ k, vx.ownBlock = some k → k ≠ g := fun k hk => by have := ho.above k hk; have := hcl.lt; omega
            replace hcl := hcl.gr hg
            replace ho := ho.base (b := g0 + 1) (by have := hC.lt; omega)
            replace hS := hS.step hg
            replace hC := hC.gr hg
            obtain ⟨ax, cx, rfl, -, -⟩ := ho.rb.form
            rw [HML.out] at ho ⊢
            rw [HML.out] at hne0
            have hne := hne0
            refine hK _ _ hS ?_
            simp only [Act.put, List.setIfInBounds_toArray, List.set_cons_zero, List.set_cons_succ]
            clear hK K gx hg
            refine take_at 11 (some 43) (v := ?vetz1811) rfl rfl (by kernel_rfl) (by kernel_rfl) (by kernel_rfl) (by rfl) ?yetz1811 hS ?tetz1811
            case yetz1811 =>
              intro w' hSw
              skip
              go_simp
              (try rw [if_pos (by omega)])
              (try rw [← HAQ.out])
              (try with_reducible rfl)
            simp only [Act.put, List.setIfInBounds_toArray, List.set_cons_zero, List.set_cons_succ]
            have hcF := hcl.fill [.bool true, .int .i64 A, .int .i64 B, .slice ax M cx] rfl
            have hgF := hS.fill (show w.heap.size ≤ g from hgg.2) [.bool true, .int .i64 A, .int .i64 B, .slice ax M cx] 0
            have hCF := hC.fillOther (s := g) (by omega) [.bool true, .int .i64 A, .int .i64 B, .slice ax M cx] 0
            have hoF := ho.fill hne [.bool true, .int .i64 A, .int .i64 B, .slice ax M cx] 0
            simp only [fillC, Nat.reduceAdd] at hcF hgF hCF hoF
            obtain ⟨⟨y0, y1, y2, y3⟩, u0, u1, u2, u3⟩ := hcl.four
            refine next_at 13 rfl (by kernel_rfl) (by rfl) (fun K hK => ?_)
            go_simp
            refine hK _ _ hgF ?_
            clear hK K
            clear y0 y1 y2 y3 u0 u1 u2 u3
            refine wpAnyH_done (by kernel_rfl) ?_ _
            refine qz_normal ⟨rfl, g, ax, cx, ?_, hgF, hoF, hcF, hCF, hgg.1⟩
            first | with_reducible rfl | exact rfl
        · skip
          go_simp
          have hcl := CL.new wx [.bool false, .int .i64 0, .int .i64 0, .slice none 0 0] 74 _ rfl
          have hg := Gr.alloc (Gr.refl wx) (.cells #[.bool false, .int .i64 0, .int .i64 0, .slice none 0 0] 74)
          have hgg : g0 < wx.heap.size ∧ w.heap.size ≤ wx.heap.size := ⟨hC.lt, Gr.size hS⟩
          refine hK _ _ (hS.step hg) ?_
          replace hS := hS.step hg
          replace hC := hC.gr hg
          clear hK K hg
          generalize wx.alloc (.cells #[.bool false, .int .i64 0, .int .i64 0, .slice none 0 0] 74) = wv19 at hS hC hcl ⊢
          generalize wx.heap.size = g at hcl hgg ⊢
          refine next_at 7 rfl (by kernel_rfl) (by rfl) (fun K hK => ?_)
          go_simp
          refine (HG6.out _ hS).mono ?_
          rintro e wj ⟨rfl, rfl⟩
          refine hK _ _ hS ?_
          clear hK K
          refine next_at 10 rfl (by kernel_rfl) (by rfl) (fun K hK => ?_)
          refine oper_app (base := wv19.heap.size) (l := []) (m := l.drop 8) (.const (.slice none 0 0)) (.tmp 41) rfl rfl (OwB.nil _ _) rfl (HT.out.gr hS) (by have := HTL.out; simp only [List.length_nil]; omega) (Nat.le_refl _) ?_
          intro vx wv20 ho gx
          have hg : Gr wv19 wv20 := Gr.grownNew (Gr.refl _) gx (fun _ h => by cases h)
          rw [List.nil_append] at ho
          have hne0 : ∀ k, vx.ownBlock = some k → k ≠ g := fun k hk => by have := ho.above k hk; have := hcl.lt; omega
          replace hcl := hcl.gr hg
          replace ho := ho.base (b := g0 + 1) (by have := hC.lt; omega)
          replace hS := hS.step hg
          replace hC := hC.gr hg
          obtain ⟨ax, cx, rfl, -, -⟩ := ho.rb.form
          rw [HML.out] at ho ⊢
          rw [HML.out] at hne0
          have hne := hne0
          refine hK _ _ hS ?_
          simp only [Act.put, List.setIfInBounds_toArray, List.set_cons_zero, List.set_cons_succ]
          clear hK K gx hg
          refine take_at 11 (some 43) (v := ?vetz2111) rfl rfl (by kernel_rfl) (by kernel_rfl) (by kernel_rfl) (by rfl) ?yetz2111 hS ?tetz2111
          case yetz2111 =>
            intro w' hSw
            skip
            go_simp
            (try rw [if_pos (by omega)])
            (try rw [← HAQ.out])
            (try with_reducible rfl)
          simp only [Act.put, List.setIfInBounds_toArray, List.set_cons_zero, List.set_cons_succ]
          have hcF := hcl.fill [.bool true, .int .i64 A, .int .i64 B, .slice ax M cx] rfl
          have hgF := hS.fill (show w.heap.size ≤ g from hgg.2) [.bool true, .int .i64 A, .int .i64 B, .slice ax M cx] 0
          have hCF := hC.fillOther (s := g) (by omega) [.bool true, .int .i64 A, .int .i64 B, .slice ax M cx] 0
          have hoF := ho.fill hne [.bool true, .int .i64 A, .int .i64 B, .slice ax M cx] 0
          simp only [fillC, Nat.reduceAdd] at hcF hgF hCF hoF
          obtain ⟨⟨y0, y1, y2, y3⟩, u0, u1, u2, u3⟩ := hcl.four
          refine next_at 13 rfl (by kernel_rfl) (by rfl) (fun K hK => ?_)
          go_simp
          refine hK _ _ hgF ?_
          clear hK K
          clear y0 y1 y2 y3 u0 u1 u2 u3
          refine wpAnyH_done (by kernel_rfl) ?_ _
          refine qz_normal ⟨rfl, g, ax, cx, ?_, hgF, hoF, hcF, hCF, hgg.1⟩
          first | with_reducible rfl | exact rfl
      · skip
        go_simp
        have hcl := CL.new wx [.bool false, .int .i64 0, .int .i64 0, .slice none 0 0] 74 _ rfl
        have hg := Gr.alloc (Gr.refl wx) (.cells #[.bool false, .int .i64 0, .int .i64 0, .slice none 0 0] 74)
        have hgg : g0 < wx.heap.size ∧ w.heap.size ≤ wx.heap.size := ⟨hC.lt, Gr.size hS⟩
        refine hK _ _ (hS.step hg) ?_
        replace hS := hS.step hg
        replace hC := hC.gr hg
        clear hK K hg
        generalize wx.alloc (.cells #[.bool false, .int .i64 0, .int .i64 0, .slice none 0 0] 74) = wv22 at hS hC hcl ⊢
        generalize wx.heap.size = g at hcl hgg ⊢
        refine next_at 5 rfl (by kernel_rfl) (by rfl) (fun K hK => ?_)
        go_simp
        refine (HG4.out _ hS).mono ?_
        rintro e wj ⟨rfl, rfl⟩
        refine hK _ _ hS ?_
        clear hK K
        refine next_at 7 rfl (by kernel_rfl) (by rfl) (fun K hK => ?_)
        go_simp
        refine (HG6.out _ hS).mono ?_
        rintro e wj ⟨rfl, rfl⟩
        refine hK _ _ hS ?_
        clear hK K
        refine next_at 10 rfl (by kernel_rfl) (by rfl) (fun K hK => ?_)
        refine oper_app (base := wv22.heap.size) (l := []) (m := l.drop 8) (.const (.slice none 0 0)) (.tmp 41) rfl rfl (OwB.nil _ _) rfl (HT.out.gr hS) (by have := HTL.out; simp only [List.length_nil]; omega) (Nat.le_refl _) ?_
        intro vx wv23 ho gx
        have hg : Gr wv22 wv23 := Gr.grownNew (Gr.refl _) gx (fun _ h => by cases h)
        rw [List.nil_append] at ho
        have hne0 : ∀ k, vx.ownBlock = some k → k ≠ g := fun k hk => by have := ho.above k hk; have := hcl.lt; omega
        replace hcl := hcl.gr hg
        replace ho := ho.base (b := g0 + 1) (by have := hC.lt; omega)
        replace hS := hS.step hg
        replace hC := hC.gr hg
        obtain ⟨ax, cx, rfl, -, -⟩ := ho.rb.form
        rw [HML.out] at ho ⊢
        rw [HML.out] at hne0
        have hne := hne0
        refine hK _ _ hS ?_
        simp only [Act.put, List.setIfInBounds_toArray, List.set_cons_zero, List.set_cons_succ]
        clear hK K gx hg
        refine take_at 11 (some 43) (v := ?vetz2411) rfl rfl (by kernel_rfl) (by kernel_rfl) (by kernel_rfl) (by rfl) ?yetz2411 hS ?tetz2411
        case yetz2411 =>
          intro w' hSw
          skip
          go_simp
          (try rw [if_pos (by omega)])
          (try rw [← HAQ.out])
          (try with_reducible rfl)
        simp only [Act.put, List.setIfInBounds_toArray, List.set_cons_zero, List.set_cons_succ]
        have hcF := hcl.fill [.bool true, .int .i64 A, .int .i64 B, .slice ax M cx] rfl
        have hgF := hS.fill (show w.heap.size ≤ g from hgg.2) [.bool true, .int .i64 A, .int .i64 B, .slice ax M cx] 0
        have hCF := hC.fillOther (s := g) (by omega) [.bool true, .int .i64 A, .int .i64 B, .slice ax M cx] 0
        have hoF := ho.fill hne [.bool true, .int .i64 A, .int .i64 B, .slice ax M cx] 0
        simp only [fillC, Nat.reduceAdd] at hcF hgF hCF hoF
        obtain ⟨⟨y0, y1, y2, y3⟩, u0, u1, u2, u3⟩ := hcl.four
        refine next_at 13 rfl (by kernel_rfl) (by rfl) (fun K hK => ?_)
        go_simp
        refine hK _ _ hgF ?_
        clear hK K
        clear y0 y1 y2 y3 u0 u1 u2 u3
        refine wpAnyH_done (by kernel_rfl) ?_ _
        refine qz_normal ⟨rfl, g, ax, cx, ?_, hgF, hoF, hcF, hCF, hgg.1⟩
        first | with_reducible rfl | exact rfl
    case ket =>
      clear hS hC
      intro g ax cx wr ⟨hS, ho, hcl, hC, hgg⟩
      obtain ⟨⟨x0, x1, x2, x3⟩, f0, f1, f2, f3⟩ := hcl.four
      go_wp2_with fail
      refine (recho_ok true A B wr ho.rb hA hB (by rw [HML.out]; omega)).mono ?_
      rintro e we ⟨ve, rfl, hve, hg⟩
      replace hS := hS.step hg
      replace ho := ho.gr hg
      replace hcl := hcl.gr hg
      replace hC := hC.gr hg
      rw [HRE.out] at hve
      have HQ := Lib.hid (rweq_c we hve.rb (HR.out.gr hS) (by rw [HRL.out]; omega) (by rw [← HL.out]; omega) cc hcc)
      obtain ⟨ae, ce, rfl, -, -⟩ := hve.rb.form
      rw [HRL.out] at HQ ⊢
      clear hve hg hcc x0 x1 x2 x3 f0 f1 f2 f3
      go_wp2_with fail
      refine HQ.out.mono ?_
      rintro e wf ⟨rfl, hg⟩
      replace hS := hS.step hg
      replace ho := ho.gr hg
      replace hcl := hcl.gr hg
      replace hC := hC.gr hg
      clear hg HQ
      cases cc with
      | false =>
        have HE := Lib.hid (HCF.out rfl)
        obtain ⟨⟨y0, y1, y2, y3⟩, u0, u1, u2, u3⟩ := hC.four
        have hcF := hC.fill [.bool false, .int .i64 0, .int .i64 0, .slice none 0 0] rfl
        have hgF := hS.fill hle [.bool false, .int .i64 0, .int .i64 0, .slice none 0 0] 0
        simp only [fillC, Nat.reduceAdd] at hcF hgF
        go_wp2_with fail
        clear y0 y1 y2 y3 u0 u1 u2 u3
        generalize ((((wf.setCell ⟨g0, 0, none⟩ (.bool false)).setCell ⟨g0, 1, none⟩ (.int .i64 0)).setCell ⟨g0, 2, none⟩ (.int .i64 0)).setCell ⟨g0, 3, none⟩ (.slice none 0 0)) = wF at hcF hgF ⊢
        obtain ⟨⟨c0, c1, c2, c3⟩, -⟩ := hcF.four
        exact bodyPost_ret (v := .tuple #[.agg #[.bool false, .int .i64 0, .int .i64 0, .slice none 0 0], .int .i64 4]) (by simp [results, Tryz.results37, go_sem, c0, c1, c2, c3]) rfl (.inr ⟨HE.out, rfl, hgF⟩)
      | true =>
        have HE := Lib.hid (HCT.out rfl)
        have hne : ∀ k, (Value.slice ax M cx).ownBlock = some k → k ≠ g0 := fun k hk => by have := ho.above k hk; omega
        replace ho := ho.base (b := w.heap.size) (by omega)
        obtain ⟨⟨y0, y1, y2, y3⟩, u0, u1, u2, u3⟩ := hC.four
        obtain ⟨⟨x0, x1, x2, x3⟩, f0, f1, f2, f3⟩ := hcl.four
        have hcF := hC.fill [.bool true, .int .i64 A, .int .i64 B, .slice ax M cx] rfl
        have hgF := hS.fill hle [.bool true, .int .i64 A, .int .i64 B, .slice ax M cx] 0
        have hoF := ho.fill hne [.bool true, .int .i64 A, .int .i64 B, .slice ax M cx] 0
        simp only [fillC, Nat.reduceAdd] at hcF hgF hoF
        go_wp2_with fail
        clear y0 y1 y2 y3 u0 u1 u2 u3 x0 x1 x2 x3 f0 f1 f2 f3
        generalize ((((wf.setCell ⟨g0, 0, none⟩ (.bool true)).setCell ⟨g0, 1, none⟩ (.int .i64 A)).setCell ⟨g0, 2, none⟩ (.int .i64 B)).setCell ⟨g0, 3, none⟩ (.slice ax M cx)) = wF at hcF hgF hoF ⊢
        obtain ⟨⟨c0, c1, c2, c3⟩, -⟩ := hcF.four
        exact bodyPost_ret (v := .tuple #[.agg #[.bool true, .int .i64 A, .int .i64 B, .slice ax M cx], .int .i64 0]) (by simp [results, Tryz.results37, go_sem, c0, c1, c2, c3]) rfl (.inl ⟨HE.out, _, rfl, hoF, hgF⟩)
end Go.Proofs.YtkpejaiigopmgaaGreatDoor
/- The document decodes notices. -/
namespace Go.Proofs.YtkpejaiigopmgaaGreatDoor
open Go Go.RowKit Go.Sort
set_option maxRecDepth 100000
set_option linter.unusedVariables false
set_option linter.unusedSimpArgs false
set_option linter.unusedVariables false
end Go.Proofs.YtkpejaiigopmgaaGreatDoor
