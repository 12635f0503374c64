/- What may be answered, as the document says it. -/
import Derived.Test.YtkpejaiigopmgaaGreatDoorGK
import Derived.Test.YtkpejaiigopmgaaGreatDoorJdM
import Derived.WalkKit
import Derived.WalkSpells
import Derived.WalkLawsBesides
import Derived.WalkSmall
import Derived.Handy
import Derived.BigQuiet
import Derived.Deep.QuietTactic
import Derived.Deep.RegionHeld3
import Derived.Deep.DeepFit
import Derived.Below
import Derived.Lib.Hide
import Derived.Lib.QuietBelow
namespace Go.Proofs.YtkpejaiigopmgaaGreatDoor
open Go Go.RowKit Go.Sort
set_option maxRecDepth 100000
set_option linter.unusedVariables false
set_option linter.unusedSimpArgs false
theorem rdecode_enc {p : Nat → Prop} {v : Value} {h : Hd} {d : List Nat} (k : h.ok) (w : World) (hr : Rb p w v (enc h d)) (hl : d.length ≤ 1480) :
    Calls Tryz.prog 74 #[v] w fun e w' => ∃ v', e = .returned (.tuple #[h.p v', .int .i64 0]) ∧ OwB w.heap.size w' v' d ∧ Gr w w' := by
  have h1 := enc_dc k hl
  have h2 := rdecode_ok w hr (by rw [enc_len]; omega) h1.1
  rw [h1.2, enc_drop] at h2
  exact h2
set_option maxHeartbeats 4000000 in
theorem ransw_yes {p : Nat → Prop} {v : Value} {h : Hd} {d : List Nat} (w : World) (k : h.ok) (hr : Rb p w v (enc h d)) (hl : d.length ≤ 1480) (h8 : 8 ≤ d.length) (hu : usb h.src)
    (hp : (h.proto = 1 ∧ d.getD 0 0 = 8) ∨ h.proto = 17 ∨ (h.proto = 6 ∧ d.length = 20 ∧ d.getD 13 0 = 2)) :
    Calls Tryz.prog 36 #[v] w fun e w' => ∃ v', e = .returned (.tuple #[h.p v', .bool true]) ∧ OwB w.heap.size w' v' d ∧ Gr w w' := by
  have HU := Lib.hid (fun w => usable_any h.src w k.src true ⟨fun _ => hu, fun _ => rfl⟩)
  clear hu
  have HD := Lib.hid (fun w' (g : Gr w w') => rdecode_enc k w' (hr.gr g) hl)
  obtain ⟨av, cv, rfl, -, -⟩ := hr.form
  generalize (enc h d).length = N at *
  clear hr k
  unfold Hd.p pkV at *
  have hR := CL.new w [.int .i64 0, .int .i64 0, .int .i64 0, .int .i64 0, .bool false, .int .u32 0, .int .u32 0, .slice none 0 0] 55 _ rfl
  have hG := Gr.alloc (Gr.refl w) (.cells #[.int .i64 0, .int .i64 0, .int .i64 0, .int .i64 0, .bool false, .int .u32 0, .int .u32 0, .slice none 0 0] 55)
  have hgz := Nat.le_refl w.heap.size
  simp only [List.toArray] at hR
  go_enter Tryz.func36, Tryz.ntmps36
  go_upto_region 1 with fail
  generalize w.alloc (.cells #[.int .i64 0, .int .i64 0, .int .i64 0, .int .i64 0, .bool false, .int .u32 0, .int .u32 0, .slice none 0 0] 55) = w1 at hR hG ⊢
  generalize hge : w.heap.size = g1 at hR ⊢
  rw [hge] at hgz
  replace hgz : w.heap.size ≤ g1 := by omega
  clear hge
  go_wp2_with fail
  refine (HD.out _ hG).mono ?_
  rintro e w2 ⟨v2, rfl, ho, hg⟩
  obtain ⟨g2, c2, rfl, hb2, -, hc2⟩ := ho.form (by omega)
  have hne : g2 ≠ g1 := by have := hR.lt; omega
  clear hb2
  replace hR := hR.gr hg
  replace ho := ho.base (Gr.size hG)
  replace hG := hG.step hg
  obtain ⟨M, hM⟩ : ∃ M, M = d.length := ⟨_, rfl⟩
  rw [← hM] at ho hc2 h8 ⊢
  have HM := Lib.hid hM
  have d1 : decide ((M : Int) < 8) = false := by rw [decide_eq_false_iff_not]; omega
  have hC := CL.new w2 [.int .i64 h.tos, .int .i64 h.id, .int .i64 h.ttl, .int .i64 h.proto, .bool h.keep, .int .u32 h.src, .int .u32 h.dst, .slice (some ⟨g2, 0, none⟩) M c2] 55 _ rfl
  have hg3 := Gr.alloc (Gr.refl w2) (.cells #[.int .i64 h.tos, .int .i64 h.id, .int .i64 h.ttl, .int .i64 h.proto, .bool h.keep, .int .u32 h.src, .int .u32 h.dst, .slice (some ⟨g2, 0, none⟩) M c2] 55)
  simp only [List.toArray] at hC
  clear hM hg hl
  go_upto_region 2 with fail
  generalize w2.alloc (.cells #[.int .i64 h.tos, .int .i64 h.id, .int .i64 h.ttl, .int .i64 h.proto, .bool h.keep, .int .u32 h.src, .int .u32 h.dst, .slice (some ⟨g2, 0, none⟩) M c2] 55) = w3 at hC hg3 ⊢
  generalize w2.heap.size = g3 at hC ⊢
  replace hR := hR.gr hg3
  replace ho := ho.gr hg3
  replace hG := hG.step hg3
  clear hg3
  obtain ⟨⟨x0, x1, x2, x3, x4, x5, x6, x7⟩, -⟩ := hC.eight
  clear x0 x1 x2 x3 x4 x5 x6 x7 HD
  have HO := Lib.hid ho
  obtain ⟨⟨x0, x1, x2, x3, x4, x5, x6, x7⟩, -⟩ := hC.eight
  have HNV := Lib.hid (show ∀ k, (Value.slice (some ⟨g2, 0, none⟩) M c2).ownBlock = some k → k ≠ g1 from fun k hk => by cases hk; exact hne)
  rcases hp with ⟨hp, h0⟩ | hp | ⟨hp, h20, h13⟩
  · have hc : w3.cell? ⟨g2, 0, none⟩ = some (.int .u8 8) := by
      obtain ⟨b, off, e, -, hc⟩ := ho.rb.at' (i := 0) (by rw [← HM.out]; omega)
      cases e
      rw [h0] at hc
      exact hc
    have e2 : ((h.proto : Int) == 1) = true := by rw [hp]; rfl
    have e3 : ((h.proto : Int) == 6) = false := by rw [hp]; rfl
    clear ho hp h0
    go_wp2_with fail
    refine (HU.out _).mono ?_
    rintro e w4 ⟨rfl, hg⟩
    replace hR := hR.gr hg
    replace hC := hC.gr hg
    replace hG := hG.step hg
    replace HO := Lib.hid (HO.out.gr hg)
    clear hg x0 x1 x2 x3 x4 x5 x6 x7
    obtain ⟨⟨x0, x1, x2, x3, x4, x5, x6, x7⟩, -⟩ := hC.eight
    obtain ⟨⟨y0, y1, y2, y3, y4, y5, y6, y7⟩, v0, v1, v2, v3, v4, v5, v6, v7⟩ := hR.eight
    go_wp2_with fail
    clear x0 x1 x2 x3 x4 x5 x6 x7
    have hos := ownsRow_fill8 HO.out HNV.out (.int .i64 h.tos) (.int .i64 h.id) (.int .i64 h.ttl) (.int .i64 h.proto) (.bool h.keep) (.int .u32 h.src) (.int .u32 h.dst) (.slice (some ⟨g2, 0, none⟩) M c2)
    clear y0 y1 y2 y3 y4 y5 y6 y7 v0 v1 v2 v3 v4 v5 v6 v7
    have hc8 := hR.fill8 (.int .i64 h.tos) (.int .i64 h.id) (.int .i64 h.ttl) (.int .i64 h.proto) (.bool h.keep) (.int .u32 h.src) (.int .u32 h.dst) (.slice (some ⟨g2, 0, none⟩) M c2)
    have hgf := gr_fill8 hG hgz (.int .i64 h.tos) (.int .i64 h.id) (.int .i64 h.ttl) (.int .i64 h.proto) (.bool h.keep) (.int .u32 h.src) (.int .u32 h.dst) (.slice (some ⟨g2, 0, none⟩) M c2)
    generalize ((((((((w4.setCell ⟨g1, 0, none⟩ (.int .i64 h.tos)).setCell ⟨g1, 1, none⟩ (.int .i64 h.id)).setCell ⟨g1, 2, none⟩ (.int .i64 h.ttl)).setCell ⟨g1, 3, none⟩ (.int .i64 h.proto)).setCell ⟨g1, 4, none⟩ (.bool h.keep)).setCell ⟨g1, 5, none⟩ (.int .u32 h.src)).setCell ⟨g1, 6, none⟩ (.int .u32 h.dst)).setCell ⟨g1, 7, none⟩ (.slice (some ⟨g2, 0, none⟩) M c2)) = wf at hc8 hgf hos ⊢
    obtain ⟨⟨c0, c1, c2', c3, c4, c5, c6, c7⟩, -⟩ := hc8.eight
    exact bodyPost_ret (v := .tuple #[.agg #[.int .i64 h.tos, .int .i64 h.id, .int .i64 h.ttl, .int .i64 h.proto, .bool h.keep, .int .u32 h.src, .int .u32 h.dst, .slice (some ⟨g2, 0, none⟩) M c2], .bool true]) (by simp [results, Tryz.results36, go_sem, c0, c1, c2', c3, c4, c5, c6, c7]) rfl ⟨_, rfl, hos, hgf⟩
  · have e2 : ((h.proto : Int) == 1) = false := by rw [hp]; rfl
    have e3 : ((h.proto : Int) == 6) = false := by rw [hp]; rfl
    clear ho hp
    go_wp2_with fail
    refine (HU.out _).mono ?_
    rintro e w4 ⟨rfl, hg⟩
    replace hR := hR.gr hg
    replace hC := hC.gr hg
    replace hG := hG.step hg
    replace HO := Lib.hid (HO.out.gr hg)
    clear hg x0 x1 x2 x3 x4 x5 x6 x7
    obtain ⟨⟨x0, x1, x2, x3, x4, x5, x6, x7⟩, -⟩ := hC.eight
    obtain ⟨⟨y0, y1, y2, y3, y4, y5, y6, y7⟩, v0, v1, v2, v3, v4, v5, v6, v7⟩ := hR.eight
    go_wp2_with fail
    clear x0 x1 x2 x3 x4 x5 x6 x7
    have hos := ownsRow_fill8 HO.out HNV.out (.int .i64 h.tos) (.int .i64 h.id) (.int .i64 h.ttl) (.int .i64 h.proto) (.bool h.keep) (.int .u32 h.src) (.int .u32 h.dst) (.slice (some ⟨g2, 0, none⟩) M c2)
    clear y0 y1 y2 y3 y4 y5 y6 y7 v0 v1 v2 v3 v4 v5 v6 v7
    have hc8 := hR.fill8 (.int .i64 h.tos) (.int .i64 h.id) (.int .i64 h.ttl) (.int .i64 h.proto) (.bool h.keep) (.int .u32 h.src) (.int .u32 h.dst) (.slice (some ⟨g2, 0, none⟩) M c2)
    have hgf := gr_fill8 hG hgz (.int .i64 h.tos) (.int .i64 h.id) (.int .i64 h.ttl) (.int .i64 h.proto) (.bool h.keep) (.int .u32 h.src) (.int .u32 h.dst) (.slice (some ⟨g2, 0, none⟩) M c2)
    generalize ((((((((w4.setCell ⟨g1, 0, none⟩ (.int .i64 h.tos)).setCell ⟨g1, 1, none⟩ (.int .i64 h.id)).setCell ⟨g1, 2, none⟩ (.int .i64 h.ttl)).setCell ⟨g1, 3, none⟩ (.int .i64 h.proto)).setCell ⟨g1, 4, none⟩ (.bool h.keep)).setCell ⟨g1, 5, none⟩ (.int .u32 h.src)).setCell ⟨g1, 6, none⟩ (.int .u32 h.dst)).setCell ⟨g1, 7, none⟩ (.slice (some ⟨g2, 0, none⟩) M c2)) = wf at hc8 hgf hos ⊢
    obtain ⟨⟨c0, c1, c2', c3, c4, c5, c6, c7⟩, -⟩ := hc8.eight
    exact bodyPost_ret (v := .tuple #[.agg #[.int .i64 h.tos, .int .i64 h.id, .int .i64 h.ttl, .int .i64 h.proto, .bool h.keep, .int .u32 h.src, .int .u32 h.dst, .slice (some ⟨g2, 0, none⟩) M c2], .bool true]) (by simp [results, Tryz.results36, go_sem, c0, c1, c2', c3, c4, c5, c6, c7]) rfl ⟨_, rfl, hos, hgf⟩
  · have hc : w3.cell? ⟨g2, 13, none⟩ = some (.int .u8 2) := by
      obtain ⟨b, off, e, -, hc⟩ := ho.rb.at' (i := 13) (by omega)
      cases e
      rw [h13] at hc
      exact hc
    have e2 : ((h.proto : Int) == 1) = false := by rw [hp]; rfl
    have e3 : ((h.proto : Int) == 6) = true := by rw [hp]; rfl
    rw [← HM.out] at h20
    have e4 : decide ((14 : Int) ≤ (M : Int)) = true := by rw [decide_eq_true_eq]; omega
    have e5 : (bits .and .u8 2 4 != 0) = false := by decide
    have e6 : 13 < M := by omega
    clear h20
    clear ho hp h13
    go_wp2_with fail
    refine (HU.out _).mono ?_
    rintro e w4 ⟨rfl, hg⟩
    replace hR := hR.gr hg
    replace hC := hC.gr hg
    replace hG := hG.step hg
    replace HO := Lib.hid (HO.out.gr hg)
    clear hg x0 x1 x2 x3 x4 x5 x6 x7
    obtain ⟨⟨x0, x1, x2, x3, x4, x5, x6, x7⟩, -⟩ := hC.eight
    obtain ⟨⟨y0, y1, y2, y3, y4, y5, y6, y7⟩, v0, v1, v2, v3, v4, v5, v6, v7⟩ := hR.eight
    go_wp2_with fail
    clear x0 x1 x2 x3 x4 x5 x6 x7
    have hos := ownsRow_fill8 HO.out HNV.out (.int .i64 h.tos) (.int .i64 h.id) (.int .i64 h.ttl) (.int .i64 h.proto) (.bool h.keep) (.int .u32 h.src) (.int .u32 h.dst) (.slice (some ⟨g2, 0, none⟩) M c2)
    clear y0 y1 y2 y3 y4 y5 y6 y7 v0 v1 v2 v3 v4 v5 v6 v7
    have hc8 := hR.fill8 (.int .i64 h.tos) (.int .i64 h.id) (.int .i64 h.ttl) (.int .i64 h.proto) (.bool h.keep) (.int .u32 h.src) (.int .u32 h.dst) (.slice (some ⟨g2, 0, none⟩) M c2)
    have hgf := gr_fill8 hG hgz (.int .i64 h.tos) (.int .i64 h.id) (.int .i64 h.ttl) (.int .i64 h.proto) (.bool h.keep) (.int .u32 h.src) (.int .u32 h.dst) (.slice (some ⟨g2, 0, none⟩) M c2)
    generalize ((((((((w4.setCell ⟨g1, 0, none⟩ (.int .i64 h.tos)).setCell ⟨g1, 1, none⟩ (.int .i64 h.id)).setCell ⟨g1, 2, none⟩ (.int .i64 h.ttl)).setCell ⟨g1, 3, none⟩ (.int .i64 h.proto)).setCell ⟨g1, 4, none⟩ (.bool h.keep)).setCell ⟨g1, 5, none⟩ (.int .u32 h.src)).setCell ⟨g1, 6, none⟩ (.int .u32 h.dst)).setCell ⟨g1, 7, none⟩ (.slice (some ⟨g2, 0, none⟩) M c2)) = wf at hc8 hgf hos ⊢
    obtain ⟨⟨c0, c1, c2', c3, c4, c5, c6, c7⟩, -⟩ := hc8.eight
    exact bodyPost_ret (v := .tuple #[.agg #[.int .i64 h.tos, .int .i64 h.id, .int .i64 h.ttl, .int .i64 h.proto, .bool h.keep, .int .u32 h.src, .int .u32 h.dst, .slice (some ⟨g2, 0, none⟩) M c2], .bool true]) (by simp [results, Tryz.results36, go_sem, c0, c1, c2', c3, c4, c5, c6, c7]) rfl ⟨_, rfl, hos, hgf⟩
set_option maxHeartbeats 4000000 in
theorem ransw_no {p : Nat → Prop} {v : Value} {h : Hd} {d : List Nat} (w : World) (k : h.ok) (hr : Rb p w v (enc h d)) (hl : d.length ≤ 1480) (h8 : 8 ≤ d.length) (hu : ¬ usb h.src)
    (hp : (h.proto = 1 ∧ d.getD 0 0 = 8) ∨ h.proto = 17 ∨ (h.proto = 6 ∧ d.length = 20 ∧ d.getD 13 0 = 2)) :
    Calls Tryz.prog 36 #[v] w fun e w' => e = .returned (.tuple #[pkZ, .bool false]) ∧ Gr w w' := by
  have HU := Lib.hid (fun w => usable_any h.src w k.src false ⟨fun h => Bool.noConfusion h, fun h => absurd h hu⟩)
  clear hu
  unfold pkZ
  have HD := Lib.hid (fun w' (g : Gr w w') => rdecode_enc k w' (hr.gr g) hl)
  obtain ⟨av, cv, rfl, -, -⟩ := hr.form
  generalize (enc h d).length = N at *
  clear hr k
  unfold Hd.p pkV at *
  have hR := CL.new w [.int .i64 0, .int .i64 0, .int .i64 0, .int .i64 0, .bool false, .int .u32 0, .int .u32 0, .slice none 0 0] 55 _ rfl
  have hG := Gr.alloc (Gr.refl w) (.cells #[.int .i64 0, .int .i64 0, .int .i64 0, .int .i64 0, .bool false, .int .u32 0, .int .u32 0, .slice none 0 0] 55)
  have hgz := Nat.le_refl w.heap.size
  simp only [List.toArray] at hR
  go_enter Tryz.func36, Tryz.ntmps36
  go_upto_region 1 with fail
  generalize w.alloc (.cells #[.int .i64 0, .int .i64 0, .int .i64 0, .int .i64 0, .bool false, .int .u32 0, .int .u32 0, .slice none 0 0] 55) = w1 at hR hG ⊢
  generalize hge : w.heap.size = g1 at hR ⊢
  rw [hge] at hgz
  replace hgz : w.heap.size ≤ g1 := by omega
  clear hge
  go_wp2_with fail
  refine (HD.out _ hG).mono ?_
  rintro e w2 ⟨v2, rfl, ho, hg⟩
  obtain ⟨g2, c2, rfl, hb2, -, hc2⟩ := ho.form (by omega)
  have hne : g2 ≠ g1 := by have := hR.lt; omega
  clear hb2
  replace hR := hR.gr hg
  replace ho := ho.base (Gr.size hG)
  replace hG := hG.step hg
  obtain ⟨M, hM⟩ : ∃ M, M = d.length := ⟨_, rfl⟩
  rw [← hM] at ho hc2 h8 ⊢
  have HM := Lib.hid hM
  have d1 : decide ((M : Int) < 8) = false := by rw [decide_eq_false_iff_not]; omega
  have hC := CL.new w2 [.int .i64 h.tos, .int .i64 h.id, .int .i64 h.ttl, .int .i64 h.proto, .bool h.keep, .int .u32 h.src, .int .u32 h.dst, .slice (some ⟨g2, 0, none⟩) M c2] 55 _ rfl
  have hg3 := Gr.alloc (Gr.refl w2) (.cells #[.int .i64 h.tos, .int .i64 h.id, .int .i64 h.ttl, .int .i64 h.proto, .bool h.keep, .int .u32 h.src, .int .u32 h.dst, .slice (some ⟨g2, 0, none⟩) M c2] 55)
  simp only [List.toArray] at hC
  clear hM hg hl
  go_upto_region 2 with fail
  generalize w2.alloc (.cells #[.int .i64 h.tos, .int .i64 h.id, .int .i64 h.ttl, .int .i64 h.proto, .bool h.keep, .int .u32 h.src, .int .u32 h.dst, .slice (some ⟨g2, 0, none⟩) M c2] 55) = w3 at hC hg3 ⊢
  generalize w2.heap.size = g3 at hC ⊢
  replace hR := hR.gr hg3
  replace ho := ho.gr hg3
  replace hG := hG.step hg3
  clear hg3
  obtain ⟨⟨x0, x1, x2, x3, x4, x5, x6, x7⟩, -⟩ := hC.eight
  clear x0 x1 x2 x3 x4 x5 x6 x7 HD
  have HO := Lib.hid ho
  obtain ⟨⟨x0, x1, x2, x3, x4, x5, x6, x7⟩, -⟩ := hC.eight
  rcases hp with ⟨hp, h0⟩ | hp | ⟨hp, h20, h13⟩
  · have hc : w3.cell? ⟨g2, 0, none⟩ = some (.int .u8 8) := by
      obtain ⟨b, off, e, -, hc⟩ := ho.rb.at' (i := 0) (by rw [← HM.out]; omega)
      cases e
      rw [h0] at hc
      exact hc
    have e2 : ((h.proto : Int) == 1) = true := by rw [hp]; rfl
    have e3 : ((h.proto : Int) == 6) = false := by rw [hp]; rfl
    clear ho hp h0
    go_wp2_with fail
    refine (HU.out _).mono ?_
    rintro e w4 ⟨rfl, hg⟩
    replace hR := hR.gr hg
    replace hG := hG.step hg
    clear hg x0 x1 x2 x3 x4 x5 x6 x7
    obtain ⟨⟨y0, y1, y2, y3, y4, y5, y6, y7⟩, v0, v1, v2, v3, v4, v5, v6, v7⟩ := hR.eight
    go_wp2_with fail
    clear y0 y1 y2 y3 y4 y5 y6 y7 v0 v1 v2 v3 v4 v5 v6 v7
    have hc8 := hR.fill8 (.int .i64 0) (.int .i64 0) (.int .i64 0) (.int .i64 0) (.bool false) (.int .u32 0) (.int .u32 0) (.slice none 0 0)
    have hgf := gr_fill8 hG hgz (.int .i64 0) (.int .i64 0) (.int .i64 0) (.int .i64 0) (.bool false) (.int .u32 0) (.int .u32 0) (.slice none 0 0)
    generalize ((((((((w4.setCell ⟨g1, 0, none⟩ (.int .i64 0)).setCell ⟨g1, 1, none⟩ (.int .i64 0)).setCell ⟨g1, 2, none⟩ (.int .i64 0)).setCell ⟨g1, 3, none⟩ (.int .i64 0)).setCell ⟨g1, 4, none⟩ (.bool false)).setCell ⟨g1, 5, none⟩ (.int .u32 0)).setCell ⟨g1, 6, none⟩ (.int .u32 0)).setCell ⟨g1, 7, none⟩ (.slice none 0 0)) = wf at hc8 hgf ⊢
    obtain ⟨⟨c0, c1, c2, c3, c4, c5, c6, c7⟩, -⟩ := hc8.eight
    exact bodyPost_ret (v := .tuple #[.agg #[.int .i64 0, .int .i64 0, .int .i64 0, .int .i64 0, .bool false, .int .u32 0, .int .u32 0, .slice none 0 0], .bool false]) (by simp [results, Tryz.results36, go_sem, c0, c1, c2, c3, c4, c5, c6, c7]) rfl ⟨rfl, hgf⟩
  · have e2 : ((h.proto : Int) == 1) = false := by rw [hp]; rfl
    have e3 : ((h.proto : Int) == 6) = false := by rw [hp]; rfl
    clear ho hp
    go_wp2_with fail
    refine (HU.out _).mono ?_
    rintro e w4 ⟨rfl, hg⟩
    replace hR := hR.gr hg
    replace hG := hG.step hg
    clear hg x0 x1 x2 x3 x4 x5 x6 x7
    obtain ⟨⟨y0, y1, y2, y3, y4, y5, y6, y7⟩, v0, v1, v2, v3, v4, v5, v6, v7⟩ := hR.eight
    go_wp2_with fail
    clear y0 y1 y2 y3 y4 y5 y6 y7 v0 v1 v2 v3 v4 v5 v6 v7
    have hc8 := hR.fill8 (.int .i64 0) (.int .i64 0) (.int .i64 0) (.int .i64 0) (.bool false) (.int .u32 0) (.int .u32 0) (.slice none 0 0)
    have hgf := gr_fill8 hG hgz (.int .i64 0) (.int .i64 0) (.int .i64 0) (.int .i64 0) (.bool false) (.int .u32 0) (.int .u32 0) (.slice none 0 0)
    generalize ((((((((w4.setCell ⟨g1, 0, none⟩ (.int .i64 0)).setCell ⟨g1, 1, none⟩ (.int .i64 0)).setCell ⟨g1, 2, none⟩ (.int .i64 0)).setCell ⟨g1, 3, none⟩ (.int .i64 0)).setCell ⟨g1, 4, none⟩ (.bool false)).setCell ⟨g1, 5, none⟩ (.int .u32 0)).setCell ⟨g1, 6, none⟩ (.int .u32 0)).setCell ⟨g1, 7, none⟩ (.slice none 0 0)) = wf at hc8 hgf ⊢
    obtain ⟨⟨c0, c1, c2, c3, c4, c5, c6, c7⟩, -⟩ := hc8.eight
    exact bodyPost_ret (v := .tuple #[.agg #[.int .i64 0, .int .i64 0, .int .i64 0, .int .i64 0, .bool false, .int .u32 0, .int .u32 0, .slice none 0 0], .bool false]) (by simp [results, Tryz.results36, go_sem, c0, c1, c2, c3, c4, c5, c6, c7]) rfl ⟨rfl, hgf⟩
  · have hc : w3.cell? ⟨g2, 13, none⟩ = some (.int .u8 2) := by
      obtain ⟨b, off, e, -, hc⟩ := ho.rb.at' (i := 13) (by omega)
      cases e
      rw [h13] at hc
      exact hc
    have e2 : ((h.proto : Int) == 1) = false := by rw [hp]; rfl
    have e3 : ((h.proto : Int) == 6) = true := by rw [hp]; rfl
    rw [← HM.out] at h20
    have e4 : decide ((14 : Int) ≤ (M : Int)) = true := by rw [decide_eq_true_eq]; omega
    have e5 : (bits .and .u8 2 4 != 0) = false := by decide
    have e6 : 13 < M := by omega
    clear h20
    clear ho hp h13
    go_wp2_with fail
    refine (HU.out _).mono ?_
    rintro e w4 ⟨rfl, hg⟩
    replace hR := hR.gr hg
    replace hG := hG.step hg
    clear hg x0 x1 x2 x3 x4 x5 x6 x7
    obtain ⟨⟨y0, y1, y2, y3, y4, y5, y6, y7⟩, v0, v1, v2, v3, v4, v5, v6, v7⟩ := hR.eight
    go_wp2_with fail
    clear y0 y1 y2 y3 y4 y5 y6 y7 v0 v1 v2 v3 v4 v5 v6 v7
    have hc8 := hR.fill8 (.int .i64 0) (.int .i64 0) (.int .i64 0) (.int .i64 0) (.bool false) (.int .u32 0) (.int .u32 0) (.slice none 0 0)
    have hgf := gr_fill8 hG hgz (.int .i64 0) (.int .i64 0) (.int .i64 0) (.int .i64 0) (.bool false) (.int .u32 0) (.int .u32 0) (.slice none 0 0)
    generalize ((((((((w4.setCell ⟨g1, 0, none⟩ (.int .i64 0)).setCell ⟨g1, 1, none⟩ (.int .i64 0)).setCell ⟨g1, 2, none⟩ (.int .i64 0)).setCell ⟨g1, 3, none⟩ (.int .i64 0)).setCell ⟨g1, 4, none⟩ (.bool false)).setCell ⟨g1, 5, none⟩ (.int .u32 0)).setCell ⟨g1, 6, none⟩ (.int .u32 0)).setCell ⟨g1, 7, none⟩ (.slice none 0 0)) = wf at hc8 hgf ⊢
    obtain ⟨⟨c0, c1, c2, c3, c4, c5, c6, c7⟩, -⟩ := hc8.eight
    exact bodyPost_ret (v := .tuple #[.agg #[.int .i64 0, .int .i64 0, .int .i64 0, .int .i64 0, .bool false, .int .u32 0, .int .u32 0, .slice none 0 0], .bool false]) (by simp [results, Tryz.results36, go_sem, c0, c1, c2, c3, c4, c5, c6, c7]) rfl ⟨rfl, hgf⟩
end Go.Proofs.YtkpejaiigopmgaaGreatDoor
