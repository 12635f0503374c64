/- What may not be answered. -/
import Derived.Test.YtkpejaiigopmgaaGreatDoorGK
import Derived.WalkKit
import Derived.WalkSpells
import Derived.WalkLawsBesides
import Derived.WalkSmall
import Derived.Handy
import Derived.BigQuiet
import Derived.Deep.QuietTactic
import Derived.Deep.RegionHeld3
import Derived.Deep.DeepFit
import Derived.Below
import Derived.Lib.Hide
import Derived.Lib.QuietBelow
namespace Go.Proofs.YtkpejaiigopmgaaGreatDoor
open Go Go.RowKit Go.Sort
set_option maxRecDepth 100000
set_option linter.unusedVariables false
set_option linter.unusedSimpArgs false
set_option maxHeartbeats 2000000 in
/-- an answer, or a packet from an address that is not answered -/
theorem answ_no {p : Nat → Prop} {v : Value} {h : Hd} {d : List Nat} (w : World) (k : h.ok) (hr : Rb p w v (enc h d)) (hl : d.length ≤ 1480) (h8 : 8 ≤ d.length) (ht : SpTab w)
    (hp : ¬ usb h.src ∨ (h.proto = 1 ∧ d.getD 0 0 ≠ 8) ∨ (h.proto = 6 ∧ d.length = 20 ∧ d.getD 13 0 = 20)) :
    Calls Tryz.prog 22 #[v] w fun e w' => e = .returned (.tuple #[pkZ, .bool false]) ∧ Gr w w' := by
  unfold usb at hp
  have hp' : (¬ (knd ((h.src : Int) / 16777216) ((h.src : Int) / 65536 % 256) = 0 ∨ knd ((h.src : Int) / 16777216) ((h.src : Int) / 65536 % 256) = 3)) ∨ ((knd ((h.src : Int) / 16777216) ((h.src : Int) / 65536 % 256) = 0 ∨ knd ((h.src : Int) / 16777216) ((h.src : Int) / 65536 % 256) = 3) ∧ ((h.proto = 1 ∧ d.getD 0 0 ≠ 8) ∨ (h.proto = 6 ∧ d.length = 20 ∧ d.getD 13 0 = 20))) := by
    by_cases hu : knd ((h.src : Int) / 16777216) ((h.src : Int) / 65536 % 256) = 0 ∨ knd ((h.src : Int) / 16777216) ((h.src : Int) / 65536 % 256) = 3
    · exact .inr ⟨hu, hp.resolve_left (fun n => n hu)⟩
    · exact .inl hu
  clear hp
  unfold pkZ
  have HD := Lib.hid (fun w' (g : Gr w w') => decode_enc k w' (hr.gr g) hl)
  have HS := Lib.hid (fun w' (g : Gr w w') => special_any (h.src : Int) w' (by omega) (by have := k.src; omega) (ht.gr g))
  obtain ⟨av, cv, rfl, -, -⟩ := hr.form
  generalize (enc h d).length = N at *
  generalize knd ((h.src : Int) / 16777216) ((h.src : Int) / 65536 % 256) = K at *
  clear hr ht k
  unfold Hd.p pkV at *
  have hR := CL.new w [.int .i64 0, .int .i64 0, .int .i64 0, .int .i64 0, .bool false, .int .u32 0, .int .u32 0, .slice none 0 0] 55 _ rfl
  have hG := Gr.alloc (Gr.refl w) (.cells #[.int .i64 0, .int .i64 0, .int .i64 0, .int .i64 0, .bool false, .int .u32 0, .int .u32 0, .slice none 0 0] 55)
  have hgz := Nat.le_refl w.heap.size
  simp only [List.toArray] at hR
  go_enter Tryz.func22, Tryz.ntmps22
  go_upto_region 1 with fail
  generalize w.alloc (.cells #[.int .i64 0, .int .i64 0, .int .i64 0, .int .i64 0, .bool false, .int .u32 0, .int .u32 0, .slice none 0 0] 55) = w1 at hR hG ⊢
  generalize hge : w.heap.size = g1 at hR ⊢
  rw [hge] at hgz
  replace hgz : w.heap.size ≤ g1 := by omega
  clear hge
  go_wp2_with fail
  refine (HD.out _ hG).mono ?_
  rintro e w2 ⟨v2, rfl, ho, hg⟩
  obtain ⟨g2, c2, rfl, hb2, -, hc2⟩ := ho.form (by omega)
  have hne : g2 ≠ g1 := by have := hR.lt; omega
  clear hb2
  replace hR := hR.gr hg
  replace ho := ho.base (Gr.size hG)
  replace hG := hG.step hg
  obtain ⟨M, hM⟩ : ∃ M, M = d.length := ⟨_, rfl⟩
  rw [← hM] at ho hc2 h8 ⊢
  have HM := Lib.hid hM
  have d1 : decide ((M : Int) < 8) = false := by rw [decide_eq_false_iff_not]; omega
  have hC := CL.new w2 [.int .i64 h.tos, .int .i64 h.id, .int .i64 h.ttl, .int .i64 h.proto, .bool h.keep, .int .u32 h.src, .int .u32 h.dst, .slice (some ⟨g2, 0, none⟩) M c2] 55 _ rfl
  have hg3 := Gr.alloc (Gr.refl w2) (.cells #[.int .i64 h.tos, .int .i64 h.id, .int .i64 h.ttl, .int .i64 h.proto, .bool h.keep, .int .u32 h.src, .int .u32 h.dst, .slice (some ⟨g2, 0, none⟩) M c2] 55)
  simp only [List.toArray] at hC
  clear hM hg hl
  go_upto_region 2 with fail
  generalize w2.alloc (.cells #[.int .i64 h.tos, .int .i64 h.id, .int .i64 h.ttl, .int .i64 h.proto, .bool h.keep, .int .u32 h.src, .int .u32 h.dst, .slice (some ⟨g2, 0, none⟩) M c2] 55) = w3 at hC hg3 ⊢
  generalize w2.heap.size = g3 at hC ⊢
  replace hR := hR.gr hg3
  replace ho := ho.gr hg3
  replace hG := hG.step hg3
  clear hg3
  obtain ⟨⟨x0, x1, x2, x3, x4, x5, x6, x7⟩, -⟩ := hC.eight
  go_wp2_with fail
  refine (HS.out _ hG).mono ?_
  rintro e w4 ⟨rfl, hg⟩
  replace hR := hR.gr hg
  replace hC := hC.gr hg
  replace ho := ho.gr hg
  replace hG := hG.step hg
  clear hg x0 x1 x2 x3 x4 x5 x6 x7 HS HD
  have HO := Lib.hid ho
  obtain ⟨⟨x0, x1, x2, x3, x4, x5, x6, x7⟩, -⟩ := hC.eight
  obtain ⟨⟨y0, y1, y2, y3, y4, y5, y6, y7⟩, v0, v1, v2, v3, v4, v5, v6, v7⟩ := hR.eight
  rcases hp' with hu | ⟨hu, ⟨hp, h0⟩ | ⟨hp, h20, h13⟩⟩
  · have e2 : (K != 0) = true := by rw [bne_iff_ne]; omega
    have e3 : (K != 3) = true := by rw [bne_iff_ne]; omega
    clear ho hu
    go_wp2_with fail
    clear x0 x1 x2 x3 x4 x5 x6 x7
    clear y0 y1 y2 y3 y4 y5 y6 y7 v0 v1 v2 v3 v4 v5 v6 v7
    have hc8 := hR.fill8 (.int .i64 0) (.int .i64 0) (.int .i64 0) (.int .i64 0) (.bool false) (.int .u32 0) (.int .u32 0) (.slice none 0 0)
    have hgf := gr_fill8 hG hgz (.int .i64 0) (.int .i64 0) (.int .i64 0) (.int .i64 0) (.bool false) (.int .u32 0) (.int .u32 0) (.slice none 0 0)
    generalize ((((((((w4.setCell ⟨g1, 0, none⟩ (.int .i64 0)).setCell ⟨g1, 1, none⟩ (.int .i64 0)).setCell ⟨g1, 2, none⟩ (.int .i64 0)).setCell ⟨g1, 3, none⟩ (.int .i64 0)).setCell ⟨g1, 4, none⟩ (.bool false)).setCell ⟨g1, 5, none⟩ (.int .u32 0)).setCell ⟨g1, 6, none⟩ (.int .u32 0)).setCell ⟨g1, 7, none⟩ (.slice none 0 0)) = wf at hc8 hgf ⊢
    obtain ⟨⟨c0, c1, c2, c3, c4, c5, c6, c7⟩, -⟩ := hc8.eight
    exact bodyPost_ret (v := .tuple #[.agg #[.int .i64 0, .int .i64 0, .int .i64 0, .int .i64 0, .bool false, .int .u32 0, .int .u32 0, .slice none 0 0], .bool false]) (by simp [results, Tryz.results22, go_sem, c0, c1, c2, c3, c4, c5, c6, c7]) rfl ⟨rfl, hgf⟩
  · have hc : w4.cell? ⟨g2, 0, none⟩ = some (.int .u8 (d.getD 0 0 : Nat)) := by
      obtain ⟨b, off, e, -, hc⟩ := ho.rb.at' (i := 0) (by rw [← HM.out]; omega)
      cases e
      exact hc
    generalize d.getD 0 0 = x at *
    have e2 : ((h.proto : Int) == 1) = true := by rw [hp]; rfl
    have e3 : ((x : Int) != 8) = true := by rw [bne_iff_ne]; omega
    clear ho hp h0
    rcases hu with rfl | rfl
    · skip
      go_wp2_with fail
      clear x0 x1 x2 x3 x4 x5 x6 x7
      clear y0 y1 y2 y3 y4 y5 y6 y7 v0 v1 v2 v3 v4 v5 v6 v7
      have hc8 := hR.fill8 (.int .i64 0) (.int .i64 0) (.int .i64 0) (.int .i64 0) (.bool false) (.int .u32 0) (.int .u32 0) (.slice none 0 0)
      have hgf := gr_fill8 hG hgz (.int .i64 0) (.int .i64 0) (.int .i64 0) (.int .i64 0) (.bool false) (.int .u32 0) (.int .u32 0) (.slice none 0 0)
      generalize ((((((((w4.setCell ⟨g1, 0, none⟩ (.int .i64 0)).setCell ⟨g1, 1, none⟩ (.int .i64 0)).setCell ⟨g1, 2, none⟩ (.int .i64 0)).setCell ⟨g1, 3, none⟩ (.int .i64 0)).setCell ⟨g1, 4, none⟩ (.bool false)).setCell ⟨g1, 5, none⟩ (.int .u32 0)).setCell ⟨g1, 6, none⟩ (.int .u32 0)).setCell ⟨g1, 7, none⟩ (.slice none 0 0)) = wf at hc8 hgf ⊢
      obtain ⟨⟨c0, c1, c2, c3, c4, c5, c6, c7⟩, -⟩ := hc8.eight
      exact bodyPost_ret (v := .tuple #[.agg #[.int .i64 0, .int .i64 0, .int .i64 0, .int .i64 0, .bool false, .int .u32 0, .int .u32 0, .slice none 0 0], .bool false]) (by simp [results, Tryz.results22, go_sem, c0, c1, c2, c3, c4, c5, c6, c7]) rfl ⟨rfl, hgf⟩
    · skip
      go_wp2_with fail
      clear x0 x1 x2 x3 x4 x5 x6 x7
      clear y0 y1 y2 y3 y4 y5 y6 y7 v0 v1 v2 v3 v4 v5 v6 v7
      have hc8 := hR.fill8 (.int .i64 0) (.int .i64 0) (.int .i64 0) (.int .i64 0) (.bool false) (.int .u32 0) (.int .u32 0) (.slice none 0 0)
      have hgf := gr_fill8 hG hgz (.int .i64 0) (.int .i64 0) (.int .i64 0) (.int .i64 0) (.bool false) (.int .u32 0) (.int .u32 0) (.slice none 0 0)
      generalize ((((((((w4.setCell ⟨g1, 0, none⟩ (.int .i64 0)).setCell ⟨g1, 1, none⟩ (.int .i64 0)).setCell ⟨g1, 2, none⟩ (.int .i64 0)).setCell ⟨g1, 3, none⟩ (.int .i64 0)).setCell ⟨g1, 4, none⟩ (.bool false)).setCell ⟨g1, 5, none⟩ (.int .u32 0)).setCell ⟨g1, 6, none⟩ (.int .u32 0)).setCell ⟨g1, 7, none⟩ (.slice none 0 0)) = wf at hc8 hgf ⊢
      obtain ⟨⟨c0, c1, c2, c3, c4, c5, c6, c7⟩, -⟩ := hc8.eight
      exact bodyPost_ret (v := .tuple #[.agg #[.int .i64 0, .int .i64 0, .int .i64 0, .int .i64 0, .bool false, .int .u32 0, .int .u32 0, .slice none 0 0], .bool false]) (by simp [results, Tryz.results22, go_sem, c0, c1, c2, c3, c4, c5, c6, c7]) rfl ⟨rfl, hgf⟩
  · have hc : w4.cell? ⟨g2, 13, none⟩ = some (.int .u8 20) := by
      obtain ⟨b, off, e, -, hc⟩ := ho.rb.at' (i := 13) (by omega)
      cases e
      rw [h13] at hc
      exact hc
    have e2 : ((h.proto : Int) == 1) = false := by rw [hp]; rfl
    have e3 : ((h.proto : Int) == 6) = true := by rw [hp]; rfl
    rw [← HM.out] at h20
    have e4 : decide ((13 : Int) < (M : Int)) = true := by rw [decide_eq_true_eq]; omega
    have e5 : (bits .and .u8 20 4 != 0) = true := by decide
    have e6 : 13 < M := by omega
    clear h20
    clear ho hp h13
    rcases hu with rfl | rfl
    · skip
      go_wp2_with fail
      clear x0 x1 x2 x3 x4 x5 x6 x7
      clear y0 y1 y2 y3 y4 y5 y6 y7 v0 v1 v2 v3 v4 v5 v6 v7
      have hc8 := hR.fill8 (.int .i64 0) (.int .i64 0) (.int .i64 0) (.int .i64 0) (.bool false) (.int .u32 0) (.int .u32 0) (.slice none 0 0)
      have hgf := gr_fill8 hG hgz (.int .i64 0) (.int .i64 0) (.int .i64 0) (.int .i64 0) (.bool false) (.int .u32 0) (.int .u32 0) (.slice none 0 0)
      generalize ((((((((w4.setCell ⟨g1, 0, none⟩ (.int .i64 0)).setCell ⟨g1, 1, none⟩ (.int .i64 0)).setCell ⟨g1, 2, none⟩ (.int .i64 0)).setCell ⟨g1, 3, none⟩ (.int .i64 0)).setCell ⟨g1, 4, none⟩ (.bool false)).setCell ⟨g1, 5, none⟩ (.int .u32 0)).setCell ⟨g1, 6, none⟩ (.int .u32 0)).setCell ⟨g1, 7, none⟩ (.slice none 0 0)) = wf at hc8 hgf ⊢
      obtain ⟨⟨c0, c1, c2, c3, c4, c5, c6, c7⟩, -⟩ := hc8.eight
      exact bodyPost_ret (v := .tuple #[.agg #[.int .i64 0, .int .i64 0, .int .i64 0, .int .i64 0, .bool false, .int .u32 0, .int .u32 0, .slice none 0 0], .bool false]) (by simp [results, Tryz.results22, go_sem, c0, c1, c2, c3, c4, c5, c6, c7]) rfl ⟨rfl, hgf⟩
    · skip
      go_wp2_with fail
      clear x0 x1 x2 x3 x4 x5 x6 x7
      clear y0 y1 y2 y3 y4 y5 y6 y7 v0 v1 v2 v3 v4 v5 v6 v7
      have hc8 := hR.fill8 (.int .i64 0) (.int .i64 0) (.int .i64 0) (.int .i64 0) (.bool false) (.int .u32 0) (.int .u32 0) (.slice none 0 0)
      have hgf := gr_fill8 hG hgz (.int .i64 0) (.int .i64 0) (.int .i64 0) (.int .i64 0) (.bool false) (.int .u32 0) (.int .u32 0) (.slice none 0 0)
      generalize ((((((((w4.setCell ⟨g1, 0, none⟩ (.int .i64 0)).setCell ⟨g1, 1, none⟩ (.int .i64 0)).setCell ⟨g1, 2, none⟩ (.int .i64 0)).setCell ⟨g1, 3, none⟩ (.int .i64 0)).setCell ⟨g1, 4, none⟩ (.bool false)).setCell ⟨g1, 5, none⟩ (.int .u32 0)).setCell ⟨g1, 6, none⟩ (.int .u32 0)).setCell ⟨g1, 7, none⟩ (.slice none 0 0)) = wf at hc8 hgf ⊢
      obtain ⟨⟨c0, c1, c2, c3, c4, c5, c6, c7⟩, -⟩ := hc8.eight
      exact bodyPost_ret (v := .tuple #[.agg #[.int .i64 0, .int .i64 0, .int .i64 0, .int .i64 0, .bool false, .int .u32 0, .int .u32 0, .slice none 0 0], .bool false]) (by simp [results, Tryz.results22, go_sem, c0, c1, c2, c3, c4, c5, c6, c7]) rfl ⟨rfl, hgf⟩
end Go.Proofs.YtkpejaiigopmgaaGreatDoor
