/- Errors about packets. -/
import Derived.Test.YtkpejaiigopmgaaGreatDoorYbM
import Derived.Test.YtkpejaiigopmgaaGreatDoorKnM
import Derived.Test.YtkpejaiigopmgaaGreatDoorGE
import Derived.WalkKit
import Derived.WalkSpells
import Derived.WalkLawsBesides
import Derived.WalkSmall
import Derived.Handy
import Derived.BigQuiet
import Derived.Deep.QuietTactic
import Derived.Deep.RegionHeld3
import Derived.Deep.DeepFit
import Derived.Below
import Derived.Lib.Hide
import Derived.Lib.QuietBelow
namespace Go.Proofs.YtkpejaiigopmgaaGreatDoor
open Go Go.RowKit Go.Sort
set_option maxRecDepth 100000
set_option linter.unusedVariables false
set_option linter.unusedSimpArgs false
theorem ans_ck {proto id ttl src dst : Nat} (h : (ans proto id ttl src dst).ok) : ckE 0 id ttl proto = 0 := ckE_yes (ckOk_of h)
set_option maxHeartbeats 1000000 in
theorem rerr_ok {p : Nat → Prop} {v : Value} {h : Hd} {d : List Nat} (frm t c id ttl : Nat) (w : World) (k : h.ok) (hr : Rb p w v (enc h d)) (hl : d.length ≤ 1480) (h8 : 8 ≤ d.length) (ht : SpTab w) (hu : usb h.src)
    (hp : (h.proto = 1 ∧ d.getD 0 0 = 8) ∨ h.proto = 17 ∨ (h.proto = 6 ∧ d.length = 20 ∧ d.getD 13 0 = 2)) (hA : (ans 1 id ttl frm h.src).ok) (htt : t = 3 ∨ t = 11) (hcc : c < 256) :
    Calls Tryz.prog 10 #[v, .int .u32 frm, .int .i64 t, .int .i64 c, .int .i64 id, .int .i64 ttl] w fun e w' => ∃ v', e = .returned (.tuple #[v', .int .i64 0]) ∧ OwB w.heap.size w' v' (enc (ans 1 id ttl frm h.src) (noteL t c ((enc h d).take 28))) ∧ Gr w w' := by
  have AN := Lib.hid (fun w' (g : Gr w w') => answ_yes w' k (hr.gr g) hl h8 (ht.gr g) hu hp)
  have h28 : 28 ≤ (enc h d).length := by rw [enc_len]; omega
  have HR := Lib.hid hr
  obtain ⟨av, cv, rfl, hcap, hmx⟩ := hr.form
  obtain ⟨N, hN⟩ : ∃ N, N = (enc h d).length := ⟨_, rfl⟩
  have HN := Lib.hid hN.symm
  rw [← hN] at HR AN hcap h28 ⊢
  clear hr ht k hp hu hN
  have hC := CL.new w [.int .i64 0, .int .i64 id, .int .i64 ttl, .int .i64 1, .bool false, .int .u32 frm, .int .u32 0] 52 _ rfl
  have hG := Gr.alloc (Gr.refl w) (.cells #[.int .i64 0, .int .i64 id, .int .i64 ttl, .int .i64 1, .bool false, .int .u32 frm, .int .u32 0] 52)
  have hgz := Nat.le_refl w.heap.size
  have HCk := Lib.hid (fun w => check_any 0 id ttl 1 false frm 0 w)
  rw [show ckE 0 id ttl 1 = 0 from ans_ck hA] at HCk
  unfold hdV at HCk
  simp only [List.toArray] at hC
  have c0 : decide ((c : Int) < 0) = false := by rw [decide_eq_false_iff_not]; omega
  have c1 : decide ((255 : Int) < (c : Int)) = false := by rw [decide_eq_false_iff_not]; omega
  have HT := Lib.hid htt
  have HCC := Lib.hid hcc
  have HA := Lib.hid hA
  clear htt hcc hA
  unfold Hd.p pkV at AN
  have hcs := HT.out
  rcases hcs with hcs | hcs
  · have b1 : ((t : Int) != 11) = true := by rw [bne_iff_ne]; omega
    have b2 : ((t : Int) != 3) = false := by rw [bne_eq_false_iff_eq]; omega
    clear hcs
    go_enter Tryz.func10, Tryz.ntmps10
    go_upto_region 2 with fail
    generalize w.alloc (.cells #[.int .i64 0, .int .i64 id, .int .i64 ttl, .int .i64 1, .bool false, .int .u32 frm, .int .u32 0] 52) = w1 at hC hG ⊢
    generalize hge : w.heap.size = gh at hC ⊢
    rw [hge] at hgz
    replace hgz : w.heap.size ≤ gh := by omega
    clear hge
    obtain ⟨⟨x0, x1, x2, x3, x4, x5, x6⟩, -⟩ := hC.seven
    go_wp2_with fail
    refine (HCk.out _).mono ?_
    rintro e w2 ⟨rfl, hg⟩
    replace hC := hC.gr hg
    replace hG := hG.step hg
    clear hg x0 x1 x2 x3 x4 x5 x6 HCk
    go_wp2_with fail
    refine (AN.out _ hG).mono ?_
    rintro e w3 ⟨v3, rfl, ho, hg⟩
    replace hC := hC.gr hg
    replace hG := hG.step hg
    clear hg
    obtain ⟨a3, c3, rfl, -, -⟩ := ho.rb.form
    generalize d.length = M at *
    have hP := CL.new w3 [.int .i64 h.tos, .int .i64 h.id, .int .i64 h.ttl, .int .i64 h.proto, .bool h.keep, .int .u32 h.src, .int .u32 h.dst, .slice a3 M c3] 55 _ rfl
    have hg3 := Gr.alloc (Gr.refl w3) (.cells #[.int .i64 h.tos, .int .i64 h.id, .int .i64 h.ttl, .int .i64 h.proto, .bool h.keep, .int .u32 h.src, .int .u32 h.dst, .slice a3 M c3] 55)
    simp only [List.toArray] at hP
    go_upto_region 7 with fail
    generalize w3.alloc (.cells #[.int .i64 h.tos, .int .i64 h.id, .int .i64 h.ttl, .int .i64 h.proto, .bool h.keep, .int .u32 h.src, .int .u32 h.dst, .slice a3 M c3] 55) = w4 at hP hg3 ⊢
    generalize w3.heap.size = gp at hP ⊢
    replace hC := hC.gr hg3
    replace hG := hG.step hg3
    clear hg3 ho
    obtain ⟨⟨x0, x1, x2, x3, x4, x5, x6, x7⟩, -⟩ := hP.eight
    obtain ⟨⟨y0, y1, y2, y3, y4, y5, y6⟩, u0, u1, u2, u3, u4, u5, u6⟩ := hC.seven
    go_upto_region 8 with fail
    clear x0 x1 x2 x3 x4 x5 x6 x7 y0 y1 y2 y3 y4 y5 y6 u0 u1 u2 u3 u4 u5 u6 hP
    replace hC := hC.set 6 (.int .u32 h.src) (by simp)
    replace hG := hG.setCell (p := ⟨gh, 6, none⟩) hgz (.int .u32 h.src)
    simp only [List.set_cons_succ, List.set_cons_zero] at hC
    generalize w4.setCell ⟨gh, 6, none⟩ (.int .u32 h.src) = w5 at hC hG ⊢
    go_wp2_with fail
    refine (note_ok t c _ ((HR.out.gr hG).take (k := 28) (by rw [HN.out]; omega)) HT.out HCC.out (by rw [List.length_take, HN.out]; omega) (by rw [List.length_take]; omega)).mono ?_
    rintro e w6 ⟨v6, rfl, ho, hg⟩
    replace hC := hC.gr hg
    replace hG := hG.step hg
    clear hg
    have HE := Lib.hid (encode_enc (ans 1 id ttl frm h.src) HA.out w6 ho.rb.any (by rw [note_len, List.length_take]; omega))
    unfold ans Hd.p pkV at HE
    simp only at HE
    obtain ⟨a6, c6, rfl, -, -⟩ := ho.rb.form
    generalize (noteL t c ((enc h d).take 28)).length = M6 at *
    clear ho
    obtain ⟨⟨y0, y1, y2, y3, y4, y5, y6⟩, -⟩ := hC.seven
    go_wp2_with fail
    refine HE.out.mono ?_
    rintro e w7 ⟨v7, rfl, ho, hg⟩
    replace ho := ho.base (Gr.size hG)
    replace hG := hG.step hg
    go_wp2_with fail
    go_ret2
    exact ⟨_, rfl, ho, hG⟩
  · have b1 : ((t : Int) != 11) = false := by rw [bne_eq_false_iff_eq]; omega
    clear hcs
    go_enter Tryz.func10, Tryz.ntmps10
    go_upto_region 2 with fail
    generalize w.alloc (.cells #[.int .i64 0, .int .i64 id, .int .i64 ttl, .int .i64 1, .bool false, .int .u32 frm, .int .u32 0] 52) = w1 at hC hG ⊢
    generalize hge : w.heap.size = gh at hC ⊢
    rw [hge] at hgz
    replace hgz : w.heap.size ≤ gh := by omega
    clear hge
    obtain ⟨⟨x0, x1, x2, x3, x4, x5, x6⟩, -⟩ := hC.seven
    go_wp2_with fail
    refine (HCk.out _).mono ?_
    rintro e w2 ⟨rfl, hg⟩
    replace hC := hC.gr hg
    replace hG := hG.step hg
    clear hg x0 x1 x2 x3 x4 x5 x6 HCk
    go_wp2_with fail
    refine (AN.out _ hG).mono ?_
    rintro e w3 ⟨v3, rfl, ho, hg⟩
    replace hC := hC.gr hg
    replace hG := hG.step hg
    clear hg
    obtain ⟨a3, c3, rfl, -, -⟩ := ho.rb.form
    generalize d.length = M at *
    have hP := CL.new w3 [.int .i64 h.tos, .int .i64 h.id, .int .i64 h.ttl, .int .i64 h.proto, .bool h.keep, .int .u32 h.src, .int .u32 h.dst, .slice a3 M c3] 55 _ rfl
    have hg3 := Gr.alloc (Gr.refl w3) (.cells #[.int .i64 h.tos, .int .i64 h.id, .int .i64 h.ttl, .int .i64 h.proto, .bool h.keep, .int .u32 h.src, .int .u32 h.dst, .slice a3 M c3] 55)
    simp only [List.toArray] at hP
    go_upto_region 7 with fail
    generalize w3.alloc (.cells #[.int .i64 h.tos, .int .i64 h.id, .int .i64 h.ttl, .int .i64 h.proto, .bool h.keep, .int .u32 h.src, .int .u32 h.dst, .slice a3 M c3] 55) = w4 at hP hg3 ⊢
    generalize w3.heap.size = gp at hP ⊢
    replace hC := hC.gr hg3
    replace hG := hG.step hg3
    clear hg3 ho
    obtain ⟨⟨x0, x1, x2, x3, x4, x5, x6, x7⟩, -⟩ := hP.eight
    obtain ⟨⟨y0, y1, y2, y3, y4, y5, y6⟩, u0, u1, u2, u3, u4, u5, u6⟩ := hC.seven
    go_upto_region 8 with fail
    clear x0 x1 x2 x3 x4 x5 x6 x7 y0 y1 y2 y3 y4 y5 y6 u0 u1 u2 u3 u4 u5 u6 hP
    replace hC := hC.set 6 (.int .u32 h.src) (by simp)
    replace hG := hG.setCell (p := ⟨gh, 6, none⟩) hgz (.int .u32 h.src)
    simp only [List.set_cons_succ, List.set_cons_zero] at hC
    generalize w4.setCell ⟨gh, 6, none⟩ (.int .u32 h.src) = w5 at hC hG ⊢
    go_wp2_with fail
    refine (note_ok t c _ ((HR.out.gr hG).take (k := 28) (by rw [HN.out]; omega)) HT.out HCC.out (by rw [List.length_take, HN.out]; omega) (by rw [List.length_take]; omega)).mono ?_
    rintro e w6 ⟨v6, rfl, ho, hg⟩
    replace hC := hC.gr hg
    replace hG := hG.step hg
    clear hg
    have HE := Lib.hid (encode_enc (ans 1 id ttl frm h.src) HA.out w6 ho.rb.any (by rw [note_len, List.length_take]; omega))
    unfold ans Hd.p pkV at HE
    simp only at HE
    obtain ⟨a6, c6, rfl, -, -⟩ := ho.rb.form
    generalize (noteL t c ((enc h d).take 28)).length = M6 at *
    clear ho
    obtain ⟨⟨y0, y1, y2, y3, y4, y5, y6⟩, -⟩ := hC.seven
    go_wp2_with fail
    refine HE.out.mono ?_
    rintro e w7 ⟨v7, rfl, ho, hg⟩
    replace ho := ho.base (Gr.size hG)
    replace hG := hG.step hg
    go_wp2_with fail
    go_ret2
    exact ⟨_, rfl, ho, hG⟩
set_option maxHeartbeats 1000000 in
theorem rerr_no {p : Nat → Prop} {v : Value} {l : List Nat} (frm t c id ttl src : Nat) (w : World) (hr : Rb p w v l) (AN0 : ∀ w', Gr w w' → Calls Tryz.prog 22 #[v] w' fun e w'' => e = .returned (.tuple #[pkZ, .bool false]) ∧ Gr w' w'')
    (hA : (ans 1 id ttl frm src).ok) (htt : t = 3 ∨ t = 11) (hcc : c < 256) :
    Calls Tryz.prog 10 #[v, .int .u32 frm, .int .i64 t, .int .i64 c, .int .i64 id, .int .i64 ttl] w fun e w' => e = .returned (.tuple #[.slice none 0 0, .int .i64 17]) ∧ Gr w w' := by
  have AN := Lib.hid AN0
  obtain ⟨av, cv, rfl, hcap, hmx⟩ := hr.form
  generalize l.length = N at *
  clear hr AN0
  have hC := CL.new w [.int .i64 0, .int .i64 id, .int .i64 ttl, .int .i64 1, .bool false, .int .u32 frm, .int .u32 0] 52 _ rfl
  have hG := Gr.alloc (Gr.refl w) (.cells #[.int .i64 0, .int .i64 id, .int .i64 ttl, .int .i64 1, .bool false, .int .u32 frm, .int .u32 0] 52)
  have hgz := Nat.le_refl w.heap.size
  have HCk := Lib.hid (fun w => check_any 0 id ttl 1 false frm 0 w)
  rw [show ckE 0 id ttl 1 = 0 from ans_ck hA] at HCk
  unfold hdV at HCk
  simp only [List.toArray] at hC
  have c0 : decide ((c : Int) < 0) = false := by rw [decide_eq_false_iff_not]; omega
  have c1 : decide ((255 : Int) < (c : Int)) = false := by rw [decide_eq_false_iff_not]; omega
  have HT := Lib.hid htt
  have HCC := Lib.hid hcc
  have HA := Lib.hid hA
  clear htt hcc hA
  have hcs := HT.out
  rcases hcs with hcs | hcs
  · have b1 : ((t : Int) != 11) = true := by rw [bne_iff_ne]; omega
    have b2 : ((t : Int) != 3) = false := by rw [bne_eq_false_iff_eq]; omega
    clear hcs
    go_enter Tryz.func10, Tryz.ntmps10
    go_upto_region 2 with fail
    generalize w.alloc (.cells #[.int .i64 0, .int .i64 id, .int .i64 ttl, .int .i64 1, .bool false, .int .u32 frm, .int .u32 0] 52) = w1 at hC hG ⊢
    generalize hge : w.heap.size = gh at hC ⊢
    rw [hge] at hgz
    replace hgz : w.heap.size ≤ gh := by omega
    clear hge
    obtain ⟨⟨x0, x1, x2, x3, x4, x5, x6⟩, -⟩ := hC.seven
    go_wp2_with fail
    refine (HCk.out _).mono ?_
    rintro e w2 ⟨rfl, hg⟩
    replace hC := hC.gr hg
    replace hG := hG.step hg
    clear hg x0 x1 x2 x3 x4 x5 x6 HCk
    go_wp2_with fail
    refine (AN.out _ hG).mono ?_
    rintro e w3 ⟨rfl, hg⟩
    unfold pkZ pkV
    have hg3 := Gr.alloc (Gr.refl w3) (.cells #[.int .i64 0, .int .i64 0, .int .i64 0, .int .i64 0, .bool false, .int .u32 0, .int .u32 0, .slice none 0 0] 55)
    replace hG := (hG.step hg).step hg3
    go_wp2_with fail
    go_ret2
    exact ⟨rfl, hG⟩
  · have b1 : ((t : Int) != 11) = false := by rw [bne_eq_false_iff_eq]; omega
    clear hcs
    go_enter Tryz.func10, Tryz.ntmps10
    go_upto_region 2 with fail
    generalize w.alloc (.cells #[.int .i64 0, .int .i64 id, .int .i64 ttl, .int .i64 1, .bool false, .int .u32 frm, .int .u32 0] 52) = w1 at hC hG ⊢
    generalize hge : w.heap.size = gh at hC ⊢
    rw [hge] at hgz
    replace hgz : w.heap.size ≤ gh := by omega
    clear hge
    obtain ⟨⟨x0, x1, x2, x3, x4, x5, x6⟩, -⟩ := hC.seven
    go_wp2_with fail
    refine (HCk.out _).mono ?_
    rintro e w2 ⟨rfl, hg⟩
    replace hC := hC.gr hg
    replace hG := hG.step hg
    clear hg x0 x1 x2 x3 x4 x5 x6 HCk
    go_wp2_with fail
    refine (AN.out _ hG).mono ?_
    rintro e w3 ⟨rfl, hg⟩
    unfold pkZ pkV
    have hg3 := Gr.alloc (Gr.refl w3) (.cells #[.int .i64 0, .int .i64 0, .int .i64 0, .int .i64 0, .bool false, .int .u32 0, .int .u32 0, .slice none 0 0] 55)
    replace hG := (hG.step hg).step hg3
    go_wp2_with fail
    go_ret2
    exact ⟨rfl, hG⟩
end Go.Proofs.YtkpejaiigopmgaaGreatDoor
