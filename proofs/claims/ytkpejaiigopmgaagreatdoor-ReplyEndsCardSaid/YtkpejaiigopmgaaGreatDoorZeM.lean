/- Errors as the document makes them. -/
import Derived.Test.YtkpejaiigopmgaaGreatDoorZaM
import Derived.Test.YtkpejaiigopmgaaGreatDoorYeM
import Derived.Test.YtkpejaiigopmgaaGreatDoorGQ
import Derived.WalkKit
import Derived.WalkSpells
import Derived.WalkLawsBesides
import Derived.WalkSmall
import Derived.Handy
import Derived.BigQuiet
import Derived.Deep.QuietTactic
import Derived.Deep.RegionHeld3
import Derived.Deep.DeepFit
import Derived.Below
import Derived.Lib.Hide
import Derived.Lib.QuietBelow
namespace Go.Proofs.YtkpejaiigopmgaaGreatDoor
open Go Go.RowKit Go.Sort
set_option maxRecDepth 100000
set_option linter.unusedVariables false
set_option linter.unusedSimpArgs false
theorem rpacket_ok {p : Nat → Prop} {v : Value} {d : List Nat} (proto id ttl frm dst : Nat) (w : World) (hA : (ans proto id ttl frm dst).ok) (hr : Rb p w v d) (hl : d.length ≤ 1480) :
    Calls Tryz.prog 39 #[.int .u32 frm, .int .u32 dst, .int .i64 proto, .int .i64 id, .int .i64 ttl, v] w fun e w' => ∃ v', e = .returned v' ∧ OwB w.heap.size w' v' (enc (ans proto id ttl frm dst) d) ∧ Gr w w' := by
  have HE := Lib.hid (rencode_enc (ans proto id ttl frm dst) hA w hr hl)
  generalize enc (ans proto id ttl frm dst) d = X at *
  unfold ans Hd.p pkV at HE
  simp only [show ((0 : Nat) : Int) = 0 from rfl] at HE
  obtain ⟨a, c, rfl, -, -⟩ := hr.form
  generalize d.length = N at *
  clear hr hl hA
  go_enter Tryz.func39, Tryz.ntmps39
  go_wp2_with fail
  refine HE.out.mono ?_
  rintro e w1 ⟨v1, rfl, ho, hg⟩
  go_wp2_with fail
  go_ret
  exact ⟨_, rfl, ho, hg⟩
set_option maxHeartbeats 1000000 in
theorem rrerr_ok {p : Nat → Prop} {v : Value} {h : Hd} {d : List Nat} (frm t c id ttl : Nat) (w : World) (k : h.ok) (hr : Rb p w v (enc h d)) (hl : d.length ≤ 1480) (h8 : 8 ≤ d.length) (hu : usb h.src)
    (hp : (h.proto = 1 ∧ d.getD 0 0 = 8) ∨ h.proto = 17 ∨ (h.proto = 6 ∧ d.length = 20 ∧ d.getD 13 0 = 2)) (hA : (ans 1 id ttl frm h.src).ok) (htt : t = 3 ∨ t = 11) (hcc : c < 256) :
    Calls Tryz.prog 20 #[v, .int .u32 frm, .int .i64 t, .int .i64 c, .int .i64 id, .int .i64 ttl] w fun e w' => ∃ v', e = .returned (.tuple #[v', .int .i64 0]) ∧ OwB w.heap.size w' v' (enc (ans 1 id ttl frm h.src) (noteL t c ((enc h d).take 28))) ∧ Gr w w' := by
  have AN := Lib.hid (ransw_yes w k hr hl h8 hu hp)
  have h28 : 28 ≤ (enc h d).length := by rw [enc_len]; omega
  have HR := Lib.hid hr
  obtain ⟨av, cv, rfl, hcap, hmx⟩ := hr.form
  obtain ⟨N, hN⟩ : ∃ N, N = (enc h d).length := ⟨_, rfl⟩
  have HN := Lib.hid hN.symm
  rw [← hN] at HR AN hcap h28 ⊢
  clear hr k hp hu hN
  have c0 : decide ((c : Int) < 0) = false := by rw [decide_eq_false_iff_not]; omega
  have c1 : decide ((255 : Int) < (c : Int)) = false := by rw [decide_eq_false_iff_not]; omega
  have i0 : decide ((id : Int) < 0) = false := by rw [decide_eq_false_iff_not]; omega
  have i1 : decide ((65535 : Int) < (id : Int)) = false := by have := hA.id; rw [decide_eq_false_iff_not]; unfold ans at this; simp only at this; omega
  have t0 : decide ((ttl : Int) < 0) = false := by rw [decide_eq_false_iff_not]; omega
  have t1 : decide ((255 : Int) < (ttl : Int)) = false := by have := hA.ttl; rw [decide_eq_false_iff_not]; unfold ans at this; simp only at this; omega
  have HT := Lib.hid htt
  have HCC := Lib.hid hcc
  have HA := Lib.hid hA
  clear htt hcc hA
  unfold Hd.p pkV at AN
  have hcs := HT.out
  rcases hcs with hcs | hcs
  · have b1 : ((t : Int) != 11) = true := by rw [bne_iff_ne]; omega
    have b2 : ((t : Int) != 3) = false := by rw [bne_eq_false_iff_eq]; omega
    clear hcs
    go_enter Tryz.func20, Tryz.ntmps20
    go_wp2_with fail
    refine (AN.out).mono ?_
    rintro e w3 ⟨v3, rfl, ho, hg⟩
    obtain ⟨a3, c3, rfl, -, -⟩ := ho.rb.form
    generalize d.length = M at *
    have hP := CL.new w3 [.int .i64 h.tos, .int .i64 h.id, .int .i64 h.ttl, .int .i64 h.proto, .bool h.keep, .int .u32 h.src, .int .u32 h.dst, .slice a3 M c3] 55 _ rfl
    have hg3 := Gr.alloc (Gr.refl w3) (.cells #[.int .i64 h.tos, .int .i64 h.id, .int .i64 h.ttl, .int .i64 h.proto, .bool h.keep, .int .u32 h.src, .int .u32 h.dst, .slice a3 M c3] 55)
    simp only [List.toArray] at hP
    go_upto_region 6 with fail
    generalize w3.alloc (.cells #[.int .i64 h.tos, .int .i64 h.id, .int .i64 h.ttl, .int .i64 h.proto, .bool h.keep, .int .u32 h.src, .int .u32 h.dst, .slice a3 M c3] 55) = w4 at hP hg3 ⊢
    generalize w3.heap.size = gp at hP ⊢
    have hG := hg.step hg3
    clear hg hg3 ho
    go_wp2_with fail
    refine (rnote_ok t c _ ((HR.out.gr hG).take (k := 28) (by rw [HN.out]; omega)) HT.out HCC.out (by rw [List.length_take, HN.out]; omega) (by rw [List.length_take]; omega)).mono ?_
    rintro e w6 ⟨v6, rfl, ho, hg⟩
    replace hP := hP.gr hg
    replace hG := hG.step hg
    clear hg
    have HE := Lib.hid (rpacket_ok 1 id ttl frm h.src w6 HA.out ho.rb.any (by rw [note_len, List.length_take]; omega))
    obtain ⟨a6, c6, rfl, -, -⟩ := ho.rb.form
    generalize (noteL t c ((enc h d).take 28)).length = M6 at *
    clear ho
    obtain ⟨⟨x0, x1, x2, x3, x4, x5, x6, x7⟩, -⟩ := hP.eight
    go_wp2_with fail
    refine HE.out.mono ?_
    rintro e w7 ⟨v7, rfl, ho, hg⟩
    replace ho := ho.base (Gr.size hG)
    replace hG := hG.step hg
    go_wp2_with fail
    go_ret2
    exact ⟨_, rfl, ho, hG⟩
  · have b1 : ((t : Int) != 11) = false := by rw [bne_eq_false_iff_eq]; omega
    clear hcs
    go_enter Tryz.func20, Tryz.ntmps20
    go_wp2_with fail
    refine (AN.out).mono ?_
    rintro e w3 ⟨v3, rfl, ho, hg⟩
    obtain ⟨a3, c3, rfl, -, -⟩ := ho.rb.form
    generalize d.length = M at *
    have hP := CL.new w3 [.int .i64 h.tos, .int .i64 h.id, .int .i64 h.ttl, .int .i64 h.proto, .bool h.keep, .int .u32 h.src, .int .u32 h.dst, .slice a3 M c3] 55 _ rfl
    have hg3 := Gr.alloc (Gr.refl w3) (.cells #[.int .i64 h.tos, .int .i64 h.id, .int .i64 h.ttl, .int .i64 h.proto, .bool h.keep, .int .u32 h.src, .int .u32 h.dst, .slice a3 M c3] 55)
    simp only [List.toArray] at hP
    go_upto_region 6 with fail
    generalize w3.alloc (.cells #[.int .i64 h.tos, .int .i64 h.id, .int .i64 h.ttl, .int .i64 h.proto, .bool h.keep, .int .u32 h.src, .int .u32 h.dst, .slice a3 M c3] 55) = w4 at hP hg3 ⊢
    generalize w3.heap.size = gp at hP ⊢
    have hG := hg.step hg3
    clear hg hg3 ho
    go_wp2_with fail
    refine (rnote_ok t c _ ((HR.out.gr hG).take (k := 28) (by rw [HN.out]; omega)) HT.out HCC.out (by rw [List.length_take, HN.out]; omega) (by rw [List.length_take]; omega)).mono ?_
    rintro e w6 ⟨v6, rfl, ho, hg⟩
    replace hP := hP.gr hg
    replace hG := hG.step hg
    clear hg
    have HE := Lib.hid (rpacket_ok 1 id ttl frm h.src w6 HA.out ho.rb.any (by rw [note_len, List.length_take]; omega))
    obtain ⟨a6, c6, rfl, -, -⟩ := ho.rb.form
    generalize (noteL t c ((enc h d).take 28)).length = M6 at *
    clear ho
    obtain ⟨⟨x0, x1, x2, x3, x4, x5, x6, x7⟩, -⟩ := hP.eight
    go_wp2_with fail
    refine HE.out.mono ?_
    rintro e w7 ⟨v7, rfl, ho, hg⟩
    replace ho := ho.base (Gr.size hG)
    replace hG := hG.step hg
    go_wp2_with fail
    go_ret2
    exact ⟨_, rfl, ho, hG⟩
set_option maxHeartbeats 1000000 in
theorem rrerr_no {p : Nat → Prop} {v : Value} {l : List Nat} (frm t c id ttl src : Nat) (w : World) (hr : Rb p w v l) (AN0 : Calls Tryz.prog 36 #[v] w fun e w'' => e = .returned (.tuple #[pkZ, .bool false]) ∧ Gr w w'')
    (hA : (ans 1 id ttl frm src).ok) (htt : t = 3 ∨ t = 11) (hcc : c < 256) :
    Calls Tryz.prog 20 #[v, .int .u32 frm, .int .i64 t, .int .i64 c, .int .i64 id, .int .i64 ttl] w fun e w' => e = .returned (.tuple #[.slice none 0 0, .int .i64 17]) ∧ Gr w w' := by
  have AN := Lib.hid AN0
  obtain ⟨av, cv, rfl, hcap, hmx⟩ := hr.form
  generalize l.length = N at *
  clear hr AN0
  have c0 : decide ((c : Int) < 0) = false := by rw [decide_eq_false_iff_not]; omega
  have c1 : decide ((255 : Int) < (c : Int)) = false := by rw [decide_eq_false_iff_not]; omega
  have i0 : decide ((id : Int) < 0) = false := by rw [decide_eq_false_iff_not]; omega
  have i1 : decide ((65535 : Int) < (id : Int)) = false := by have := hA.id; rw [decide_eq_false_iff_not]; unfold ans at this; simp only at this; omega
  have t0 : decide ((ttl : Int) < 0) = false := by rw [decide_eq_false_iff_not]; omega
  have t1 : decide ((255 : Int) < (ttl : Int)) = false := by have := hA.ttl; rw [decide_eq_false_iff_not]; unfold ans at this; simp only at this; omega
  have HT := Lib.hid htt
  have HCC := Lib.hid hcc
  have HA := Lib.hid hA
  clear htt hcc hA
  have hcs := HT.out
  rcases hcs with hcs | hcs
  · have b1 : ((t : Int) != 11) = true := by rw [bne_iff_ne]; omega
    have b2 : ((t : Int) != 3) = false := by rw [bne_eq_false_iff_eq]; omega
    clear hcs
    go_enter Tryz.func20, Tryz.ntmps20
    go_wp2_with fail
    refine (AN.out).mono ?_
    rintro e w3 ⟨rfl, hg⟩
    unfold pkZ pkV
    have hg3 := Gr.alloc (Gr.refl w3) (.cells #[.int .i64 0, .int .i64 0, .int .i64 0, .int .i64 0, .bool false, .int .u32 0, .int .u32 0, .slice none 0 0] 55)
    replace hg := hg.step hg3
    go_wp2_with fail
    go_ret2
    exact ⟨rfl, hg⟩
  · have b1 : ((t : Int) != 11) = false := by rw [bne_eq_false_iff_eq]; omega
    clear hcs
    go_enter Tryz.func20, Tryz.ntmps20
    go_wp2_with fail
    refine (AN.out).mono ?_
    rintro e w3 ⟨rfl, hg⟩
    unfold pkZ pkV
    have hg3 := Gr.alloc (Gr.refl w3) (.cells #[.int .i64 0, .int .i64 0, .int .i64 0, .int .i64 0, .bool false, .int .u32 0, .int .u32 0, .slice none 0 0] 55)
    replace hg := hg.step hg3
    go_wp2_with fail
    go_ret2
    exact ⟨rfl, hg⟩
end Go.Proofs.YtkpejaiigopmgaaGreatDoor
