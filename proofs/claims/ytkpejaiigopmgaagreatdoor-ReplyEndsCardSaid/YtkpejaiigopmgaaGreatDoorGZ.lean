/- Several texts in one. -/
import Derived.Test.YtkpejaiigopmgaaGreatDoorYrM
import Derived.Test.YtkpejaiigopmgaaGreatDoorGT
import Derived.Test.YtkpejaiigopmgaaGreatDoorGK
import Derived.Test.YtkpejaiigopmgaaGreatDoorGQ
import Derived.WalkKit
import Derived.WalkSpells
import Derived.WalkLawsBesides
import Derived.WalkSmall
import Derived.Handy
import Derived.BigQuiet
import Derived.Deep.QuietTactic
import Derived.Deep.RegionHeld3
import Derived.Deep.DeepFit
import Derived.Below
import Derived.Lib.Hide
import Derived.Lib.QuietBelow
import Derived.Test.YtkpejaiigopmgaaGreatDoorZcM
/- The sanity check of the statements on answers. -/
namespace Go.Proofs.YtkpejaiigopmgaaGreatDoor
open Go Go.RowKit Go.Sort
set_option maxRecDepth 100000
set_option linter.unusedVariables false
set_option linter.unusedSimpArgs false
theorem SpTab.ex {w w' : World} {b : Nat} (h : SpTab w) (g : Ex b w w') (hb : 0 ≠ b) : SpTab w' := by
  obtain ⟨t, fr, h⟩ := h
  have hl : 0 < w.heap.size := by
    apply Decidable.byContradiction; intro hc
    rw [Array.getElem?_eq_none (by omega)] at h; cases h
  exact ⟨t, fr, by rw [g.block _ hb hl]; exact h⟩
def P0 : Pr := ⟨167772160, 167772161, 17, 0, 5, 2⟩
theorem P0_ok : P0.ok := ⟨by decide, by decide, by decide, by decide, by decide, by decide, by decide⟩
theorem P0_usb : usb P0.src := .inr (by decide)
set_option maxHeartbeats 1000000 in
theorem awake_any (w : World) (ht : SpTab w) :
    Calls Tryz.prog 5 #[] w fun e w' => e = .returned (.bool true) ∧ Gr w w' := by
  have k := P0_ok
  have hA : (ans 1 9 64 167772162 P0.src).ok := ans_ok (by decide) (by decide) (by decide) (by decide) (by decide)
  have HB := Lib.hid (fun w => rbuild_ok P0 k w)
  have HE := Lib.hid (fun (v : Value) (w' : World) (hr : Rb (fun _ => True) w' v P0.pk) (ht : SpTab w') => (show Calls Tryz.prog 10 #[v, .int .u32 167772162, .int .i64 11, .int .i64 0, .int .i64 9, .int .i64 64] w' fun e w'' => ∃ v', e = .returned (.tuple #[v', .int .i64 0]) ∧ OwB w'.heap.size w'' v' (errL P0 167772162 11 0 9 64) ∧ Gr w' w'' from
    rerr_ok (h := P0.hd) (d := P0.data) 167772162 11 0 9 64 w' (Pr.hd_ok k) hr (by have := (Pr.data_at k).2.1; omega) (by have := (Pr.data_at k).1; omega) ht P0_usb (Pr.answ k) hA (.inr rfl) (by decide)))
  have HR := Lib.hid (fun (v : Value) (w' : World) (hr : Rb (fun _ => True) w' v (errL P0 167772162 11 0 9 64)) => (show Calls Tryz.prog 12 #[v] w' fun e w'' => e = .returned (.tuple #[.agg #[.int .u32 167772160, .int .u32 167772161, .int .i64 17, .int .i64 0, .int .i64 5, .int .i64 0], .agg #[.int .u32 167772162, .int .i64 1, .int .i64 0, .int .i64 64, .int .i64 9, .int .i64 2], .int .i64 0]) ∧ Gr w' w'' from
    read_note (ans 1 9 64 167772162 P0.src) P0 11 0 w' hA k rfl rfl hr (.inr rfl) (by decide) 1 rfl))
  have hl : (errL P0 167772162 11 0 9 64).length = 56 := by unfold errL; rw [enc_len, nt_len k]
  rw [show P0.v = .agg #[.int .u32 167772160, .int .u32 167772161, .int .i64 17, .int .i64 0, .int .i64 5, .int .i64 2] from rfl] at HB
  generalize errL P0 167772162 11 0 9 64 = X at *
  clear hA k
  go_enter Tryz.func5, Tryz.ntmps5
  go_wp2_with fail
  refine (HB.out _).mono ?_
  rintro e w1 ⟨v1, rfl, ho, hg⟩
  have HE1 := Lib.hid (HE.out v1 w1 ho.rb.any (ht.gr hg))
  obtain ⟨a1, c1, rfl, -, -⟩ := ho.rb.form
  generalize P0.pk.length = N1 at *
  clear ho HB HE ht
  go_wp2_with fail
  refine HE1.out.mono ?_
  rintro e w2 ⟨v2, rfl, ho, hg2⟩
  have HR1 := Lib.hid (HR.out v2 w2 ho.rb.any)
  obtain ⟨a2, c2, rfl, -, -⟩ := ho.rb.form
  rw [hl] at HR1 ⊢
  replace hg := hg.step hg2
  clear ho HE1 HR hg2
  go_wp2_with fail
  refine HR1.out.mono ?_
  rintro e w3 ⟨rfl, hg3⟩
  replace hg := hg.step hg3
  go_wp2_with fail
  go_ret
  exact ⟨rfl, (hg.alloc _).alloc _⟩
end Go.Proofs.YtkpejaiigopmgaaGreatDoor
/- The walk of the statement on answers of hosts that are read back. -/
namespace Go.Proofs.YtkpejaiigopmgaaGreatDoor
open Go Go.RowKit Go.Sort
set_option maxRecDepth 100000
set_option linter.unusedVariables false
set_option linter.unusedSimpArgs false
theorem read_host_icmp {p : Nat → Prop} {v : Value} (P : Pr) (id left : Nat) (w : World) (k : P.ok) (hi : id ≤ 65535) (hl : left ≤ 255) (hr : Rb p w v (hostL P P.dst id left)) (hp : P.proto = 1) :
    Calls Tryz.prog 12 #[v] w fun e w' => e = .returned (.tuple #[.agg #[.int .u32 P.src, .int .u32 P.dst, .int .i64 P.proto, .int .i64 P.flow, .int .i64 P.tag, .int .i64 0], .agg #[.int .u32 P.dst, .int .i64 2, .int .i64 0, .int .i64 left, .int .i64 id, .int .i64 0], .int .i64 0]) ∧ Gr w w' := by
  rw [hostL_icmp hp] at hr
  unfold echL at hr
  rw [show ans 1 id left P.dst P.src = ans P.proto id left P.dst P.src by rw [hp]] at hr
  exact read_echo (ans P.proto id left P.dst P.src) P.tag P.flow w (ans_ok (by omega) hi hl k.dst k.src) k.tag k.flow hp hr
theorem read_host_tcp {p : Nat → Prop} {v : Value} (P : Pr) (id left : Nat) (w : World) (k : P.ok) (hi : id ≤ 65535) (hl : left ≤ 255) (hr : Rb p w v (hostL P P.dst id left)) (hp : P.proto = 6) :
    Calls Tryz.prog 12 #[v] w fun e w' => e = .returned (.tuple #[.agg #[.int .u32 P.src, .int .u32 P.dst, .int .i64 P.proto, .int .i64 P.flow, .int .i64 P.tag, .int .i64 0], .agg #[.int .u32 P.dst, .int .i64 4, .int .i64 0, .int .i64 left, .int .i64 id, .int .i64 0], .int .i64 0]) ∧ Gr w w' := by
  rw [hostL_tcp hp] at hr
  unfold rstL at hr
  rw [show ans 6 id left P.dst P.src = ans P.proto id left P.dst P.src by rw [hp]] at hr
  exact read_reset (ans P.proto id left P.dst P.src) P w (ans_ok (by omega) hi hl k.dst k.src) k hp rfl hr
theorem read_host_udp {p : Nat → Prop} {v : Value} (P : Pr) (id left : Nat) (w : World) (k : P.ok) (hi : id ≤ 65535) (hl : left ≤ 255) (hr : Rb p w v (hostL P P.dst id left)) (hp : P.proto = 17) :
    Calls Tryz.prog 12 #[v] w fun e w' => e = .returned (.tuple #[.agg #[.int .u32 P.src, .int .u32 P.dst, .int .i64 P.proto, .int .i64 P.flow, .int .i64 P.tag, .int .i64 0], .agg #[.int .u32 P.dst, .int .i64 3, .int .i64 3, .int .i64 left, .int .i64 id, .int .i64 P.ttl], .int .i64 0]) ∧ Gr w w' := by
  rw [hostL_udp hp] at hr
  exact read_note (ans 1 id left P.dst P.src) P 3 3 w (ans_ok (by decide) hi hl k.dst k.src) k rfl rfl hr (.inl rfl) (by decide) 3 rfl
end Go.Proofs.YtkpejaiigopmgaaGreatDoor
/- Answers are read, and never answered. -/
namespace Go.Proofs.YtkpejaiigopmgaaGreatDoor
open Go Go.RowKit Go.Sort
set_option maxRecDepth 100000
set_option linter.unusedVariables false
set_option linter.unusedSimpArgs false
theorem dcE_nil : dcE [] ≠ 0 := by decide
theorem IsAns.no {P : Pr} {l : List Nat} (k : P.ok) (h : IsAns P l) {p : Nat → Prop} {v : Value} (w : World) (hr : Rb p w v l) (ht : SpTab w) :
    Calls Tryz.prog 22 #[v] w fun e w' => e = .returned (.tuple #[pkZ, .bool false]) ∧ Gr w w' := by
  have herr : ∀ (frm t c id ttl : Nat), frm < 4294967296 → id ≤ 65535 → ttl ≤ 255 → (t = 3 ∨ t = 11) → c < 256 → l = errL P frm t c id ttl → Calls Tryz.prog 22 #[v] w fun e w' => e = .returned (.tuple #[pkZ, .bool false]) ∧ Gr w w' := by
    intro frm t c id ttl hf hi htl htt hc hl
    rw [hl] at hr
    exact answ_no (h := ans 1 id ttl frm P.src) w (ans_ok (by omega) hi htl hf k.src) hr (by rw [nt_len k]; omega) (by rw [nt_len k]; omega) ht (.inr (.inl ⟨rfl, by rw [(nt_dc k htt hc).2.2.2.2]; omega⟩))
  obtain ⟨frm, id, ttl, hf, hi, htl, h | ⟨t, c, htt, hc, h⟩⟩ := h
  · rcases k.proto with hp | hp | hp
    · rw [h, hostL_icmp hp] at hr
      exact answ_no (h := ans 1 id ttl P.dst P.src) w (ans_ok (by omega) hi htl k.dst k.src) hr (by rw [er_len]; omega) (by rw [er_len]; omega) ht (.inr (.inl ⟨rfl, by rw [(er_dc k.tag).2.2.2.2.2.2]; omega⟩))
    · rw [hostL_udp hp] at h
      exact herr P.dst 3 3 id ttl k.dst hi htl (.inl rfl) (by decide) h
    · rw [h, hostL_tcp hp] at hr
      exact answ_no (h := ans 6 id ttl P.dst P.src) w (ans_ok (by omega) hi htl k.dst k.src) hr (by rw [rs_len]; omega) (by rw [rs_len]; omega) ht (.inr (.inr ⟨rfl, rs_len _ _, (rs_dc k P.dst).2.2.2.2.2.2.2.2.2.2⟩))
  · exact herr frm t c id ttl hf hi htl htt hc h
theorem IsAns.read {P : Pr} {l : List Nat} (k : P.ok) (h : IsAns P l) : ∃ fr kd cd lf ii qd : Int, 0 < kd ∧ ∀ (w : World) (v : Value), Rb (fun _ => True) w v l →
    Calls Tryz.prog 12 #[v] w fun e w' => e = .returned (.tuple #[.agg #[.int .u32 P.src, .int .u32 P.dst, .int .i64 P.proto, .int .i64 P.flow, .int .i64 P.tag, .int .i64 0], .agg #[.int .u32 fr, .int .i64 kd, .int .i64 cd, .int .i64 lf, .int .i64 ii, .int .i64 qd], .int .i64 0]) ∧ Gr w w' := by
  obtain ⟨frm, id, ttl, hf, hi, htl, h | ⟨t, c, htt, hc, h⟩⟩ := h
  · rcases k.proto with hp | hp | hp
    · exact ⟨_, 2, _, _, _, _, by decide, fun w v hr => read_host_icmp P id ttl w k hi htl (by rw [← h]; exact hr) hp⟩
    · exact ⟨_, 3, _, _, _, _, by decide, fun w v hr => read_host_udp P id ttl w k hi htl (by rw [← h]; exact hr) hp⟩
    · exact ⟨_, 4, _, _, _, _, by decide, fun w v hr => read_host_tcp P id ttl w k hi htl (by rw [← h]; exact hr) hp⟩
  · exact ⟨_, ((if t = 11 then 1 else if c = 3 then 3 else 5 : Nat) : Int), _, _, _, _, by split <;> (try split) <;> decide, fun w v hr => read_note (ans 1 id ttl frm P.src) P t c w (ans_ok (by omega) hi htl hf k.src) k rfl rfl (by rw [h] at hr; exact hr) htt hc _ rfl⟩
set_option maxHeartbeats 2000000 in
theorem ends_walk (sv : Value) (len frm : Nat) (w : World) (hl : len ≤ 9223372036854775807) (hb : BytesV w.heap.size w sv len) (ht : SpTab w) (hf : frm < 4294967296) :
    Calls Tryz.prog 3 #[sv, .int .u32 frm] w fun e w' => e = .returned (.bool true) ∧ Gr w w' := by
  have HT := Lib.hid ht
  have HF := Lib.hid hf
  clear hf
  have HB := Lib.hid hb
  clear hb
  go_enter Tryz.func3, Tryz.ntmps3
  go_wp2_with fail
  refine (awake_any _ ht).mono ?_
  rintro e w1 ⟨rfl, hg⟩
  go_wp2_with fail
  refine (new_any sv len 80 _ (by omega) hl (HB.out.gr hg)).mono ?_
  rintro e w2 ⟨b, rfl, hbe, hc, hg2⟩
  have hbw : w.heap.size ≤ b := by have := Gr.size hg; omega
  have hG := hg.step hg2
  clear hbe hg2 hg HB hl
  go_wp2_with fail
  refine (right_any b _ hc).mono ?_
  rintro e w3 ⟨P, rfl, hP, hc', hx⟩
  replace hG := Ex.gr hG hbw hx
  replace hc := hc'
  clear hc' hx
  unfold Pr.v prV
  clear ht
  have HP := Lib.hid hP
  have HAn := Lib.hid (fun (w' : World) (h : Cod w.heap.size w' b) => answer_any b P w' h hP)
  unfold Pr.v prV at HAn
  have hC := CL.new w3 P.vs 29 _ rfl
  have hgn := Gr.alloc (Gr.refl w3) (.cells P.vs.toArray 29)
  unfold Pr.vs at hC hgn
  simp only [List.toArray] at hC hgn
  clear hP
  go_upto_region 5 with fail
  generalize w3.alloc (.cells #[.int .u32 P.src, .int .u32 P.dst, .int .i64 P.proto, .int .i64 P.flow, .int .i64 P.tag, .int .i64 P.ttl] 29) = w4 at hC hgn ⊢
  generalize w3.heap.size = gp at hC ⊢
  replace hG := hG.step hgn
  replace hc := hc.gr hgn
  clear hgn
  obtain ⟨⟨y0, y1, y2, y3, y4, y5⟩, -⟩ := CL.six hC
  go_wp2_with fail
  refine (HAn.out _ hc).mono ?_
  rintro e w5 ⟨v5, l, rfl, hr, -, hx, hcase⟩
  replace hG := Ex.gr hG hbw hx
  have HN := Lib.hid (fun (w' : World) (g : Gr w5 w') => (show Calls Tryz.prog 22 #[v5] w' fun e w'' => e = .returned (.tuple #[pkZ, .bool false]) ∧ Gr w' w'' from by
    rcases hcase with ⟨-, h⟩ | ⟨-, h⟩
    · rw [h] at hr
      exact answ_err w' (hr.gr g) (by simp) dcE_nil
    · exact h.no HP.out w' (hr.gr g) ((HT.out.gr hG).gr g)))
  have HH := Lib.hid (show Calls Tryz.prog 9 #[v5, .int .u32 frm, .int .i64 0, .int .i64 64] w5 fun e w' => e = .returned (.tuple #[.slice none 0 0, .int .i64 17]) ∧ Gr w5 w' from
    rhost_no frm 0 64 w5 hr HN.out (by decide) (by decide) HF.out)
  have HE := Lib.hid (fun (w' : World) (g : Gr w5 w') => (show Calls Tryz.prog 10 #[v5, .int .u32 frm, .int .i64 11, .int .i64 0, .int .i64 0, .int .i64 64] w' fun e w'' => e = .returned (.tuple #[.slice none 0 0, .int .i64 17]) ∧ Gr w' w'' from
    rerr_no frm 11 0 0 64 0 w' (hr.gr g) (fun w'' g' => HN.out w'' (g.step g')) (ans_ok (by decide) (by decide) (by decide) HF.out (by decide)) (.inr rfl) (by decide)))
  obtain ⟨a5, c5, rfl, -, -⟩ := hr.form
  generalize l.length = N5 at *
  clear hcase hr HN hx hC hc y0 y1 y2 y3 y4 y5 HAn
  go_wp2_with fail
  refine HH.out.mono ?_
  rintro e w6 ⟨rfl, hg⟩
  go_wp2_with fail
  refine (HE.out _ hg).mono ?_
  rintro e w7 ⟨rfl, hg2⟩
  go_wp2_with fail
  go_ret
  exact ⟨rfl, (hG.step hg).step hg2⟩
end Go.Proofs.YtkpejaiigopmgaaGreatDoor
