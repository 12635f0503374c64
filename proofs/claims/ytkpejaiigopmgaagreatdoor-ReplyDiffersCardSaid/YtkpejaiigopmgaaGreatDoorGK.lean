/- Several texts in one. -/
import Derived.Test.YtkpejaiigopmgaaGreatDoorGF
import Derived.Test.YtkpejaiigopmgaaGreatDoorGE
import Derived.Test.YtkpejaiigopmgaaGreatDoorYs
import Derived.Test.YtkpejaiigopmgaaGreatDoorIdM
import Derived.Test.YtkpejaiigopmgaaGreatDoorKsM
import Derived.WalkKit
import Derived.WalkSpells
import Derived.WalkLawsBesides
import Derived.WalkSmall
import Derived.Handy
import Derived.BigQuiet
import Derived.Deep.QuietTactic
import Derived.Deep.RegionHeld3
import Derived.Deep.DeepFit
import Derived.Below
import Derived.Lib.Hide
import Derived.Lib.QuietBelow
/- Answers as lists of bytes. -/
namespace Go.Proofs.YtkpejaiigopmgaaGreatDoor
open Go Go.RowKit Go.Sort
set_option maxRecDepth 100000
set_option linter.unusedVariables false
/-- an address from which packets are answered -/
def usb (a : Nat) : Prop := knd ((a : Int) / 16777216) ((a : Int) / 65536 % 256) = 0 ∨ knd ((a : Int) / 16777216) ((a : Int) / 65536 % 256) = 3
theorem gN_byte {l : List Nat} {i : Nat} (h : i < l.length) : gN l i 1 = l.getD i 0 := by
  unfold gN
  rw [List.drop_eq_getElem_cons h, List.take_succ_cons, List.take_zero, List.getD_eq_getElem?_getD, List.getElem?_eq_getElem h]
  simp [bnum]
theorem gN_take (l : List Nat) {n i k : Nat} (h : i + k ≤ n) : gN (l.take n) i k = gN l i k := by
  unfold gN
  rw [List.drop_take, List.take_take, Nat.min_eq_left (by omega)]
theorem gN_enc (h : Hd) (d : List Nat) (i k : Nat) : gN (enc h d) (20 + i) k = gN d i k := by
  unfold gN
  rw [show (enc h d).drop (20 + i) = d.drop i by rw [← List.drop_drop, enc_drop]]
/-- the header of an answer -/
def ans (proto id ttl src dst : Nat) : Hd := ⟨0, id, ttl, proto, false, src, dst⟩
theorem ans_ok {proto id ttl src dst : Nat} (hp : proto ≤ 255) (hi : id ≤ 65535) (ht : ttl ≤ 255) (hs : src < 4294967296) (hd : dst < 4294967296) : (ans proto id ttl src dst).ok :=
  ⟨by show 0 ≤ 255; omega, hi, ht, hp, hs, hd⟩
def Pr.qt (p : Pr) : List Nat := p.pk.take 28
theorem Pr.qt_len {p : Pr} (k : p.ok) : p.qt.length = 28 := by have := (Pr.pk_len k).1; unfold Pr.qt; rw [List.length_take]; omega
theorem Pr.qt_eq {p : Pr} (k : p.ok) : p.qt = hbytes p.hd (20 + p.data.length) ++ p.data.take 8 := by
  unfold Pr.qt Pr.pk enc
  rw [List.take_append, hbytes_len, List.take_of_length_le (by rw [hbytes_len]; omega)]
theorem Pr.qt_pk {p : Pr} (k : p.ok) : pkE p.qt = 0 ∧ hdAt p.qt = p.hd ∧ gN p.qt 2 2 = 20 + p.data.length := by
  have h2 := (Pr.data_at k).2.1
  rw [Pr.qt_eq k]
  exact ⟨pkE_bytes (Pr.hd_ok k) (by omega) (by omega) _, hdAt_bytes (Pr.hd_ok k) (by omega) _⟩
theorem Pr.qt_at {p : Pr} (k : p.ok) : gN p.qt 20 2 = p.a ∧ gN p.qt 22 2 = p.b := by
  obtain ⟨-, -, ha, hb⟩ := Pr.data_at k
  unfold Pr.qt
  rw [gN_take _ (by omega), gN_take _ (by omega)]
  unfold Pr.pk
  rw [show 22 = 20 + 2 from rfl, show gN (enc p.hd p.data) 20 2 = gN p.data 0 2 from gN_enc _ _ 0 2, gN_enc]
  exact ⟨ha, hb⟩
theorem Pr.qt_lt {p : Pr} (k : p.ok) : ∀ x ∈ p.qt, x < 256 := by
  intro x hx
  rw [Pr.qt_eq k, List.mem_append] at hx
  rcases hx with hx | hx
  · exact hbytes_lt (Pr.hd_ok k) _ _ hx
  · exact Pr.pk_lt k _ (List.mem_of_mem_take hx)
theorem Pr.data_8 {p : Pr} (k : p.ok) (h : p.proto = 1) : p.data.getD 0 0 = 8 := by
  have e := (Pr.data_at k).1
  rw [← gN_byte (by omega), Pr.data_icmp h]
  exact (echo_dc false (by decide) (by have := k.tag; omega) (by rw [bput_len]; omega)).2.1
theorem Pr.data_13 {p : Pr} (k : p.ok) (h : p.proto = 6) : p.data.length = 20 ∧ p.data.getD 13 0 = 2 := by
  have hf := k.flow
  have ht := k.tag
  have e : p.data.length = 20 := by rw [Pr.data_tcp h]; exact (tc_at _ _ hf ht).1
  refine ⟨e, ?_⟩
  rw [← gN_byte (by omega), Pr.data_tcp h]
  exact (tcp_dc (by omega) (by decide) (by omega) (by decide) (by decide) (by decide) (by simp)).2.2.2.2.2.1
/-- an error about a probe -/
def errL (p : Pr) (frm t c id ttl : Nat) : List Nat := enc (ans 1 id ttl frm p.src) (noteL t c p.qt)
/-- the data of the echo reply to a probe -/
def erD (t f : Nat) : List Nat := echoL true 21075 t (bput (icN t f) 2)
def echL (p : Pr) (frm id ttl : Nat) : List Nat := enc (ans 1 id ttl frm p.src) (erD p.tag p.flow)
/-- the data of the reset to a probe -/
def rsD (p : Pr) (frm : Nat) : List Nat := tcpL frm p.src 80 (20000 + p.flow) 0 (p.tag + 1) 20 0 []
def rstL (p : Pr) (frm id ttl : Nat) : List Nat := enc (ans 6 id ttl frm p.src) (rsD p frm)
/-- what a host answers to a probe -/
def hostL (p : Pr) (frm id ttl : Nat) : List Nat := if p.proto = 1 then echL p frm id ttl else if p.proto = 17 then errL p frm 3 3 id ttl else rstL p frm id ttl
theorem hostL_icmp {p : Pr} {frm id ttl : Nat} (h : p.proto = 1) : hostL p frm id ttl = echL p frm id ttl := if_pos h
theorem hostL_udp {p : Pr} {frm id ttl : Nat} (h : p.proto = 17) : hostL p frm id ttl = errL p frm 3 3 id ttl := by unfold hostL; rw [if_neg (by omega), if_pos h]
theorem hostL_tcp {p : Pr} {frm id ttl : Nat} (h : p.proto = 6) : hostL p frm id ttl = rstL p frm id ttl := by unfold hostL; rw [if_neg (by omega), if_neg (by omega)]
theorem er_len (t f : Nat) : (erD t f).length = 10 := by unfold erD; rw [echo_len, bput_len]
theorem rs_len (p : Pr) (frm : Nat) : (rsD p frm).length = 20 := by unfold rsD; rw [tcp_len]; rfl
theorem nt_len {p : Pr} (k : p.ok) (t c : Nat) : (noteL t c p.qt).length = 36 := by rw [note_len, Pr.qt_len k]
/-- the checksum of the echo reply -/
theorem er_sum {t f : Nat} (ht : t ≤ 65535) (hf : f ≤ 1023) : gN (erD t f) 2 2 = 18432 + f := by
  have hn := icN_le t f
  have e0 := ic_sum ht hf
  have e1 := icZ_sum ht hn
  obtain ⟨z, hz⟩ : ∃ z, z = echoA true ++ bput 0 2 ++ echoZ 21075 t (bput (icN t f) 2) := ⟨_, rfl⟩
  have e2 : wsum false z + 2048 = 23123 + t + icN t f := by
    rw [← e1, hz]
    unfold icZ
    rw [List.append_assoc, List.append_assoc, wsum_even (by simp [echoA, bput_len]), wsum_even (l := echoA false) (by simp [echoA, bput_len])]
    have h1 : wsum false (echoA true) = 0 := rfl
    have h2 : wsum false (echoA false) = 2048 := rfl
    omega
  have e3 : s0 z = 18432 + f := by
    unfold s0 at e0 ⊢
    rw [e1] at e0
    unfold oc at e0 ⊢
    split at e0 <;> split <;> omega
  have e : erD t f = echoA true ++ (bput (s0 z) 2 ++ echoZ 21075 t (bput (icN t f) 2)) := by
    show msg s0 (echoA true) (echoZ 21075 t (bput (icN t f) 2)) = _
    unfold msg
    rw [← hz, List.append_assoc]
  rw [← e3]
  exact gN_of e (by simp [echoA, bput_len]) (by have := s0_le z; show _ < 65536; omega)
theorem er_dc {t f : Nat} (ht : t ≤ 65534) : dcNote (erD t f) ≠ 0 ∧ dcEcho (erD t f) = 0 ∧ gN (erD t f) 0 1 = 0 ∧ gN (erD t f) 4 2 = 21075 ∧ gN (erD t f) 6 2 = t ∧ (erD t f).drop 8 = bput (icN t f) 2 ∧ (erD t f).getD 0 0 = 0 := by
  have h := echo_dc true (a := 21075) (b := t) (d := bput (icN t f) 2) (by decide) (by omega) (by rw [bput_len]; omega)
  refine ⟨?_, h.1, h.2.1, h.2.2.1, h.2.2.2.1, h.2.2.2.2, ?_⟩
  · unfold dcNote; rw [if_pos (by rw [er_len]; omega)]; omega
  · rw [← gN_byte (by rw [er_len]; omega)]; exact h.2.1
theorem rs_dc {p : Pr} (k : p.ok) (frm : Nat) : dcNote (rsD p frm) ≠ 0 ∧ dcEcho (rsD p frm) ≠ 0 ∧ dcTCP frm p.src (rsD p frm) = 0 ∧ gN (rsD p frm) 0 2 = 80 ∧ gN (rsD p frm) 2 2 = 20000 + p.flow ∧ gN (rsD p frm) 4 4 = 0 ∧ gN (rsD p frm) 8 4 = p.tag + 1 ∧ gN (rsD p frm) 13 1 = 20 ∧ gN (rsD p frm) 14 2 = 0 ∧ (rsD p frm).drop 20 = [] ∧ (rsD p frm).getD 13 0 = 20 := by
  have hf := k.flow
  have ht := k.tag
  have h := tcp_dc (src := frm) (dst := p.src) (sp := 80) (dp := 20000 + p.flow) (sq := 0) (ak := p.tag + 1) (fl := 20) (wi := 0) (d := []) (by decide) (by omega) (by decide) (by omega) (by decide) (by decide) (by simp)
  refine ⟨?_, ?_, h.1, h.2.1, h.2.2.1, h.2.2.2.1, h.2.2.2.2.1, h.2.2.2.2.2.1, h.2.2.2.2.2.2.1, h.2.2.2.2.2.2.2, ?_⟩
  · unfold dcNote; rw [if_pos (by rw [rs_len]; omega)]; omega
  · have h1 : gN (rsD p frm) 1 1 = 80 := by
      refine gN_of (a := [0]) (n := 80) (k := 1) (z := (rsD p frm).drop 2) ?_ rfl (by decide)
      unfold rsD tcpL msg tcpA
      rfl
    unfold dcEcho
    rw [if_neg (by rw [rs_len]; omega), if_pos (.inr (by rw [h1]; decide))]; decide
  · rw [← gN_byte (by rw [rs_len]; omega)]; exact h.2.2.2.2.2.1
theorem nt_dc {p : Pr} (k : p.ok) {t c : Nat} (ht : t = 3 ∨ t = 11) (hc : c < 256) : dcNote (noteL t c p.qt) = 0 ∧ gN (noteL t c p.qt) 0 1 = t ∧ gN (noteL t c p.qt) 1 1 = c ∧ (noteL t c p.qt).drop 8 = p.qt ∧ (noteL t c p.qt).getD 0 0 = t := by
  have hq := Pr.qt_len k
  have h := note_dc (d := p.qt) ht hc (by omega) (by omega)
  refine ⟨h.1, h.2.1, h.2.2.1, h.2.2.2, ?_⟩
  rw [← gN_byte (by rw [note_len]; omega)]; exact h.2.1
/-- a header and data behind an answer -/
theorem ans_dc {proto id ttl src dst : Nat} {d : List Nat} (h : (ans proto id ttl src dst).ok) (hd : d.length ≤ 1480) : dcE (enc (ans proto id ttl src dst) d) = 0 ∧ hdAt (enc (ans proto id ttl src dst) d) = ans proto id ttl src dst ∧ (enc (ans proto id ttl src dst) d).drop 20 = d :=
  ⟨(enc_dc h hd).1, (enc_dc h hd).2, enc_drop _ _⟩
end Go.Proofs.YtkpejaiigopmgaaGreatDoor
/- What may be answered. -/
namespace Go.Proofs.YtkpejaiigopmgaaGreatDoor
open Go Go.RowKit Go.Sort
set_option maxRecDepth 100000
set_option linter.unusedVariables false
set_option linter.unusedSimpArgs false
def pkZ : Value := pkV 0 0 0 0 false 0 0 (.slice none 0 0)
/-- bytes that are no packet -/
theorem answ_err {p : Nat → Prop} {v : Value} {l : List Nat} (w : World) (hr : Rb p w v l) (hl : l.length ≤ 90000) (hn : dcE l ≠ 0) :
    Calls Tryz.prog 22 #[v] w fun e w' => e = .returned (.tuple #[pkZ, .bool false]) ∧ Gr w w' := by
  have HD := Lib.hid (fun w' (g : Gr w w') => decode_err w' (hr.gr g) hl hn)
  generalize dcE l = E at *
  have d1 : ((E : Int) != 0) = true := by rw [bne_iff_ne]; omega
  obtain ⟨av, cv, rfl, -, -⟩ := hr.form
  generalize l.length = N at *
  clear hr hl hn
  unfold pkZ
  have hR := CL.new w [.int .i64 0, .int .i64 0, .int .i64 0, .int .i64 0, .bool false, .int .u32 0, .int .u32 0, .slice none 0 0] 55 _ rfl
  have hG := Gr.alloc (Gr.refl w) (.cells #[.int .i64 0, .int .i64 0, .int .i64 0, .int .i64 0, .bool false, .int .u32 0, .int .u32 0, .slice none 0 0] 55)
  have hgz := Nat.le_refl w.heap.size
  simp only [List.toArray] at hR
  go_enter Tryz.func22, Tryz.ntmps22
  go_upto_region 1 with fail
  generalize w.alloc (.cells #[.int .i64 0, .int .i64 0, .int .i64 0, .int .i64 0, .bool false, .int .u32 0, .int .u32 0, .slice none 0 0] 55) = w1 at hR hG ⊢
  generalize hge : w.heap.size = g1 at hR ⊢
  rw [hge] at hgz
  replace hgz : w.heap.size ≤ g1 := by omega
  clear hge
  go_wp2_with fail
  refine (HD.out _ hG).mono ?_
  rintro e w2 ⟨rfl, hg⟩
  unfold pkV
  replace hR := hR.gr hg
  replace hG := hG.step hg
  clear hg
  have hg3 := Gr.alloc (Gr.refl w2) (.cells #[.int .i64 0, .int .i64 0, .int .i64 0, .int .i64 0, .bool false, .int .u32 0, .int .u32 0, .slice none 0 0] 55)
  replace hR := hR.gr hg3
  replace hG := hG.step hg3
  clear hg3
  obtain ⟨⟨y0, y1, y2, y3, y4, y5, y6, y7⟩, v0, v1, v2, v3, v4, v5, v6, v7⟩ := hR.eight
  go_wp2_with fail
  generalize w2.alloc (.cells #[.int .i64 0, .int .i64 0, .int .i64 0, .int .i64 0, .bool false, .int .u32 0, .int .u32 0, .slice none 0 0] 55) = w3 at hR hG ⊢
  clear y0 y1 y2 y3 y4 y5 y6 y7 v0 v1 v2 v3 v4 v5 v6 v7
  have hc8 := hR.fill8 (.int .i64 0) (.int .i64 0) (.int .i64 0) (.int .i64 0) (.bool false) (.int .u32 0) (.int .u32 0) (.slice none 0 0)
  have hgf := gr_fill8 hG hgz (.int .i64 0) (.int .i64 0) (.int .i64 0) (.int .i64 0) (.bool false) (.int .u32 0) (.int .u32 0) (.slice none 0 0)
  generalize ((((((((w3.setCell ⟨g1, 0, none⟩ (.int .i64 0)).setCell ⟨g1, 1, none⟩ (.int .i64 0)).setCell ⟨g1, 2, none⟩ (.int .i64 0)).setCell ⟨g1, 3, none⟩ (.int .i64 0)).setCell ⟨g1, 4, none⟩ (.bool false)).setCell ⟨g1, 5, none⟩ (.int .u32 0)).setCell ⟨g1, 6, none⟩ (.int .u32 0)).setCell ⟨g1, 7, none⟩ (.slice none 0 0)) = wf at hc8 hgf ⊢
  obtain ⟨⟨c0, c1, c2, c3, c4, c5, c6, c7⟩, -⟩ := hc8.eight
  exact bodyPost_ret (v := .tuple #[.agg #[.int .i64 0, .int .i64 0, .int .i64 0, .int .i64 0, .bool false, .int .u32 0, .int .u32 0, .slice none 0 0], .bool false]) (by simp [results, Tryz.results22, go_sem, c0, c1, c2, c3, c4, c5, c6, c7]) rfl ⟨rfl, hgf⟩
set_option maxHeartbeats 2000000 in
/-- a packet that may be answered -/
theorem answ_yes {p : Nat → Prop} {v : Value} {h : Hd} {d : List Nat} (w : World) (k : h.ok) (hr : Rb p w v (enc h d)) (hl : d.length ≤ 1480) (h8 : 8 ≤ d.length) (ht : SpTab w) (hu : usb h.src)
    (hp : (h.proto = 1 ∧ d.getD 0 0 = 8) ∨ h.proto = 17 ∨ (h.proto = 6 ∧ d.length = 20 ∧ d.getD 13 0 = 2)) :
    Calls Tryz.prog 22 #[v] w fun e w' => ∃ v', e = .returned (.tuple #[h.p v', .bool true]) ∧ OwB w.heap.size w' v' d ∧ Gr w w' := by
  unfold usb at hu
  have HD := Lib.hid (fun w' (g : Gr w w') => decode_enc k w' (hr.gr g) hl)
  have HS := Lib.hid (fun w' (g : Gr w w') => special_any (h.src : Int) w' (by omega) (by have := k.src; omega) (ht.gr g))
  obtain ⟨av, cv, rfl, -, -⟩ := hr.form
  generalize (enc h d).length = N at *
  generalize knd ((h.src : Int) / 16777216) ((h.src : Int) / 65536 % 256) = K at *
  clear hr ht k
  unfold Hd.p pkV at *
  have hR := CL.new w [.int .i64 0, .int .i64 0, .int .i64 0, .int .i64 0, .bool false, .int .u32 0, .int .u32 0, .slice none 0 0] 55 _ rfl
  have hG := Gr.alloc (Gr.refl w) (.cells #[.int .i64 0, .int .i64 0, .int .i64 0, .int .i64 0, .bool false, .int .u32 0, .int .u32 0, .slice none 0 0] 55)
  have hgz := Nat.le_refl w.heap.size
  simp only [List.toArray] at hR
  go_enter Tryz.func22, Tryz.ntmps22
  go_upto_region 1 with fail
  generalize w.alloc (.cells #[.int .i64 0, .int .i64 0, .int .i64 0, .int .i64 0, .bool false, .int .u32 0, .int .u32 0, .slice none 0 0] 55) = w1 at hR hG ⊢
  generalize hge : w.heap.size = g1 at hR ⊢
  rw [hge] at hgz
  replace hgz : w.heap.size ≤ g1 := by omega
  clear hge
  go_wp2_with fail
  refine (HD.out _ hG).mono ?_
  rintro e w2 ⟨v2, rfl, ho, hg⟩
  obtain ⟨g2, c2, rfl, hb2, -, hc2⟩ := ho.form (by omega)
  have hne : g2 ≠ g1 := by have := hR.lt; omega
  clear hb2
  replace hR := hR.gr hg
  replace ho := ho.base (Gr.size hG)
  replace hG := hG.step hg
  obtain ⟨M, hM⟩ : ∃ M, M = d.length := ⟨_, rfl⟩
  rw [← hM] at ho hc2 h8 ⊢
  have HM := Lib.hid hM
  have d1 : decide ((M : Int) < 8) = false := by rw [decide_eq_false_iff_not]; omega
  have hC := CL.new w2 [.int .i64 h.tos, .int .i64 h.id, .int .i64 h.ttl, .int .i64 h.proto, .bool h.keep, .int .u32 h.src, .int .u32 h.dst, .slice (some ⟨g2, 0, none⟩) M c2] 55 _ rfl
  have hg3 := Gr.alloc (Gr.refl w2) (.cells #[.int .i64 h.tos, .int .i64 h.id, .int .i64 h.ttl, .int .i64 h.proto, .bool h.keep, .int .u32 h.src, .int .u32 h.dst, .slice (some ⟨g2, 0, none⟩) M c2] 55)
  simp only [List.toArray] at hC
  clear hM hg hl
  go_upto_region 2 with fail
  generalize w2.alloc (.cells #[.int .i64 h.tos, .int .i64 h.id, .int .i64 h.ttl, .int .i64 h.proto, .bool h.keep, .int .u32 h.src, .int .u32 h.dst, .slice (some ⟨g2, 0, none⟩) M c2] 55) = w3 at hC hg3 ⊢
  generalize w2.heap.size = g3 at hC ⊢
  replace hR := hR.gr hg3
  replace ho := ho.gr hg3
  replace hG := hG.step hg3
  clear hg3
  obtain ⟨⟨x0, x1, x2, x3, x4, x5, x6, x7⟩, -⟩ := hC.eight
  go_wp2_with fail
  refine (HS.out _ hG).mono ?_
  rintro e w4 ⟨rfl, hg⟩
  replace hR := hR.gr hg
  replace hC := hC.gr hg
  replace ho := ho.gr hg
  replace hG := hG.step hg
  clear hg x0 x1 x2 x3 x4 x5 x6 x7 HS HD
  have HO := Lib.hid ho
  obtain ⟨⟨x0, x1, x2, x3, x4, x5, x6, x7⟩, -⟩ := hC.eight
  obtain ⟨⟨y0, y1, y2, y3, y4, y5, y6, y7⟩, v0, v1, v2, v3, v4, v5, v6, v7⟩ := hR.eight
  have HNV := Lib.hid (show ∀ k, (Value.slice (some ⟨g2, 0, none⟩) M c2).ownBlock = some k → k ≠ g1 from fun k hk => by cases hk; exact hne)
  rcases hp with ⟨hp, h0⟩ | hp | ⟨hp, h20, h13⟩
  · have hc : w4.cell? ⟨g2, 0, none⟩ = some (.int .u8 8) := by
      obtain ⟨b, off, e, -, hc⟩ := ho.rb.at' (i := 0) (by rw [← HM.out]; omega)
      cases e
      rw [h0] at hc
      exact hc
    have EP := Lib.hid (show (h.proto : Int) = 1 by rw [hp]; rfl)
    have e2 : ((h.proto : Int) == 1) = true := by simpa using EP.out
    have e3 : ((h.proto : Int) == 6) = false := by rw [hp]; rfl
    clear ho hp h0
    rcases hu with rfl | rfl
    · skip
      go_wp2_with fail
      clear x0 x1 x2 x3 x4 x5 x6 x7
      have hos := ownsRow_fill8 HO.out HNV.out (.int .i64 h.tos) (.int .i64 h.id) (.int .i64 h.ttl) (.int .i64 h.proto) (.bool h.keep) (.int .u32 h.src) (.int .u32 h.dst) (.slice (some ⟨g2, 0, none⟩) M c2)
      clear y0 y1 y2 y3 y4 y5 y6 y7 v0 v1 v2 v3 v4 v5 v6 v7
      have hc8 := hR.fill8 (.int .i64 h.tos) (.int .i64 h.id) (.int .i64 h.ttl) (.int .i64 h.proto) (.bool h.keep) (.int .u32 h.src) (.int .u32 h.dst) (.slice (some ⟨g2, 0, none⟩) M c2)
      have hgf := gr_fill8 hG hgz (.int .i64 h.tos) (.int .i64 h.id) (.int .i64 h.ttl) (.int .i64 h.proto) (.bool h.keep) (.int .u32 h.src) (.int .u32 h.dst) (.slice (some ⟨g2, 0, none⟩) M c2)
      generalize ((((((((w4.setCell ⟨g1, 0, none⟩ (.int .i64 h.tos)).setCell ⟨g1, 1, none⟩ (.int .i64 h.id)).setCell ⟨g1, 2, none⟩ (.int .i64 h.ttl)).setCell ⟨g1, 3, none⟩ (.int .i64 h.proto)).setCell ⟨g1, 4, none⟩ (.bool h.keep)).setCell ⟨g1, 5, none⟩ (.int .u32 h.src)).setCell ⟨g1, 6, none⟩ (.int .u32 h.dst)).setCell ⟨g1, 7, none⟩ (.slice (some ⟨g2, 0, none⟩) M c2)) = wf at hc8 hgf hos ⊢
      obtain ⟨⟨c0, c1, c2', c3, c4, c5, c6, c7⟩, -⟩ := hc8.eight
      exact bodyPost_ret (v := .tuple #[.agg #[.int .i64 h.tos, .int .i64 h.id, .int .i64 h.ttl, .int .i64 h.proto, .bool h.keep, .int .u32 h.src, .int .u32 h.dst, .slice (some ⟨g2, 0, none⟩) M c2], .bool true]) (by simp [results, Tryz.results22, go_sem, c0, c1, c2', c3, c4, c5, c6, c7]) rfl ⟨_, rfl, hos, hgf⟩
    · skip
      go_wp2_with fail
      clear x0 x1 x2 x3 x4 x5 x6 x7
      have hos := ownsRow_fill8 HO.out HNV.out (.int .i64 h.tos) (.int .i64 h.id) (.int .i64 h.ttl) (.int .i64 h.proto) (.bool h.keep) (.int .u32 h.src) (.int .u32 h.dst) (.slice (some ⟨g2, 0, none⟩) M c2)
      clear y0 y1 y2 y3 y4 y5 y6 y7 v0 v1 v2 v3 v4 v5 v6 v7
      have hc8 := hR.fill8 (.int .i64 h.tos) (.int .i64 h.id) (.int .i64 h.ttl) (.int .i64 h.proto) (.bool h.keep) (.int .u32 h.src) (.int .u32 h.dst) (.slice (some ⟨g2, 0, none⟩) M c2)
      have hgf := gr_fill8 hG hgz (.int .i64 h.tos) (.int .i64 h.id) (.int .i64 h.ttl) (.int .i64 h.proto) (.bool h.keep) (.int .u32 h.src) (.int .u32 h.dst) (.slice (some ⟨g2, 0, none⟩) M c2)
      generalize ((((((((w4.setCell ⟨g1, 0, none⟩ (.int .i64 h.tos)).setCell ⟨g1, 1, none⟩ (.int .i64 h.id)).setCell ⟨g1, 2, none⟩ (.int .i64 h.ttl)).setCell ⟨g1, 3, none⟩ (.int .i64 h.proto)).setCell ⟨g1, 4, none⟩ (.bool h.keep)).setCell ⟨g1, 5, none⟩ (.int .u32 h.src)).setCell ⟨g1, 6, none⟩ (.int .u32 h.dst)).setCell ⟨g1, 7, none⟩ (.slice (some ⟨g2, 0, none⟩) M c2)) = wf at hc8 hgf hos ⊢
      obtain ⟨⟨c0, c1, c2', c3, c4, c5, c6, c7⟩, -⟩ := hc8.eight
      exact bodyPost_ret (v := .tuple #[.agg #[.int .i64 h.tos, .int .i64 h.id, .int .i64 h.ttl, .int .i64 h.proto, .bool h.keep, .int .u32 h.src, .int .u32 h.dst, .slice (some ⟨g2, 0, none⟩) M c2], .bool true]) (by simp [results, Tryz.results22, go_sem, c0, c1, c2', c3, c4, c5, c6, c7]) rfl ⟨_, rfl, hos, hgf⟩
  · have e2 : ((h.proto : Int) == 1) = false := by rw [hp]; rfl
    have e3 : ((h.proto : Int) == 6) = false := by rw [hp]; rfl
    clear ho hp
    rcases hu with rfl | rfl
    · skip
      go_wp2_with fail
      clear x0 x1 x2 x3 x4 x5 x6 x7
      have hos := ownsRow_fill8 HO.out HNV.out (.int .i64 h.tos) (.int .i64 h.id) (.int .i64 h.ttl) (.int .i64 h.proto) (.bool h.keep) (.int .u32 h.src) (.int .u32 h.dst) (.slice (some ⟨g2, 0, none⟩) M c2)
      clear y0 y1 y2 y3 y4 y5 y6 y7 v0 v1 v2 v3 v4 v5 v6 v7
      have hc8 := hR.fill8 (.int .i64 h.tos) (.int .i64 h.id) (.int .i64 h.ttl) (.int .i64 h.proto) (.bool h.keep) (.int .u32 h.src) (.int .u32 h.dst) (.slice (some ⟨g2, 0, none⟩) M c2)
      have hgf := gr_fill8 hG hgz (.int .i64 h.tos) (.int .i64 h.id) (.int .i64 h.ttl) (.int .i64 h.proto) (.bool h.keep) (.int .u32 h.src) (.int .u32 h.dst) (.slice (some ⟨g2, 0, none⟩) M c2)
      generalize ((((((((w4.setCell ⟨g1, 0, none⟩ (.int .i64 h.tos)).setCell ⟨g1, 1, none⟩ (.int .i64 h.id)).setCell ⟨g1, 2, none⟩ (.int .i64 h.ttl)).setCell ⟨g1, 3, none⟩ (.int .i64 h.proto)).setCell ⟨g1, 4, none⟩ (.bool h.keep)).setCell ⟨g1, 5, none⟩ (.int .u32 h.src)).setCell ⟨g1, 6, none⟩ (.int .u32 h.dst)).setCell ⟨g1, 7, none⟩ (.slice (some ⟨g2, 0, none⟩) M c2)) = wf at hc8 hgf hos ⊢
      obtain ⟨⟨c0, c1, c2', c3, c4, c5, c6, c7⟩, -⟩ := hc8.eight
      exact bodyPost_ret (v := .tuple #[.agg #[.int .i64 h.tos, .int .i64 h.id, .int .i64 h.ttl, .int .i64 h.proto, .bool h.keep, .int .u32 h.src, .int .u32 h.dst, .slice (some ⟨g2, 0, none⟩) M c2], .bool true]) (by simp [results, Tryz.results22, go_sem, c0, c1, c2', c3, c4, c5, c6, c7]) rfl ⟨_, rfl, hos, hgf⟩
    · skip
      go_wp2_with fail
      clear x0 x1 x2 x3 x4 x5 x6 x7
      have hos := ownsRow_fill8 HO.out HNV.out (.int .i64 h.tos) (.int .i64 h.id) (.int .i64 h.ttl) (.int .i64 h.proto) (.bool h.keep) (.int .u32 h.src) (.int .u32 h.dst) (.slice (some ⟨g2, 0, none⟩) M c2)
      clear y0 y1 y2 y3 y4 y5 y6 y7 v0 v1 v2 v3 v4 v5 v6 v7
      have hc8 := hR.fill8 (.int .i64 h.tos) (.int .i64 h.id) (.int .i64 h.ttl) (.int .i64 h.proto) (.bool h.keep) (.int .u32 h.src) (.int .u32 h.dst) (.slice (some ⟨g2, 0, none⟩) M c2)
      have hgf := gr_fill8 hG hgz (.int .i64 h.tos) (.int .i64 h.id) (.int .i64 h.ttl) (.int .i64 h.proto) (.bool h.keep) (.int .u32 h.src) (.int .u32 h.dst) (.slice (some ⟨g2, 0, none⟩) M c2)
      generalize ((((((((w4.setCell ⟨g1, 0, none⟩ (.int .i64 h.tos)).setCell ⟨g1, 1, none⟩ (.int .i64 h.id)).setCell ⟨g1, 2, none⟩ (.int .i64 h.ttl)).setCell ⟨g1, 3, none⟩ (.int .i64 h.proto)).setCell ⟨g1, 4, none⟩ (.bool h.keep)).setCell ⟨g1, 5, none⟩ (.int .u32 h.src)).setCell ⟨g1, 6, none⟩ (.int .u32 h.dst)).setCell ⟨g1, 7, none⟩ (.slice (some ⟨g2, 0, none⟩) M c2)) = wf at hc8 hgf hos ⊢
      obtain ⟨⟨c0, c1, c2', c3, c4, c5, c6, c7⟩, -⟩ := hc8.eight
      exact bodyPost_ret (v := .tuple #[.agg #[.int .i64 h.tos, .int .i64 h.id, .int .i64 h.ttl, .int .i64 h.proto, .bool h.keep, .int .u32 h.src, .int .u32 h.dst, .slice (some ⟨g2, 0, none⟩) M c2], .bool true]) (by simp [results, Tryz.results22, go_sem, c0, c1, c2', c3, c4, c5, c6, c7]) rfl ⟨_, rfl, hos, hgf⟩
  · have hc : w4.cell? ⟨g2, 13, none⟩ = some (.int .u8 2) := by
      obtain ⟨b, off, e, -, hc⟩ := ho.rb.at' (i := 13) (by omega)
      cases e
      rw [h13] at hc
      exact hc
    have e2 : ((h.proto : Int) == 1) = false := by rw [hp]; rfl
    have EP := Lib.hid (show (h.proto : Int) = 6 by rw [hp]; rfl)
    have e3 : ((h.proto : Int) == 6) = true := by simpa using EP.out
    rw [← HM.out] at h20
    clear ho hp h13
    have e4 : decide ((13 : Int) < (M : Int)) = true := by rw [decide_eq_true_eq]; omega
    have e5 : (bits .and .u8 2 4 != 0) = false := by decide
    have e6 : 13 < M := by omega
    clear h20
    rcases hu with rfl | rfl
    · skip
      go_wp2_with fail
      clear x0 x1 x2 x3 x4 x5 x6 x7
      have hos := ownsRow_fill8 HO.out HNV.out (.int .i64 h.tos) (.int .i64 h.id) (.int .i64 h.ttl) (.int .i64 h.proto) (.bool h.keep) (.int .u32 h.src) (.int .u32 h.dst) (.slice (some ⟨g2, 0, none⟩) M c2)
      clear y0 y1 y2 y3 y4 y5 y6 y7 v0 v1 v2 v3 v4 v5 v6 v7
      have hc8 := hR.fill8 (.int .i64 h.tos) (.int .i64 h.id) (.int .i64 h.ttl) (.int .i64 h.proto) (.bool h.keep) (.int .u32 h.src) (.int .u32 h.dst) (.slice (some ⟨g2, 0, none⟩) M c2)
      have hgf := gr_fill8 hG hgz (.int .i64 h.tos) (.int .i64 h.id) (.int .i64 h.ttl) (.int .i64 h.proto) (.bool h.keep) (.int .u32 h.src) (.int .u32 h.dst) (.slice (some ⟨g2, 0, none⟩) M c2)
      generalize ((((((((w4.setCell ⟨g1, 0, none⟩ (.int .i64 h.tos)).setCell ⟨g1, 1, none⟩ (.int .i64 h.id)).setCell ⟨g1, 2, none⟩ (.int .i64 h.ttl)).setCell ⟨g1, 3, none⟩ (.int .i64 h.proto)).setCell ⟨g1, 4, none⟩ (.bool h.keep)).setCell ⟨g1, 5, none⟩ (.int .u32 h.src)).setCell ⟨g1, 6, none⟩ (.int .u32 h.dst)).setCell ⟨g1, 7, none⟩ (.slice (some ⟨g2, 0, none⟩) M c2)) = wf at hc8 hgf hos ⊢
      obtain ⟨⟨c0, c1, c2', c3, c4, c5, c6, c7⟩, -⟩ := hc8.eight
      exact bodyPost_ret (v := .tuple #[.agg #[.int .i64 h.tos, .int .i64 h.id, .int .i64 h.ttl, .int .i64 h.proto, .bool h.keep, .int .u32 h.src, .int .u32 h.dst, .slice (some ⟨g2, 0, none⟩) M c2], .bool true]) (by simp [results, Tryz.results22, go_sem, c0, c1, c2', c3, c4, c5, c6, c7]) rfl ⟨_, rfl, hos, hgf⟩
    · skip
      go_wp2_with fail
      clear x0 x1 x2 x3 x4 x5 x6 x7
      have hos := ownsRow_fill8 HO.out HNV.out (.int .i64 h.tos) (.int .i64 h.id) (.int .i64 h.ttl) (.int .i64 h.proto) (.bool h.keep) (.int .u32 h.src) (.int .u32 h.dst) (.slice (some ⟨g2, 0, none⟩) M c2)
      clear y0 y1 y2 y3 y4 y5 y6 y7 v0 v1 v2 v3 v4 v5 v6 v7
      have hc8 := hR.fill8 (.int .i64 h.tos) (.int .i64 h.id) (.int .i64 h.ttl) (.int .i64 h.proto) (.bool h.keep) (.int .u32 h.src) (.int .u32 h.dst) (.slice (some ⟨g2, 0, none⟩) M c2)
      have hgf := gr_fill8 hG hgz (.int .i64 h.tos) (.int .i64 h.id) (.int .i64 h.ttl) (.int .i64 h.proto) (.bool h.keep) (.int .u32 h.src) (.int .u32 h.dst) (.slice (some ⟨g2, 0, none⟩) M c2)
      generalize ((((((((w4.setCell ⟨g1, 0, none⟩ (.int .i64 h.tos)).setCell ⟨g1, 1, none⟩ (.int .i64 h.id)).setCell ⟨g1, 2, none⟩ (.int .i64 h.ttl)).setCell ⟨g1, 3, none⟩ (.int .i64 h.proto)).setCell ⟨g1, 4, none⟩ (.bool h.keep)).setCell ⟨g1, 5, none⟩ (.int .u32 h.src)).setCell ⟨g1, 6, none⟩ (.int .u32 h.dst)).setCell ⟨g1, 7, none⟩ (.slice (some ⟨g2, 0, none⟩) M c2)) = wf at hc8 hgf hos ⊢
      obtain ⟨⟨c0, c1, c2', c3, c4, c5, c6, c7⟩, -⟩ := hc8.eight
      exact bodyPost_ret (v := .tuple #[.agg #[.int .i64 h.tos, .int .i64 h.id, .int .i64 h.ttl, .int .i64 h.proto, .bool h.keep, .int .u32 h.src, .int .u32 h.dst, .slice (some ⟨g2, 0, none⟩) M c2], .bool true]) (by simp [results, Tryz.results22, go_sem, c0, c1, c2', c3, c4, c5, c6, c7]) rfl ⟨_, rfl, hos, hgf⟩
end Go.Proofs.YtkpejaiigopmgaaGreatDoor
/- The document's Usable. -/
namespace Go.Proofs.YtkpejaiigopmgaaGreatDoor
open Go Go.RowKit Go.Sort
set_option maxRecDepth 100000
set_option linter.unusedVariables false
set_option linter.unusedSimpArgs false
theorem usable_any (a : Nat) (w : World) (ha : a < 4294967296) (c : Bool) (hc : c = true ↔ usb a) :
    Calls Tryz.prog 13 #[.int .u32 a] w fun e w' => e = .returned (.bool c) ∧ Gr w w' := by
  have HS := Lib.hid (fun w => rspecial_any (a : Int) w (by omega) (by omega))
  unfold usb at hc
  generalize knd ((a : Int) / 16777216) ((a : Int) / 65536 % 256) = K at *
  by_cases h0 : K = 0
  · have e0 : (K == 0) = true := by simpa using h0
    rw [show c = true from hc.2 (.inl h0)]
    clear hc h0
    go_enter Tryz.func13, Tryz.ntmps13
    go_wp2_with fail
    refine (HS.out _).mono ?_
    rintro e w1 ⟨rfl, hg⟩
    go_wp2_with fail
    go_ret
    exact ⟨rfl, hg⟩
  · have e0 : (K == 0) = false := by simpa using h0
    by_cases h3 : K = 3
    · have e3 : (K == 3) = true := by simpa using h3
      rw [show c = true from hc.2 (.inr h3)]
      clear hc h0 h3
      go_enter Tryz.func13, Tryz.ntmps13
      go_wp2_with fail
      refine (HS.out _).mono ?_
      rintro e w1 ⟨rfl, hg⟩
      go_wp2_with fail
      refine (HS.out _).mono ?_
      rintro e w2 ⟨rfl, hg2⟩
      go_wp2_with fail
      go_ret
      exact ⟨rfl, hg.step hg2⟩
    · have e3 : (K == 3) = false := by simpa using h3
      rw [show c = false from Bool.eq_false_iff.2 (fun h => (hc.1 h).elim h0 h3)]
      clear hc h0 h3
      go_enter Tryz.func13, Tryz.ntmps13
      go_wp2_with fail
      refine (HS.out _).mono ?_
      rintro e w1 ⟨rfl, hg⟩
      go_wp2_with fail
      refine (HS.out _).mono ?_
      rintro e w2 ⟨rfl, hg2⟩
      go_wp2_with fail
      go_ret
      exact ⟨rfl, hg.step hg2⟩
end Go.Proofs.YtkpejaiigopmgaaGreatDoor
