/- Answers as lists of bytes. -/
import Derived.Test.YtkpejaiigopmgaaDoorGF
import Derived.Test.YtkpejaiigopmgaaDoorGE
import Derived.Test.YtkpejaiigopmgaaDoorYs
namespace Go.Proofs.YtkpejaiigopmgaaDoor
open Go Go.RowKit Go.Sort
set_option maxRecDepth 100000
set_option linter.unusedVariables false
/-- an address from which packets are answered -/
def usb (a : Nat) : Prop := knd ((a : Int) / 16777216) ((a : Int) / 65536 % 256) = 0 ∨ knd ((a : Int) / 16777216) ((a : Int) / 65536 % 256) = 3
theorem gN_byte {l : List Nat} {i : Nat} (h : i < l.length) : gN l i 1 = l.getD i 0 := by
  unfold gN
  rw [List.drop_eq_getElem_cons h, List.take_succ_cons, List.take_zero, List.getD_eq_getElem?_getD, List.getElem?_eq_getElem h]
  simp [bnum]
theorem gN_take (l : List Nat) {n i k : Nat} (h : i + k ≤ n) : gN (l.take n) i k = gN l i k := by
  unfold gN
  rw [List.drop_take, List.take_take, Nat.min_eq_left (by omega)]
theorem gN_enc (h : Hd) (d : List Nat) (i k : Nat) : gN (enc h d) (20 + i) k = gN d i k := by
  unfold gN
  rw [show (enc h d).drop (20 + i) = d.drop i by rw [← List.drop_drop, enc_drop]]
/-- the header of an answer -/
def ans (proto id ttl src dst : Nat) : Hd := ⟨0, id, ttl, proto, false, src, dst⟩
theorem ans_ok {proto id ttl src dst : Nat} (hp : proto ≤ 255) (hi : id ≤ 65535) (ht : ttl ≤ 255) (hs : src < 4294967296) (hd : dst < 4294967296) : (ans proto id ttl src dst).ok :=
  ⟨by show 0 ≤ 255; omega, hi, ht, hp, hs, hd⟩
def Pr.qt (p : Pr) : List Nat := p.pk.take 28
theorem Pr.qt_len {p : Pr} (k : p.ok) : p.qt.length = 28 := by have := (Pr.pk_len k).1; unfold Pr.qt; rw [List.length_take]; omega
theorem Pr.qt_eq {p : Pr} (k : p.ok) : p.qt = hbytes p.hd (20 + p.data.length) ++ p.data.take 8 := by
  unfold Pr.qt Pr.pk enc
  rw [List.take_append, hbytes_len, List.take_of_length_le (by rw [hbytes_len]; omega)]
theorem Pr.qt_pk {p : Pr} (k : p.ok) : pkE p.qt = 0 ∧ hdAt p.qt = p.hd ∧ gN p.qt 2 2 = 20 + p.data.length := by
  have h2 := (Pr.data_at k).2.1
  rw [Pr.qt_eq k]
  exact ⟨pkE_bytes (Pr.hd_ok k) (by omega) (by omega) _, hdAt_bytes (Pr.hd_ok k) (by omega) _⟩
theorem Pr.qt_at {p : Pr} (k : p.ok) : gN p.qt 20 2 = p.a ∧ gN p.qt 22 2 = p.b := by
  obtain ⟨-, -, ha, hb⟩ := Pr.data_at k
  unfold Pr.qt
  rw [gN_take _ (by omega), gN_take _ (by omega)]
  unfold Pr.pk
  rw [show 22 = 20 + 2 from rfl, show gN (enc p.hd p.data) 20 2 = gN p.data 0 2 from gN_enc _ _ 0 2, gN_enc]
  exact ⟨ha, hb⟩
theorem Pr.qt_lt {p : Pr} (k : p.ok) : ∀ x ∈ p.qt, x < 256 := by
  intro x hx
  rw [Pr.qt_eq k, List.mem_append] at hx
  rcases hx with hx | hx
  · exact hbytes_lt (Pr.hd_ok k) _ _ hx
  · exact Pr.pk_lt k _ (List.mem_of_mem_take hx)
theorem Pr.data_8 {p : Pr} (k : p.ok) (h : p.proto = 1) : p.data.getD 0 0 = 8 := by
  have e := (Pr.data_at k).1
  rw [← gN_byte (by omega), Pr.data_icmp h]
  exact (echo_dc false (by decide) (by have := k.tag; omega) (by rw [bput_len]; omega)).2.1
theorem Pr.data_13 {p : Pr} (k : p.ok) (h : p.proto = 6) : p.data.length = 20 ∧ p.data.getD 13 0 = 2 := by
  have hf := k.flow
  have ht := k.tag
  have e : p.data.length = 20 := by rw [Pr.data_tcp h]; exact (tc_at _ _ hf ht).1
  refine ⟨e, ?_⟩
  rw [← gN_byte (by omega), Pr.data_tcp h]
  exact (tcp_dc (by omega) (by decide) (by omega) (by decide) (by decide) (by decide) (by simp)).2.2.2.2.2.1
/-- an error about a probe -/
def errL (p : Pr) (frm t c id ttl : Nat) : List Nat := enc (ans 1 id ttl frm p.src) (noteL t c p.qt)
/-- the data of the echo reply to a probe -/
def erD (t f : Nat) : List Nat := echoL true 21075 t (bput (icN t f) 2)
def echL (p : Pr) (frm id ttl : Nat) : List Nat := enc (ans 1 id ttl frm p.src) (erD p.tag p.flow)
/-- the data of the reset to a probe -/
def rsD (p : Pr) (frm : Nat) : List Nat := tcpL frm p.src 80 (20000 + p.flow) 0 (p.tag + 1) 20 0 []
def rstL (p : Pr) (frm id ttl : Nat) : List Nat := enc (ans 6 id ttl frm p.src) (rsD p frm)
/-- what a host answers to a probe -/
def hostL (p : Pr) (frm id ttl : Nat) : List Nat := if p.proto = 1 then echL p frm id ttl else if p.proto = 17 then errL p frm 3 3 id ttl else rstL p frm id ttl
theorem hostL_icmp {p : Pr} {frm id ttl : Nat} (h : p.proto = 1) : hostL p frm id ttl = echL p frm id ttl := if_pos h
theorem hostL_udp {p : Pr} {frm id ttl : Nat} (h : p.proto = 17) : hostL p frm id ttl = errL p frm 3 3 id ttl := by unfold hostL; rw [if_neg (by omega), if_pos h]
theorem hostL_tcp {p : Pr} {frm id ttl : Nat} (h : p.proto = 6) : hostL p frm id ttl = rstL p frm id ttl := by unfold hostL; rw [if_neg (by omega), if_neg (by omega)]
theorem er_len (t f : Nat) : (erD t f).length = 10 := by unfold erD; rw [echo_len, bput_len]
theorem rs_len (p : Pr) (frm : Nat) : (rsD p frm).length = 20 := by unfold rsD; rw [tcp_len]; rfl
theorem nt_len {p : Pr} (k : p.ok) (t c : Nat) : (noteL t c p.qt).length = 36 := by rw [note_len, Pr.qt_len k]
/-- the checksum of the echo reply -/
theorem er_sum {t f : Nat} (ht : t ≤ 65535) (hf : f ≤ 1023) : gN (erD t f) 2 2 = 18432 + f := by
  have hn := icN_le t f
  have e0 := ic_sum ht hf
  have e1 := icZ_sum ht hn
  obtain ⟨z, hz⟩ : ∃ z, z = echoA true ++ bput 0 2 ++ echoZ 21075 t (bput (icN t f) 2) := ⟨_, rfl⟩
  have e2 : wsum false z + 2048 = 23123 + t + icN t f := by
    rw [← e1, hz]
    unfold icZ
    rw [List.append_assoc, List.append_assoc, wsum_even (by simp [echoA, bput_len]), wsum_even (l := echoA false) (by simp [echoA, bput_len])]
    have h1 : wsum false (echoA true) = 0 := rfl
    have h2 : wsum false (echoA false) = 2048 := rfl
    omega
  have e3 : s0 z = 18432 + f := by
    unfold s0 at e0 ⊢
    rw [e1] at e0
    unfold oc at e0 ⊢
    split at e0 <;> split <;> omega
  have e : erD t f = echoA true ++ (bput (s0 z) 2 ++ echoZ 21075 t (bput (icN t f) 2)) := by
    show msg s0 (echoA true) (echoZ 21075 t (bput (icN t f) 2)) = _
    unfold msg
    rw [← hz, List.append_assoc]
  rw [← e3]
  exact gN_of e (by simp [echoA, bput_len]) (by have := s0_le z; show _ < 65536; omega)
theorem er_dc {t f : Nat} (ht : t ≤ 65534) : dcNote (erD t f) ≠ 0 ∧ dcEcho (erD t f) = 0 ∧ gN (erD t f) 0 1 = 0 ∧ gN (erD t f) 4 2 = 21075 ∧ gN (erD t f) 6 2 = t ∧ (erD t f).drop 8 = bput (icN t f) 2 ∧ (erD t f).getD 0 0 = 0 := by
  have h := echo_dc true (a := 21075) (b := t) (d := bput (icN t f) 2) (by decide) (by omega) (by rw [bput_len]; omega)
  refine ⟨?_, h.1, h.2.1, h.2.2.1, h.2.2.2.1, h.2.2.2.2, ?_⟩
  · unfold dcNote; rw [if_pos (by rw [er_len]; omega)]; omega
  · rw [← gN_byte (by rw [er_len]; omega)]; exact h.2.1
theorem rs_dc {p : Pr} (k : p.ok) (frm : Nat) : dcNote (rsD p frm) ≠ 0 ∧ dcEcho (rsD p frm) ≠ 0 ∧ dcTCP frm p.src (rsD p frm) = 0 ∧ gN (rsD p frm) 0 2 = 80 ∧ gN (rsD p frm) 2 2 = 20000 + p.flow ∧ gN (rsD p frm) 4 4 = 0 ∧ gN (rsD p frm) 8 4 = p.tag + 1 ∧ gN (rsD p frm) 13 1 = 20 ∧ gN (rsD p frm) 14 2 = 0 ∧ (rsD p frm).drop 20 = [] ∧ (rsD p frm).getD 13 0 = 20 := by
  have hf := k.flow
  have ht := k.tag
  have h := tcp_dc (src := frm) (dst := p.src) (sp := 80) (dp := 20000 + p.flow) (sq := 0) (ak := p.tag + 1) (fl := 20) (wi := 0) (d := []) (by decide) (by omega) (by decide) (by omega) (by decide) (by decide) (by simp)
  refine ⟨?_, ?_, h.1, h.2.1, h.2.2.1, h.2.2.2.1, h.2.2.2.2.1, h.2.2.2.2.2.1, h.2.2.2.2.2.2.1, h.2.2.2.2.2.2.2, ?_⟩
  · unfold dcNote; rw [if_pos (by rw [rs_len]; omega)]; omega
  · have h1 : gN (rsD p frm) 1 1 = 80 := by
      refine gN_of (a := [0]) (n := 80) (k := 1) (z := (rsD p frm).drop 2) ?_ rfl (by decide)
      unfold rsD tcpL msg tcpA
      rfl
    unfold dcEcho
    rw [if_neg (by rw [rs_len]; omega), if_pos (.inr (by rw [h1]; decide))]; decide
  · rw [← gN_byte (by rw [rs_len]; omega)]; exact h.2.2.2.2.2.1
theorem nt_dc {p : Pr} (k : p.ok) {t c : Nat} (ht : t = 3 ∨ t = 11) (hc : c < 256) : dcNote (noteL t c p.qt) = 0 ∧ gN (noteL t c p.qt) 0 1 = t ∧ gN (noteL t c p.qt) 1 1 = c ∧ (noteL t c p.qt).drop 8 = p.qt ∧ (noteL t c p.qt).getD 0 0 = t := by
  have hq := Pr.qt_len k
  have h := note_dc (d := p.qt) ht hc (by omega) (by omega)
  refine ⟨h.1, h.2.1, h.2.2.1, h.2.2.2, ?_⟩
  rw [← gN_byte (by rw [note_len]; omega)]; exact h.2.1
/-- a header and data behind an answer -/
theorem ans_dc {proto id ttl src dst : Nat} {d : List Nat} (h : (ans proto id ttl src dst).ok) (hd : d.length ≤ 1480) : dcE (enc (ans proto id ttl src dst) d) = 0 ∧ hdAt (enc (ans proto id ttl src dst) d) = ans proto id ttl src dst ∧ (enc (ans proto id ttl src dst) d).drop 20 = d :=
  ⟨(enc_dc h hd).1, (enc_dc h hd).2, enc_drop _ _⟩
end Go.Proofs.YtkpejaiigopmgaaDoor
