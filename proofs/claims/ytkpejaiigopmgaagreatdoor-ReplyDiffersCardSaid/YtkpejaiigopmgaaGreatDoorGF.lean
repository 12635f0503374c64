/- Several texts in one. -/
import Derived.Test.YtkpejaiigopmgaaGreatDoorIdM
import Derived.WalkKit
import Derived.WalkSpells
import Derived.WalkLawsBesides
import Derived.WalkSmall
import Derived.Handy
import Derived.BigQuiet
import Derived.Deep.QuietTactic
import Derived.Deep.RegionHeld3
import Derived.Deep.DeepFit
import Derived.Below
import Derived.Lib.Hide
import Derived.Lib.QuietBelow
import Derived.Test.YtkpejaiigopmgaaGreatDoorGE
/- The package ipv4: Lower. -/
namespace Go.Proofs.YtkpejaiigopmgaaGreatDoor
open Go Go.RowKit Go.Sort
set_option maxRecDepth 100000
set_option linter.unusedVariables false
/-- what Lower answers -/
def lwE (l : List Nat) : Nat := if dcE l ≠ 0 then dcE l else if (hdAt l).ttl < 2 then 7 else 0
theorem lwE_bad {l : List Nat} (h : dcE l ≠ 0) : lwE l = dcE l := if_pos h
theorem lwE_state {l : List Nat} (h : dcE l = 0) (h2 : (hdAt l).ttl < 2) : lwE l = 7 := (if_neg (fun k => k h)).trans (if_pos h2)
theorem lwE_ok {l : List Nat} (h : dcE l = 0) (h2 : ¬ (hdAt l).ttl < 2) : lwE l = 0 := (if_neg (fun k => k h)).trans (if_neg h2)
theorem pkE_le (l : List Nat) : pkE l ≤ 4 := by unfold pkE; split <;> (try split) <;> (try split) <;> omega
theorem dcE_le (l : List Nat) : dcE l ≤ 5 := by have := pkE_le l; unfold dcE; split <;> (try split) <;> (try split) <;> omega
theorem dcE_facts {l : List Nat} (hn : dcE l = 0) : pkE l = 0 ∧ gN l 2 2 = l.length ∧ 20 ≤ l.length ∧ l.length ≤ 1500 := by
  have h0 : pkE l = 0 := by
    by_cases h : pkE l = 0
    · exact h
    · rw [dcE_bad h] at hn; exact hn
  have h2 : gN l 2 2 = l.length := by
    by_cases h : gN l 2 2 = l.length
    · exact h
    · rw [dcE_form h0 h] at hn; omega
  have h3 : ¬ 1500 < gN l 2 2 := by
    intro h
    rw [dcE_limit h0 h2 h] at hn; omega
  exact ⟨h0, h2, pkE_len h0, by omega⟩
end Go.Proofs.YtkpejaiigopmgaaGreatDoor
/- The package ipv4 on encodings; the sanity check. -/
namespace Go.Proofs.YtkpejaiigopmgaaGreatDoor
open Go Go.RowKit Go.Sort
set_option maxRecDepth 100000
set_option linter.unusedVariables false
/-- the bytes of a packet -/
def enc (h : Hd) (d : List Nat) : List Nat := hbytes h (20 + d.length) ++ d
theorem enc_len (h : Hd) (d : List Nat) : (enc h d).length = 20 + d.length := by unfold enc; rw [List.length_append, hbytes_len]
theorem enc_drop (h : Hd) (d : List Nat) : (enc h d).drop 20 = d := by
  unfold enc
  rw [List.drop_append_of_le_length (by rw [hbytes_len]; exact Nat.le_refl _), List.drop_of_length_le (by rw [hbytes_len]; exact Nat.le_refl _)]; rfl
theorem enc_hd {h : Hd} (k : h.ok) {d : List Nat} (hd : d.length ≤ 1480) (m : List Nat) : hdAt (enc h d ++ m) = h ∧ gN (enc h d ++ m) 2 2 = 20 + d.length := by
  unfold enc
  rw [List.append_assoc]
  exact hdAt_bytes k (by omega) _
theorem enc_pk {h : Hd} (k : h.ok) {d : List Nat} (hd : d.length ≤ 1480) (m : List Nat) : pkE (enc h d ++ m) = 0 := by
  unfold enc
  rw [List.append_assoc]
  exact pkE_bytes k (by omega) (by omega) _
theorem enc_dc {h : Hd} (k : h.ok) {d : List Nat} (hd : d.length ≤ 1480) : dcE (enc h d) = 0 ∧ hdAt (enc h d) = h := by
  have h1 := enc_pk k hd []
  have h2 := enc_hd k hd []
  rw [List.append_nil] at h1 h2
  exact ⟨dcE_ok h1 (by rw [h2.2, enc_len]) (by rw [h2.2]; omega), h2.1⟩
theorem encode_enc {p : Nat → Prop} {v : Value} {d : List Nat} (h : Hd) (k : h.ok) (w : World) (hr : Rb p w v d) (hl : d.length ≤ 1480) :
    Calls Tryz.prog 27 #[h.p v] w fun e w' => ∃ v', e = .returned (.tuple #[v', .int .i64 0]) ∧ OwB w.heap.size w' v' (enc h d) ∧ Gr w w' := encode_ok h k w hr hl
theorem decode_enc {p : Nat → Prop} {v : Value} {h : Hd} {d : List Nat} (k : h.ok) (w : World) (hr : Rb p w v (enc h d)) (hl : d.length ≤ 1480) :
    Calls Tryz.prog 28 #[v] w fun e w' => ∃ v', e = .returned (.tuple #[h.p v', .int .i64 0]) ∧ OwB w.heap.size w' v' d ∧ Gr w w' := by
  have := decode_ok w hr (by rw [enc_len]; omega) (enc_dc k hl).1
  rw [(enc_dc k hl).2, enc_drop] at this
  exact this
theorem peek_enc {p : Nat → Prop} {v : Value} {h : Hd} {d m : List Nat} (k : h.ok) (w : World) (hr : Rb p w v (enc h d ++ m)) (hl : d.length ≤ 1480) (hm : m.length ≤ 2000) :
    Calls Tryz.prog 61 #[v] w fun e w' => e = .returned (.tuple #[h.v, .int .i64 (20 + d.length : Nat), .int .i64 0]) ∧ Gr w w' := by
  have := peek_any w hr (by rw [List.length_append, enc_len]; omega)
  obtain ⟨pe1, pe2⟩ := pk_ok (enc_pk k hl m)
  rw [pe1, pe2, enc_pk k hl m, (enc_hd k hl m).1, (enc_hd k hl m).2] at this
  exact this
end Go.Proofs.YtkpejaiigopmgaaGreatDoor
/- Probes as lists of bytes: the data that balances a checksum, packets, keys. -/
namespace Go.Proofs.YtkpejaiigopmgaaGreatDoor
open Go
set_option maxRecDepth 100000
set_option linter.unusedVariables false
set_option linter.unusedSimpArgs false
/-- a probe -/
structure Pr where
  src : Nat
  dst : Nat
  proto : Nat
  flow : Nat
  tag : Nat
  ttl : Nat
structure Pr.ok (p : Pr) : Prop where
  src : p.src < 4294967296
  dst : p.dst < 4294967296
  proto : p.proto = 1 ∨ p.proto = 17 ∨ p.proto = 6
  flow : p.flow ≤ 1023
  tag : p.tag ≤ 65534
  t0 : 1 ≤ p.ttl
  t1 : p.ttl ≤ 255
def Pr.hd (p : Pr) : Hd := ⟨0, p.tag, p.ttl, p.proto, true, p.src, p.dst⟩
theorem Pr.hd_ok {p : Pr} (k : p.ok) : p.hd.ok :=
  ⟨Nat.zero_le _, by have := k.tag; show p.tag ≤ 65535; omega, k.t1, by have := k.proto; show p.proto ≤ 255; omega, k.src, k.dst⟩
/-- the data that balances a sum -/
def bal (s want : Nat) : Nat := oc (s + (65535 - want))
theorem bal_le (s want : Nat) : bal s want ≤ 65535 := oc_le _
theorem bal_ok {W want : Nat} (hW : 0 < W) (h : want ≤ 65535) (s : Nat) (hs : s % 65535 = (65535 - oc W) % 65535) : (65535 - oc (W + bal s want)) % 65535 = want % 65535 := by
  have h1 := oc_le W
  have h2 := oc_mod W
  have h3 := oc_le (W + bal s want)
  have h4 := oc_mod (W + bal s want)
  have h5 := oc_mod (s + (65535 - want))
  unfold bal at *
  omega
theorem bal_lt {W want : Nat} (hW : 0 < W) (s : Nat) : 65535 - oc (W + bal s want) < 65535 := by
  have := oc_pos (s := W + bal s want) (by omega)
  omega
theorem wsum_bp {n : Nat} (h : n ≤ 65535) : wsum false (bput n 2) = n := by
  simp only [bput, wsum, Nat.pow_one, Nat.pow_zero, Nat.div_one, Nat.add_zero]
  omega
/-- echo requests -/
def icZ (t n : Nat) : List Nat := echoA false ++ bput 0 2 ++ echoZ 21075 t (bput n 2)
theorem icZ_sum {t n : Nat} (ht : t ≤ 65535) (hn : n ≤ 65535) : wsum false (icZ t n) = 23123 + t + n := by
  unfold icZ echoZ
  rw [wsum_even (l := echoA false ++ bput 0 2) (by decide), wsum_even (l := bput 21075 2 ++ bput t 2) (by simp [bput_len]), wsum_even (l := bput 21075 2) (by simp [bput_len]), wsum_bp (n := 21075) (by decide), wsum_bp ht, wsum_bp hn]
  rw [show wsum false (echoA false ++ bput 0 2) = 2048 from by decide]
  omega
def icS (t : Nat) : Nat := s0 (icZ t 0)
def icN (t f : Nat) : Nat := bal (icS t) (16384 + f)
def icL (t f : Nat) : List Nat := echoL false 21075 t (bput (icN t f) 2)
theorem icN_le (t f : Nat) : icN t f ≤ 65535 := bal_le _ _
theorem ic_sum {t f : Nat} (ht : t ≤ 65535) (hf : f ≤ 1023) : s0 (icZ t (icN t f)) = 16384 + f := by
  have hn := icN_le t f
  have e0 := icZ_sum ht (Nat.zero_le 65535)
  have e1 := icZ_sum ht hn
  have h1 := bal_ok (W := 23123 + t) (want := 16384 + f) (by omega) (by omega) (icS t) (by unfold icS s0; rw [e0, Nat.add_zero])
  have h2 := bal_lt (W := 23123 + t) (want := 16384 + f) (by omega) (icS t)
  unfold s0
  rw [e1]
  unfold icN at *
  omega
theorem bput_pair (a b : Nat) (h : b < 256) : bput (a * 256 + b) 2 = bput a 1 ++ bput b 1 := by
  simp only [bput, Nat.pow_one, Nat.pow_zero, Nat.div_one, List.append_nil, List.cons_append, List.nil_append]
  congr 1
  · omega
  · congr 1; omega
theorem ic_at {t f : Nat} (ht : t ≤ 65535) (hf : f ≤ 1023) :
    (icL t f).length = 10 ∧ gN (icL t f) 0 2 = 2048 ∧ gN (icL t f) 2 2 = 16384 + f := by
  have hs := ic_sum ht hf
  have e : icL t f = bput 2048 2 ++ (bput (16384 + f) 2 ++ echoZ 21075 t (bput (icN t f) 2)) := by
    show msg s0 (echoA false) (echoZ 21075 t (bput (icN t f) 2)) = _
    unfold msg
    rw [show s0 (echoA false ++ bput 0 2 ++ echoZ 21075 t (bput (icN t f) 2)) = 16384 + f from hs, List.append_assoc]
    rfl
  refine ⟨by unfold icL; rw [echo_len, bput_len], gN_of (a := []) (by rw [e]; rfl) rfl (by decide), gN_of (a := bput 2048 2) e (bput_len _ _) (by show 16384 + f < 65536; omega)⟩
/-- datagrams -/
def udZ (f n : Nat) : List Nat := udpA (20000 + f) 33434 2 ++ bput 0 2 ++ bput n 2
theorem udZ_len (f n : Nat) : (udZ f n).length = 10 := by simp [udZ, udpA, bputs, bput_len]
theorem udZ_sum {f n : Nat} (hf : f ≤ 1023) (hn : n ≤ 65535) : wsum false (udZ f n) = 53444 + f + n := by
  unfold udZ udpA
  rw [wsum_even (by simp [bputs, bput_len]), wsum_even (by simp [bputs, bput_len]), wsum_bp hn, wsum_bp (Nat.zero_le 65535)]
  rw [show bputs 2 [20000 + f, 33434, 8 + 2] = bput (20000 + f) 2 ++ (bput 33434 2 ++ bput 10 2) by simp [bputs]]
  rw [wsum_even (by simp [bput_len]), wsum_even (by simp [bput_len]), wsum_bp (by omega), wsum_bp (by omega), wsum_bp (by omega)]
  omega
def udW (src dst f n : Nat) : Nat := wsum false (psd src dst 17 10 ++ udZ f n)
theorem udW_eq (src dst : Nat) {f n : Nat} (hf : f ≤ 1023) (hn : n ≤ 65535) : udW src dst f n = wsum false (psd src dst 17 10) + (53444 + f) + n := by
  unfold udW
  rw [wsum_even (by rw [psd_len]), udZ_sum hf hn]
  omega
theorem ud_sP (src dst f n : Nat) : sP src dst 17 (udZ f n) = 65535 - oc (udW src dst f n) := by
  unfold sP s0 udW
  rw [udZ_len]
def udS (src dst f : Nat) : Nat := sU src dst (udZ f 0)
def udN (src dst f t : Nat) : Nat := bal (udS src dst f) (t + 1)
def udL (src dst f t : Nat) : List Nat := udpL src dst (20000 + f) 33434 (bput (udN src dst f t) 2)
theorem udN_le (src dst f t : Nat) : udN src dst f t ≤ 65535 := bal_le _ _
theorem ud_sum (src dst : Nat) {f t : Nat} (hf : f ≤ 1023) (ht : t ≤ 65534) : sU src dst (udZ f (udN src dst f t)) = t + 1 := by
  have hn := udN_le src dst f t
  have e0 := udW_eq src dst (f := f) hf (Nat.zero_le 65535)
  have e1 := udW_eq src dst (f := f) hf hn
  obtain ⟨W, hW⟩ : ∃ W, W = wsum false (psd src dst 17 10) + (53444 + f) := ⟨_, rfl⟩
  rw [← hW] at e0 e1
  have h1 := bal_ok (W := W) (want := t + 1) (by omega) (by omega) (udS src dst f) (by
    unfold udS sU
    rw [ud_sP, e0]
    show (if 65535 - oc W = 0 then 65535 else 65535 - oc W) % 65535 = _
    split
    · next h => rw [h]
    · rfl)
  have h2 := bal_lt (W := W) (want := t + 1) (by omega) (udS src dst f)
  unfold sU
  rw [ud_sP, e1]
  unfold udN at *
  split <;> omega
theorem ud_at (src dst : Nat) {f t : Nat} (hf : f ≤ 1023) (ht : t ≤ 65534) :
    (udL src dst f t).length = 10 ∧ gN (udL src dst f t) 0 2 = 20000 + f ∧ gN (udL src dst f t) 2 2 = 33434 ∧ gN (udL src dst f t) 6 2 = t + 1 := by
  have hs := ud_sum src dst hf ht
  have hl := bput_len (udN src dst f t) 2
  have h3 := udp_dc (src := src) (dst := dst) (sp := 20000 + f) (dp := 33434) (d := bput (udN src dst f t) 2) (by omega) (by decide) (by omega)
  refine ⟨by unfold udL; rw [udp_len, hl], h3.2.1, h3.2.2.1, ?_⟩
  have e : udL src dst f t = udpA (20000 + f) 33434 2 ++ (bput (t + 1) 2 ++ bput (udN src dst f t) 2) := by
    show msg (sU src dst) (udpA (20000 + f) 33434 (bput (udN src dst f t) 2).length) (bput (udN src dst f t) 2) = _
    rw [hl]
    unfold msg
    rw [show sU src dst (udpA (20000 + f) 33434 2 ++ bput 0 2 ++ bput (udN src dst f t) 2) = t + 1 from hs, List.append_assoc]
  exact gN_of e (by simp [udpA, bputs, bput_len]) (by show t + 1 < 65536; omega)
/-- segments -/
def tcL (src dst f t : Nat) : List Nat := tcpL src dst (20000 + f) 80 t 0 2 1024 []
theorem tc_at (src dst : Nat) {f t : Nat} (hf : f ≤ 1023) (ht : t ≤ 65534) :
    (tcL src dst f t).length = 20 ∧ gN (tcL src dst f t) 0 2 = 20000 + f ∧ gN (tcL src dst f t) 2 2 = 80 := by
  have h3 := tcp_dc (src := src) (dst := dst) (sp := 20000 + f) (dp := 80) (sq := t) (ak := 0) (fl := 2) (wi := 1024) (d := []) (by omega) (by decide) (by omega) (by decide) (by decide) (by decide) (by simp)
  exact ⟨by unfold tcL; rw [tcp_len]; rfl, h3.2.1, h3.2.2.1⟩
/-- the data and the packet of a probe -/
def Pr.data (p : Pr) : List Nat := if p.proto = 1 then icL p.tag p.flow else if p.proto = 17 then udL p.src p.dst p.flow p.tag else tcL p.src p.dst p.flow p.tag
def Pr.pk (p : Pr) : List Nat := enc p.hd p.data
def kA (proto : Nat) (d : List Nat) : Nat := if (proto = 1 ∨ proto = 17 ∨ proto = 6) ∧ 4 ≤ d.length then gN d 0 2 else 0
def kB (proto : Nat) (d : List Nat) : Nat := if (proto = 1 ∨ proto = 17 ∨ proto = 6) ∧ 4 ≤ d.length then gN d 2 2 else 0
def Pr.a (p : Pr) : Nat := if p.proto = 1 then 2048 else 20000 + p.flow
def Pr.b (p : Pr) : Nat := if p.proto = 1 then 16384 + p.flow else if p.proto = 17 then 33434 else 80
theorem Pr.data_icmp {p : Pr} (h : p.proto = 1) : p.data = icL p.tag p.flow := if_pos h
theorem Pr.data_udp {p : Pr} (h : p.proto = 17) : p.data = udL p.src p.dst p.flow p.tag := by unfold Pr.data; rw [if_neg (by omega), if_pos h]
theorem Pr.data_tcp {p : Pr} (h : p.proto = 6) : p.data = tcL p.src p.dst p.flow p.tag := by unfold Pr.data; rw [if_neg (by omega), if_neg (by omega)]
theorem Pr.data_at {p : Pr} (k : p.ok) : 10 ≤ p.data.length ∧ p.data.length ≤ 20 ∧ gN p.data 0 2 = p.a ∧ gN p.data 2 2 = p.b := by
  have hf := k.flow
  have ht := k.tag
  unfold Pr.a Pr.b
  rcases k.proto with h | h | h
  · rw [Pr.data_icmp h, if_pos h, if_pos h]
    obtain ⟨h1, h2, h3⟩ := ic_at (t := p.tag) (f := p.flow) (by omega) hf
    exact ⟨by omega, by omega, h2, h3⟩
  · rw [Pr.data_udp h, if_neg (by omega), if_neg (by omega), if_pos h]
    obtain ⟨h1, h2, h3, -⟩ := ud_at p.src p.dst (t := p.tag) (f := p.flow) hf ht
    exact ⟨by omega, by omega, h2, h3⟩
  · rw [Pr.data_tcp h, if_neg (by omega), if_neg (by omega), if_neg (by omega)]
    obtain ⟨h1, h2, h3⟩ := tc_at p.src p.dst (t := p.tag) (f := p.flow) hf ht
    exact ⟨by omega, by omega, h2, h3⟩
theorem Pr.key_at {p : Pr} (k : p.ok) : kA p.proto p.data = p.a ∧ kB p.proto p.data = p.b := by
  obtain ⟨h1, -, h2, h3⟩ := Pr.data_at k
  unfold kA kB
  rw [if_pos ⟨k.proto, by omega⟩, if_pos ⟨k.proto, by omega⟩]
  exact ⟨h2, h3⟩
theorem Pr.pk_len {p : Pr} (k : p.ok) : 30 ≤ p.pk.length ∧ p.pk.length ≤ 40 := by
  obtain ⟨h1, h2, -⟩ := Pr.data_at k
  unfold Pr.pk
  rw [enc_len]; omega
theorem Pr.pk_dc {p : Pr} (k : p.ok) : dcE p.pk = 0 ∧ hdAt p.pk = p.hd ∧ p.pk.drop 20 = p.data := by
  obtain ⟨h1, h2, -⟩ := Pr.data_at k
  have := enc_dc (h := p.hd) (Pr.hd_ok k) (d := p.data) (by omega)
  exact ⟨this.1, this.2, enc_drop _ _⟩
/-- the flow out of a key -/
def flI (proto a b : Nat) : Int := if proto = 1 then (b : Int) - 16384 else (a : Int) - 20000
theorem Pr.fl_at {p : Pr} : flI p.proto p.a p.b = p.flow := by
  unfold flI Pr.a Pr.b
  split <;> omega
theorem Pr.pk_inj {p q : Pr} (k : p.ok) (m : q.ok) (h : p.pk = q.pk) : p = q := by
  have h1 := (Pr.pk_dc k).2.1
  have h2 := (Pr.pk_dc m).2.1
  have d1 := (Pr.pk_dc k).2.2
  have d2 := (Pr.pk_dc m).2.2
  rw [h] at h1 d1
  have hh := h1.symm.trans h2
  have hd := d1.symm.trans d2
  have f1 := Pr.fl_at (p := p)
  have f2 := Pr.fl_at (p := q)
  rw [← (Pr.key_at k).1, ← (Pr.key_at k).2] at f1
  rw [← (Pr.key_at m).1, ← (Pr.key_at m).2] at f2
  obtain ⟨s1, s2, s3, s4, s5, s6⟩ := p
  obtain ⟨r1, r2, r3, r4, r5, r6⟩ := q
  simp only [Pr.hd, Hd.mk.injEq] at hh
  obtain ⟨-, rfl, rfl, rfl, -, rfl, rfl⟩ := hh
  rw [hd] at f1
  have : s4 = r4 := by
    have := f1.symm.trans f2
    simp only at this
    omega
  rw [this]
theorem Pr.pk_lt {p : Pr} (k : p.ok) : ∀ x ∈ p.data, x < 256 := by
  intro x hx
  rcases k.proto with h | h | h
  · rw [Pr.data_icmp h] at hx
    refine msg_lt s0 (a := echoA false) (z := echoZ 21075 p.tag (bput (icN p.tag p.flow) 2)) (by decide) ?_ x hx
    intro y hy
    unfold echoZ at hy
    simp only [List.mem_append] at hy
    rcases hy with (hy | hy) | hy <;> exact bput_lt _ _ y hy
  · rw [Pr.data_udp h] at hx
    refine msg_lt _ (a := udpA (20000 + p.flow) 33434 _) (z := bput (udN p.src p.dst p.flow p.tag) 2) ?_ (bput_lt _ _) x hx
    intro y hy
    simp only [udpA, bputs, List.flatMap_cons, List.flatMap_nil, List.append_nil, List.mem_append] at hy
    rcases hy with hy | hy | hy <;> exact bput_lt _ _ y hy
  · rw [Pr.data_tcp h] at hx
    refine msg_lt _ (a := tcpA (20000 + p.flow) 80 p.tag 0 2 1024) (z := tcpZ []) ?_ ?_ x hx
    · intro y hy
      simp only [tcpA, List.mem_append] at hy
      rcases hy with ((((hy | hy) | (hy | hy)) | (hy | hy)) | hy) <;> exact bput_lt _ _ y hy
    · intro y hy
      simp only [tcpZ, List.append_nil] at hy
      exact bput_lt _ _ y hy
/-- another TTL -/
theorem Pr.low_hd (p : Pr) : p.hd.low = { p with ttl := p.ttl - 1 : Pr }.hd := rfl
end Go.Proofs.YtkpejaiigopmgaaGreatDoor
