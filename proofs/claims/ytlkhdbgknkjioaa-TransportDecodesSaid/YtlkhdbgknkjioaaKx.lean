/- Encodings of transport decoded; what is compared; the sanity check. -/
import Derived.Test.YtlkhdbgknkjioaaKd
import Derived.Test.YtlkhdbgknkjioaaKg
import Derived.Test.YtlkhdbgknkjioaaKh
import Derived.Test.YtlkhdbgknkjioaaWq
import Derived.WalkKit
import Derived.WalkSpells
import Derived.WalkLawsBesides
import Derived.WalkSmall
import Derived.Handy
import Derived.BigQuiet
import Derived.Deep.QuietTactic
import Derived.Deep.RegionHeld3
import Derived.Deep.DeepFit
import Derived.Below
import Derived.Lib.Hide
import Derived.Lib.QuietBelow
namespace Go.Proofs.Ytlkhdbgknkjioaa
open Go Go.RowKit Go.Sort
set_option maxRecDepth 100000
set_option linter.unusedVariables false
def kind (r : Bool) : Nat := if r then 0 else 8
theorem echo_len (r : Bool) (a b : Nat) (d : List Nat) : (echoL r a b d).length = 8 + d.length := by
  unfold echoL; rw [msg_len]; simp [echoA, echoZ, bput_len]; omega
theorem note_len (t c : Nat) (d : List Nat) : (noteL t c d).length = 8 + d.length := by
  unfold noteL; rw [msg_len]; simp [noteA, noteZ, bput_len]; omega
theorem udp_len (src dst sp dp : Nat) (d : List Nat) : (udpL src dst sp dp d).length = 8 + d.length := by
  unfold udpL; rw [msg_len]; simp [udpA, bputs, bput_len]
theorem tcp_len (src dst sp dp sq ak fl wi : Nat) (d : List Nat) : (tcpL src dst sp dp sq ak fl wi d).length = 20 + d.length := by
  unfold tcpL; rw [msg_len]; simp [tcpA, tcpZ, bput_len]; omega
theorem echo_dc (r : Bool) {a b : Nat} {d : List Nat} (ha : a < 65536) (hb : b < 65536) (hl : d.length ≤ 1472) :
    dcEcho (echoL r a b d) = 0 ∧ gN (echoL r a b d) 0 1 = kind r ∧ gN (echoL r a b d) 4 2 = a ∧ gN (echoL r a b d) 6 2 = b ∧ (echoL r a b d).drop 8 = d := by
  have hv : vE s0 2 (echoL r a b d) = 0 := vE_msg (S := s0) (a := echoA r) (z := echoZ a b d) (by simp [echoA, echoZ, bput_len]; omega)
  have hlen := echo_len r a b d
  have e : echoL r a b d = bput (kind r) 1 ++ (bput 0 1 ++ (bput (s0 (echoA r ++ bput 0 2 ++ echoZ a b d)) 2 ++ (bput a 2 ++ (bput b 2 ++ d)))) := by
    simp only [echoL, msg, List.append_assoc]
    simp only [echoA, echoZ, kind, List.append_assoc]
  have h0 : gN (echoL r a b d) 0 1 = kind r := gN_of (a := []) (by rw [e]; rfl) rfl (by unfold kind; split <;> decide)
  have h1 : gN (echoL r a b d) 1 1 = 0 := gN_of (a := bput (kind r) 1) (by rw [e]) (bput_len _ _) (by decide)
  have h4 : gN (echoL r a b d) 4 2 = a := gN_of (a := bput (kind r) 1 ++ bput 0 1 ++ bput (s0 (echoA r ++ bput 0 2 ++ echoZ a b d)) 2) (by rw [e]; (try simp only [List.append_assoc]); (try with_reducible rfl)) (by simp [bput_len]) ha
  have h6 : gN (echoL r a b d) 6 2 = b := gN_of (a := bput (kind r) 1 ++ bput 0 1 ++ bput (s0 (echoA r ++ bput 0 2 ++ echoZ a b d)) 2 ++ bput a 2) (by rw [e]; (try simp only [List.append_assoc]); (try with_reducible rfl)) (by simp [bput_len]) hb
  have hk : kind r = 8 ∨ kind r = 0 := by cases r <;> simp [kind]
  refine ⟨?_, h0, h4, h6, ?_⟩
  · unfold dcEcho
    rw [if_neg (by omega), if_neg (by omega)]
    exact hv
  · rw [e]
    rw [show bput (kind r) 1 ++ (bput 0 1 ++ (bput (s0 (echoA r ++ bput 0 2 ++ echoZ a b d)) 2 ++ (bput a 2 ++ (bput b 2 ++ d)))) = (bput (kind r) 1 ++ bput 0 1 ++ bput (s0 (echoA r ++ bput 0 2 ++ echoZ a b d)) 2 ++ bput a 2 ++ bput b 2) ++ d by simp only [List.append_assoc]]
    exact List.drop_left' (by simp [bput_len])
theorem note_dc {t c : Nat} {d : List Nat} (ht : t = 3 ∨ t = 11) (hc : c < 256) (h28 : 28 ≤ d.length) (hl : d.length ≤ 1472) :
    dcNote (noteL t c d) = 0 ∧ gN (noteL t c d) 0 1 = t ∧ gN (noteL t c d) 1 1 = c ∧ (noteL t c d).drop 8 = d := by
  have hv : vE s0 2 (noteL t c d) = 0 := vE_msg (S := s0) (a := noteA t c) (z := noteZ d) (by simp [noteA, noteZ, bput_len]; omega)
  have hlen := note_len t c d
  have e : noteL t c d = bput t 1 ++ (bput c 1 ++ (bput (s0 (noteA t c ++ bput 0 2 ++ noteZ d)) 2 ++ (bput 0 4 ++ d))) := by
    simp only [noteL, msg, List.append_assoc]
    simp only [noteA, noteZ, List.append_assoc]
  have h0 : gN (noteL t c d) 0 1 = t := gN_of (a := []) (by rw [e]; rfl) rfl (by show t < 256; omega)
  have h1 : gN (noteL t c d) 1 1 = c := gN_of (a := bput t 1) (by rw [e]) (bput_len _ _) hc
  have h4 : gN (noteL t c d) 4 4 = 0 := gN_of (a := bput t 1 ++ bput c 1 ++ bput (s0 (noteA t c ++ bput 0 2 ++ noteZ d)) 2) (by rw [e]; (try simp only [List.append_assoc]); (try with_reducible rfl)) (by simp [bput_len]) (by decide)
  refine ⟨?_, h0, h1, ?_⟩
  · unfold dcNote
    rw [if_neg (by omega), if_neg (by omega)]
    exact hv
  · rw [e]
    rw [show bput t 1 ++ (bput c 1 ++ (bput (s0 (noteA t c ++ bput 0 2 ++ noteZ d)) 2 ++ (bput 0 4 ++ d))) = (bput t 1 ++ bput c 1 ++ bput (s0 (noteA t c ++ bput 0 2 ++ noteZ d)) 2 ++ bput 0 4) ++ d by simp only [List.append_assoc]]
    exact List.drop_left' (by simp [bput_len])
theorem udp_dc {src dst sp dp : Nat} {d : List Nat} (ha : sp < 65536) (hb : dp < 65536) (hl : d.length ≤ 1472) :
    dcUDP src dst (udpL src dst sp dp d) = 0 ∧ gN (udpL src dst sp dp d) 0 2 = sp ∧ gN (udpL src dst sp dp d) 2 2 = dp ∧ (udpL src dst sp dp d).drop 8 = d := by
  have hv : vE (sU src dst) 6 (udpL src dst sp dp d) = 0 := by
    have := vE_msg (S := sU src dst) (a := udpA sp dp d.length) (z := d) (by simp [udpA, bputs, bput_len]; omega)
    rw [show (udpA sp dp d.length).length = 6 by simp [udpA, bputs, bput_len]] at this
    exact this
  have hlen := udp_len src dst sp dp d
  obtain ⟨S, hS⟩ : ∃ S, S = sU src dst (udpA sp dp d.length ++ bput 0 2 ++ d) := ⟨_, rfl⟩
  have e : udpL src dst sp dp d = bput sp 2 ++ (bput dp 2 ++ (bput (8 + d.length) 2 ++ (bput S 2 ++ d))) := by
    rw [hS]
    simp only [udpL, msg, List.append_assoc]
    simp only [udpA, bputs, List.flatMap_cons, List.flatMap_nil, List.append_nil, List.append_assoc]
  have h0 : gN (udpL src dst sp dp d) 0 2 = sp := gN_of (a := []) (by rw [e]; rfl) rfl ha
  have h2 : gN (udpL src dst sp dp d) 2 2 = dp := gN_of (a := bput sp 2) (by rw [e]) (bput_len _ _) hb
  have h4 : gN (udpL src dst sp dp d) 4 2 = 8 + d.length := gN_of (a := bput sp 2 ++ bput dp 2) (by rw [e]; (try simp only [List.append_assoc]); (try with_reducible rfl)) (by simp [bput_len]) (by show 8 + d.length < 65536; omega)
  refine ⟨?_, h0, h2, ?_⟩
  · unfold dcUDP
    rw [if_neg (by omega), if_neg (by omega)]
    exact hv
  · rw [e]
    rw [show bput sp 2 ++ (bput dp 2 ++ (bput (8 + d.length) 2 ++ (bput S 2 ++ d))) = (bput sp 2 ++ bput dp 2 ++ bput (8 + d.length) 2 ++ bput S 2) ++ d by simp only [List.append_assoc]]
    exact List.drop_left' (by simp [bput_len])
theorem tcp_dc {src dst sp dp sq ak fl wi : Nat} {d : List Nat} (ha : sp < 65536) (hb : dp < 65536) (hq : sq < 4294967296) (hk : ak < 4294967296) (hf : fl < 256) (hw : wi < 65536) (hl : d.length ≤ 1460) :
    dcTCP src dst (tcpL src dst sp dp sq ak fl wi d) = 0 ∧ gN (tcpL src dst sp dp sq ak fl wi d) 0 2 = sp ∧ gN (tcpL src dst sp dp sq ak fl wi d) 2 2 = dp ∧ gN (tcpL src dst sp dp sq ak fl wi d) 4 4 = sq ∧ gN (tcpL src dst sp dp sq ak fl wi d) 8 4 = ak ∧
      gN (tcpL src dst sp dp sq ak fl wi d) 13 1 = fl ∧ gN (tcpL src dst sp dp sq ak fl wi d) 14 2 = wi ∧ (tcpL src dst sp dp sq ak fl wi d).drop 20 = d := by
  have hv : vE (sP src dst 6) 16 (tcpL src dst sp dp sq ak fl wi d) = 0 := by
    have := vE_msg (S := sP src dst 6) (a := tcpA sp dp sq ak fl wi) (z := tcpZ d) (by simp [tcpA, tcpZ, bput_len]; omega)
    rw [show (tcpA sp dp sq ak fl wi).length = 16 by simp [tcpA, bput_len]] at this
    exact this
  have hlen := tcp_len src dst sp dp sq ak fl wi d
  obtain ⟨S, hS⟩ : ∃ S, S = sP src dst 6 (tcpA sp dp sq ak fl wi ++ bput 0 2 ++ tcpZ d) := ⟨_, rfl⟩
  have e : tcpL src dst sp dp sq ak fl wi d = bput sp 2 ++ (bput dp 2 ++ (bput sq 4 ++ (bput ak 4 ++ (bput 80 1 ++ (bput fl 1 ++ (bput wi 2 ++ (bput S 2 ++ (bput 0 2 ++ d)))))))) := by
    rw [hS]
    simp only [tcpL, msg, List.append_assoc]
    simp only [tcpA, tcpZ, List.append_assoc]
  have k0 := gN_of (l := tcpL src dst sp dp sq ak fl wi d) (a := []) (i := 0) (by rw [e]; rfl) rfl (show sp < 256 ^ 2 from ha)
  have k2 := gN_of (l := tcpL src dst sp dp sq ak fl wi d) (a := bput sp 2) (i := 2) (by rw [e]) (bput_len _ _) (show dp < 256 ^ 2 from hb)
  have k4 := gN_of (l := tcpL src dst sp dp sq ak fl wi d) (a := bput sp 2 ++ bput dp 2) (i := 4) (by rw [e]; (try simp only [List.append_assoc]); (try with_reducible rfl)) (by simp [bput_len]) (show sq < 256 ^ 4 from hq)
  have k8 := gN_of (l := tcpL src dst sp dp sq ak fl wi d) (a := bput sp 2 ++ bput dp 2 ++ bput sq 4) (i := 8) (by rw [e]; (try simp only [List.append_assoc]); (try with_reducible rfl)) (by simp [bput_len]) (show ak < 256 ^ 4 from hk)
  have k12 := gN_of (l := tcpL src dst sp dp sq ak fl wi d) (a := bput sp 2 ++ bput dp 2 ++ bput sq 4 ++ bput ak 4) (i := 12) (by rw [e]; (try simp only [List.append_assoc]); (try with_reducible rfl)) (by simp [bput_len]) (show 80 < 256 ^ 1 by decide)
  have k13 := gN_of (l := tcpL src dst sp dp sq ak fl wi d) (a := bput sp 2 ++ bput dp 2 ++ bput sq 4 ++ bput ak 4 ++ bput 80 1) (i := 13) (by rw [e]; (try simp only [List.append_assoc]); (try with_reducible rfl)) (by simp [bput_len]) (show fl < 256 ^ 1 from hf)
  have k14 := gN_of (l := tcpL src dst sp dp sq ak fl wi d) (a := bput sp 2 ++ bput dp 2 ++ bput sq 4 ++ bput ak 4 ++ bput 80 1 ++ bput fl 1) (i := 14) (by rw [e]; (try simp only [List.append_assoc]); (try with_reducible rfl)) (by simp [bput_len]) (show wi < 256 ^ 2 from hw)
  have k18 := gN_of (l := tcpL src dst sp dp sq ak fl wi d) (a := bput sp 2 ++ bput dp 2 ++ bput sq 4 ++ bput ak 4 ++ bput 80 1 ++ bput fl 1 ++ bput wi 2 ++ bput S 2) (i := 18) (by rw [e]; (try simp only [List.append_assoc]); (try with_reducible rfl)) (by simp [bput_len]) (show 0 < 256 ^ 2 by decide)
  refine ⟨?_, k0, k2, k4, k8, k13, k14, ?_⟩
  · unfold dcTCP
    rw [if_neg (by omega), if_neg (by omega)]
    exact hv
  · rw [e]
    rw [show bput sp 2 ++ (bput dp 2 ++ (bput sq 4 ++ (bput ak 4 ++ (bput 80 1 ++ (bput fl 1 ++ (bput wi 2 ++ (bput S 2 ++ (bput 0 2 ++ d)))))))) = (bput sp 2 ++ bput dp 2 ++ bput sq 4 ++ bput ak 4 ++ bput 80 1 ++ bput fl 1 ++ bput wi 2 ++ bput S 2 ++ bput 0 2) ++ d by simp only [List.append_assoc]]
    exact List.drop_left' (by simp [bput_len])
/-- decoding an encoding -/
theorem echo_dec {p : Nat → Prop} {v : Value} {r : Bool} {a b : Nat} {d : List Nat} (w : World) (hr : Rb p w v (echoL r a b d)) (ha : a < 65536) (hb : b < 65536) (hl : d.length ≤ 1472) :
    Calls Try.prog 21 #[v] w fun e w' => ∃ v', e = .returned (.tuple #[.agg #[.bool r, .int .i64 a, .int .i64 b, v'], .int .i64 0]) ∧ OwB w.heap.size w' v' d ∧ Gr w w' := by
  obtain ⟨h0, h1, h2, h3, h4⟩ := echo_dc r (a := a) (b := b) (d := d) ha hb hl
  have := decho_ok w hr (by rw [echo_len]; omega) h0
  rw [h1, h2, h3, h4, show decide (kind r = 0) = r by cases r <;> rfl] at this
  exact this
theorem note_dec {p : Nat → Prop} {v : Value} {t c : Nat} {d : List Nat} (w : World) (hr : Rb p w v (noteL t c d)) (ht : t = 3 ∨ t = 11) (hc : c < 256) (h28 : 28 ≤ d.length) (hl : d.length ≤ 1472) :
    Calls Try.prog 22 #[v] w fun e w' => ∃ v', e = .returned (.tuple #[.agg #[.int .i64 t, .int .i64 c, v'], .int .i64 0]) ∧ OwB w.heap.size w' v' d ∧ Gr w w' := by
  obtain ⟨h0, h1, h2, h3⟩ := note_dc (t := t) (c := c) (d := d) ht hc h28 hl
  have := dnote_ok w hr (by rw [note_len]; omega) h0
  rw [h1, h2, h3] at this
  exact this
theorem udp_dec {p : Nat → Prop} {v : Value} {src dst sp dp : Nat} {d : List Nat} (w : World) (hr : Rb p w v (udpL src dst sp dp d)) (hs : src < 4294967296) (hd : dst < 4294967296) (ha : sp < 65536) (hb : dp < 65536) (hl : d.length ≤ 1472) :
    Calls Try.prog 23 #[.int .u32 src, .int .u32 dst, v] w fun e w' => ∃ v', e = .returned (.tuple #[.agg #[.int .i64 sp, .int .i64 dp, v'], .int .i64 0]) ∧ OwB w.heap.size w' v' d ∧ Gr w w' := by
  obtain ⟨h0, h1, h2, h3⟩ := udp_dc (src := src) (dst := dst) (sp := sp) (dp := dp) (d := d) ha hb hl
  have := dudp_ok src dst w hr hs hd (by rw [udp_len]; omega) h0
  rw [h1, h2, h3] at this
  exact this
theorem tcp_dec {p : Nat → Prop} {v : Value} {src dst sp dp sq ak fl wi : Nat} {d : List Nat} (w : World) (hr : Rb p w v (tcpL src dst sp dp sq ak fl wi d)) (hs : src < 4294967296) (hd : dst < 4294967296) (ha : sp < 65536) (hb : dp < 65536) (hq : sq < 4294967296) (hk : ak < 4294967296) (hf : fl < 256) (hw : wi < 65536) (hl : d.length ≤ 1460) :
    Calls Try.prog 24 #[.int .u32 src, .int .u32 dst, v] w fun e w' => ∃ v', e = .returned (.tuple #[.agg #[.int .i64 sp, .int .i64 dp, .int .i64 sq, .int .i64 ak, .int .i64 fl, .int .i64 wi, v'], .int .i64 0]) ∧ OwB w.heap.size w' v' d ∧ Gr w w' := by
  obtain ⟨h0, h1, h2, h3, h4, h5, h6, h7⟩ := tcp_dc (src := src) (dst := dst) (sp := sp) (dp := dp) (sq := sq) (ak := ak) (fl := fl) (wi := wi) (d := d) ha hb hq hk hf hw hl
  have := dtcp_ok src dst w hr hs hd (by rw [tcp_len]; omega) h0
  rw [h1, h2, h3, h4, h5, h6, h7] at this
  exact this
theorem udp_swap (src dst sp dp : Nat) (d : List Nat) : udpL src dst sp dp d = udpL dst src sp dp d := by
  unfold udpL
  rw [show sU src dst = sU dst src from funext fun l => sU_swap src dst l]
theorem tcp_swap (src dst sp dp sq ak fl wi : Nat) (d : List Nat) : tcpL src dst sp dp sq ak fl wi d = tcpL dst src sp dp sq ak fl wi d := by
  unfold tcpL
  rw [show sP src dst 6 = sP dst src 6 from funext fun l => sP_swap src dst 6 l]
/-- one byte is replaced -/
theorem echo_damage {l : List Nat} (hb : ∀ x ∈ l, x < 256) (h : dcEcho l = 0) {j x : Nat} (hj : j < l.length) (hx : x < 256) (hne : x ≠ l.getD j 0) : dcEcho (l.set j x) ≠ 0 := by
  unfold dcEcho at h ⊢
  rw [List.length_set]
  split at h
  · omega
  · split at h
    · omega
    · next h1 h2 =>
      rw [if_neg h1]
      split
      · omega
      · exact vE_damage lin0 s0_le (by omega) (by omega) hb h hj hx hne
theorem note_damage {l : List Nat} (hb : ∀ x ∈ l, x < 256) (h : dcNote l = 0) {j x : Nat} (hj : j < l.length) (hx : x < 256) (hne : x ≠ l.getD j 0) : dcNote (l.set j x) ≠ 0 := by
  unfold dcNote at h ⊢
  rw [List.length_set]
  split at h
  · omega
  · split at h
    · omega
    · next h1 h2 =>
      rw [if_neg h1]
      split
      · omega
      · exact vE_damage lin0 s0_le (by omega) (by omega) hb h hj hx hne
theorem udp_damage {src dst : Nat} {l : List Nat} (hb : ∀ x ∈ l, x < 256) (h : dcUDP src dst l = 0) {j x : Nat} (hj : j < l.length) (hx : x < 256) (hne : x ≠ l.getD j 0) : dcUDP src dst (l.set j x) ≠ 0 := by
  unfold dcUDP at h ⊢
  rw [List.length_set]
  split at h
  · omega
  · split at h
    · omega
    · next h1 h2 =>
      rw [if_neg h1]
      split
      · omega
      · exact vE_damage (linU src dst) (sU_le src dst) (by omega) (by omega) hb h hj hx hne
theorem tcp_damage {src dst : Nat} {l : List Nat} (hb : ∀ x ∈ l, x < 256) (h : dcTCP src dst l = 0) {j x : Nat} (hj : j < l.length) (hx : x < 256) (hne : x ≠ l.getD j 0) : dcTCP src dst (l.set j x) ≠ 0 := by
  unfold dcTCP at h ⊢
  rw [List.length_set]
  split at h
  · omega
  · split at h
    · omega
    · next h1 h2 =>
      rw [if_neg h1]
      split
      · omega
      · exact vE_damage (linP src dst 6) (sP_le src dst 6) (by omega) (by omega) hb h hj hx hne
theorem same_echo {p q : Nat → Prop} {va vb : Value} {l : List Nat} (r : Bool) (a b : Nat) (w : World) (ha : Rb p w va l) (hb : Rb q w vb l) (hl : l.length ≤ 30000) :
    Calls Try.prog 25 #[.agg #[.bool r, .int .i64 a, .int .i64 b, va], .agg #[.bool r, .int .i64 a, .int .i64 b, vb]] w fun e w' => e = .returned (.bool true) ∧ Gr w w' := by
  obtain ⟨aa, ca, rfl, -, -⟩ := ha.form
  obtain ⟨ab, cb, rfl, -, -⟩ := hb.form
  have hC1 := (CL.new w [.bool r, .int .i64 a, .int .i64 b, .slice aa l.length ca] 36 _ rfl).gr (Gr.alloc (Gr.refl _) (.cells #[.bool r, .int .i64 a, .int .i64 b, .slice ab l.length cb] 36))
  have hC2 := CL.new (w.alloc (.cells #[.bool r, .int .i64 a, .int .i64 b, .slice aa l.length ca] 36)) [.bool r, .int .i64 a, .int .i64 b, .slice ab l.length cb] 36 (w.heap.size + 1) (by simp)
  have hG := ((Gr.refl w).alloc (.cells #[.bool r, .int .i64 a, .int .i64 b, .slice aa l.length ca] 36)).alloc (.cells #[.bool r, .int .i64 a, .int .i64 b, .slice ab l.length cb] 36)
  have HA := Lib.hid ha
  have HB := Lib.hid hb
  have HLL := Lib.hid (show l.length ≤ 100000 by omega)
  obtain ⟨N, hN⟩ : ∃ N, N = l.length := ⟨_, rfl⟩
  rw [← hN] at HA HB hC1 hC2 hG ⊢
  clear ha hb hl hN
  go_enter Try.func25, Try.ntmps25
  go_upto_region 1 with fail
  generalize (w.alloc (.cells #[.bool r, .int .i64 a, .int .i64 b, .slice aa N ca] 36)).alloc (.cells #[.bool r, .int .i64 a, .int .i64 b, .slice ab N cb] 36) = w2 at hC1 hC2 hG ⊢
  generalize w.heap.size + 1 = g2 at hC2 ⊢
  generalize w.heap.size = g1 at hC1 ⊢
  obtain ⟨⟨x0, x1, x2, x3⟩, -⟩ := hC1.four
  obtain ⟨⟨y0, y1, y2, y3⟩, -⟩ := hC2.four
  go_wp2_with fail
  refine (rweq_c w2 (HA.out.gr hG) (HB.out.gr hG) HLL.out HLL.out true (by simp)).mono ?_
  rintro e w3 ⟨rfl, hg3⟩
  go_wp2_with fail
  go_ret
  exact ⟨rfl, hG.step hg3⟩
theorem same_note {p q : Nat → Prop} {va vb : Value} {l : List Nat} (a b : Nat) (w : World) (ha : Rb p w va l) (hb : Rb q w vb l) (hl : l.length ≤ 30000) :
    Calls Try.prog 26 #[.agg #[.int .i64 a, .int .i64 b, va], .agg #[.int .i64 a, .int .i64 b, vb]] w fun e w' => e = .returned (.bool true) ∧ Gr w w' := by
  obtain ⟨aa, ca, rfl, -, -⟩ := ha.form
  obtain ⟨ab, cb, rfl, -, -⟩ := hb.form
  have hC1 := (CL.new w [.int .i64 a, .int .i64 b, .slice aa l.length ca] 39 _ rfl).gr (Gr.alloc (Gr.refl _) (.cells #[.int .i64 a, .int .i64 b, .slice ab l.length cb] 39))
  have hC2 := CL.new (w.alloc (.cells #[.int .i64 a, .int .i64 b, .slice aa l.length ca] 39)) [.int .i64 a, .int .i64 b, .slice ab l.length cb] 39 (w.heap.size + 1) (by simp)
  have hG := ((Gr.refl w).alloc (.cells #[.int .i64 a, .int .i64 b, .slice aa l.length ca] 39)).alloc (.cells #[.int .i64 a, .int .i64 b, .slice ab l.length cb] 39)
  have HA := Lib.hid ha
  have HB := Lib.hid hb
  have HLL := Lib.hid (show l.length ≤ 100000 by omega)
  obtain ⟨N, hN⟩ : ∃ N, N = l.length := ⟨_, rfl⟩
  rw [← hN] at HA HB hC1 hC2 hG ⊢
  clear ha hb hl hN
  go_enter Try.func26, Try.ntmps26
  go_upto_region 1 with fail
  generalize (w.alloc (.cells #[.int .i64 a, .int .i64 b, .slice aa N ca] 39)).alloc (.cells #[.int .i64 a, .int .i64 b, .slice ab N cb] 39) = w2 at hC1 hC2 hG ⊢
  generalize w.heap.size + 1 = g2 at hC2 ⊢
  generalize w.heap.size = g1 at hC1 ⊢
  obtain ⟨⟨x0, x1, x2⟩, -⟩ := hC1.three
  obtain ⟨⟨y0, y1, y2⟩, -⟩ := hC2.three
  go_wp2_with fail
  refine (rweq_c w2 (HA.out.gr hG) (HB.out.gr hG) HLL.out HLL.out true (by simp)).mono ?_
  rintro e w3 ⟨rfl, hg3⟩
  go_wp2_with fail
  go_ret
  exact ⟨rfl, hG.step hg3⟩
theorem same_udp {p q : Nat → Prop} {va vb : Value} {l : List Nat} (a b : Nat) (w : World) (ha : Rb p w va l) (hb : Rb q w vb l) (hl : l.length ≤ 30000) :
    Calls Try.prog 27 #[.agg #[.int .i64 a, .int .i64 b, va], .agg #[.int .i64 a, .int .i64 b, vb]] w fun e w' => e = .returned (.bool true) ∧ Gr w w' := by
  obtain ⟨aa, ca, rfl, -, -⟩ := ha.form
  obtain ⟨ab, cb, rfl, -, -⟩ := hb.form
  have hC1 := (CL.new w [.int .i64 a, .int .i64 b, .slice aa l.length ca] 41 _ rfl).gr (Gr.alloc (Gr.refl _) (.cells #[.int .i64 a, .int .i64 b, .slice ab l.length cb] 41))
  have hC2 := CL.new (w.alloc (.cells #[.int .i64 a, .int .i64 b, .slice aa l.length ca] 41)) [.int .i64 a, .int .i64 b, .slice ab l.length cb] 41 (w.heap.size + 1) (by simp)
  have hG := ((Gr.refl w).alloc (.cells #[.int .i64 a, .int .i64 b, .slice aa l.length ca] 41)).alloc (.cells #[.int .i64 a, .int .i64 b, .slice ab l.length cb] 41)
  have HA := Lib.hid ha
  have HB := Lib.hid hb
  have HLL := Lib.hid (show l.length ≤ 100000 by omega)
  obtain ⟨N, hN⟩ : ∃ N, N = l.length := ⟨_, rfl⟩
  rw [← hN] at HA HB hC1 hC2 hG ⊢
  clear ha hb hl hN
  go_enter Try.func27, Try.ntmps27
  go_upto_region 1 with fail
  generalize (w.alloc (.cells #[.int .i64 a, .int .i64 b, .slice aa N ca] 41)).alloc (.cells #[.int .i64 a, .int .i64 b, .slice ab N cb] 41) = w2 at hC1 hC2 hG ⊢
  generalize w.heap.size + 1 = g2 at hC2 ⊢
  generalize w.heap.size = g1 at hC1 ⊢
  obtain ⟨⟨x0, x1, x2⟩, -⟩ := hC1.three
  obtain ⟨⟨y0, y1, y2⟩, -⟩ := hC2.three
  go_wp2_with fail
  refine (rweq_c w2 (HA.out.gr hG) (HB.out.gr hG) HLL.out HLL.out true (by simp)).mono ?_
  rintro e w3 ⟨rfl, hg3⟩
  go_wp2_with fail
  go_ret
  exact ⟨rfl, hG.step hg3⟩
theorem same_tcp {p q : Nat → Prop} {va vb : Value} {l : List Nat} (a b c d e f : Nat) (w : World) (ha : Rb p w va l) (hb : Rb q w vb l) (hl : l.length ≤ 30000) :
    Calls Try.prog 28 #[.agg #[.int .i64 a, .int .i64 b, .int .i64 c, .int .i64 d, .int .i64 e, .int .i64 f, va], .agg #[.int .i64 a, .int .i64 b, .int .i64 c, .int .i64 d, .int .i64 e, .int .i64 f, vb]] w fun e w' => e = .returned (.bool true) ∧ Gr w w' := by
  obtain ⟨aa, ca, rfl, -, -⟩ := ha.form
  obtain ⟨ab, cb, rfl, -, -⟩ := hb.form
  have hC1 := (CL.new w [.int .i64 a, .int .i64 b, .int .i64 c, .int .i64 d, .int .i64 e, .int .i64 f, .slice aa l.length ca] 44 _ rfl).gr (Gr.alloc (Gr.refl _) (.cells #[.int .i64 a, .int .i64 b, .int .i64 c, .int .i64 d, .int .i64 e, .int .i64 f, .slice ab l.length cb] 44))
  have hC2 := CL.new (w.alloc (.cells #[.int .i64 a, .int .i64 b, .int .i64 c, .int .i64 d, .int .i64 e, .int .i64 f, .slice aa l.length ca] 44)) [.int .i64 a, .int .i64 b, .int .i64 c, .int .i64 d, .int .i64 e, .int .i64 f, .slice ab l.length cb] 44 (w.heap.size + 1) (by simp)
  have hG := ((Gr.refl w).alloc (.cells #[.int .i64 a, .int .i64 b, .int .i64 c, .int .i64 d, .int .i64 e, .int .i64 f, .slice aa l.length ca] 44)).alloc (.cells #[.int .i64 a, .int .i64 b, .int .i64 c, .int .i64 d, .int .i64 e, .int .i64 f, .slice ab l.length cb] 44)
  have HA := Lib.hid ha
  have HB := Lib.hid hb
  have HLL := Lib.hid (show l.length ≤ 100000 by omega)
  obtain ⟨N, hN⟩ : ∃ N, N = l.length := ⟨_, rfl⟩
  rw [← hN] at HA HB hC1 hC2 hG ⊢
  clear ha hb hl hN
  go_enter Try.func28, Try.ntmps28
  go_upto_region 1 with fail
  generalize (w.alloc (.cells #[.int .i64 a, .int .i64 b, .int .i64 c, .int .i64 d, .int .i64 e, .int .i64 f, .slice aa N ca] 44)).alloc (.cells #[.int .i64 a, .int .i64 b, .int .i64 c, .int .i64 d, .int .i64 e, .int .i64 f, .slice ab N cb] 44) = w2 at hC1 hC2 hG ⊢
  generalize w.heap.size + 1 = g2 at hC2 ⊢
  generalize w.heap.size = g1 at hC1 ⊢
  obtain ⟨⟨x0, x1, x2, x3, x4, x5, x6⟩, -⟩ := hC1.seven
  obtain ⟨⟨y0, y1, y2, y3, y4, y5, y6⟩, -⟩ := hC2.seven
  go_wp2_with fail
  refine (rweq_c w2 (HA.out.gr hG) (HB.out.gr hG) HLL.out HLL.out true (by simp)).mono ?_
  rintro e w3 ⟨rfl, hg3⟩
  go_wp2_with fail
  go_ret
  exact ⟨rfl, hG.step hg3⟩
theorem tawake_any (w : World) :
    Calls Try.prog 10 #[] w fun e w' => e = .returned (.bool true) ∧ Gr w w' := by
  have HE := Lib.hid (echo_ok false 1 1 w (Rb.nil (fun _ => True) w) (by decide) (by decide) (by simp))
  have HL : Hid (echoL false 1 1 [] = [8, 0, 247, 253, 0, 1, 0, 1]) := Lib.hid (by decide)
  rw [HL.out] at HE
  go_enter Try.func10, Try.ntmps10
  go_wp2_with fail
  refine HE.out.mono ?_
  rintro e w1 ⟨v1, rfl, ho, hg⟩
  have hr := ho.rb
  obtain ⟨a1, c1, rfl, -, -⟩ := hr.form
  obtain ⟨b2, o2, rfl, -, h2⟩ := hr.at' (i := 2) (by decide)
  obtain ⟨b3, o3, e3, -, h3⟩ := hr.at' (i := 3) (by decide)
  cases e3
  simp only [List.length_cons, List.length_nil, Nat.reduceAdd] at *
  have h2' : w1.cell? ⟨b2, o2 + 2, none⟩ = some (.int .u8 247) := h2
  have h3' : w1.cell? ⟨b2, o2 + 3, none⟩ = some (.int .u8 253) := h3
  clear h2 h3 HE ho hr
  go_wp2_with fail
  go_ret
  exact ⟨rfl, hg⟩
end Go.Proofs.Ytlkhdbgknkjioaa
