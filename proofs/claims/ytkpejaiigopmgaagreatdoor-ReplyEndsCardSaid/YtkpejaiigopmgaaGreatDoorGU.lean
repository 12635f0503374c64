/- Several texts in one. -/
import Derived.Test.YtkpejaiigopmgaaGreatDoorZeM
import Derived.Test.YtkpejaiigopmgaaGreatDoorGT
import Derived.Test.YtkpejaiigopmgaaGreatDoorGS
import Derived.WalkKit
import Derived.WalkSpells
import Derived.WalkLawsBesides
import Derived.WalkSmall
import Derived.Handy
import Derived.BigQuiet
import Derived.Deep.QuietTactic
import Derived.Deep.RegionHeld3
import Derived.Deep.DeepFit
import Derived.Below
import Derived.Lib.Hide
import Derived.Lib.QuietBelow
/- What a host answers to a probe, as the document says it. -/
namespace Go.Proofs.YtkpejaiigopmgaaGreatDoor
open Go Go.RowKit Go.Sort
set_option maxRecDepth 100000
set_option linter.unusedVariables false
set_option linter.unusedSimpArgs false
theorem dcEcho_vE {l : List Nat} (h : dcEcho l = 0) : 8 ≤ l.length ∧ gN l 1 1 = 0 ∧ vE s0 2 l = 0 := by
  unfold dcEcho at h
  split at h
  · omega
  · split at h
    · omega
    · exact ⟨by omega, by omega, h⟩
theorem dcUDP_vE {s d : Nat} {l : List Nat} (h : dcUDP s d l = 0) : 8 ≤ l.length ∧ gN l 4 2 = l.length ∧ vE (sU s d) 6 l = 0 := by
  unfold dcUDP at h
  split at h
  · omega
  · split at h
    · omega
    · exact ⟨by omega, by omega, h⟩
theorem dcTCP_vE {s d : Nat} {l : List Nat} (h : dcTCP s d l = 0) : 20 ≤ l.length ∧ gN l 12 1 = 80 ∧ gN l 18 2 = 0 ∧ vE (sP s d 6) 16 l = 0 := by
  unfold dcTCP at h
  split at h
  · omega
  · split at h
    · omega
    · exact ⟨by omega, by omega, by omega, h⟩
theorem recho_dec {p : Nat → Prop} {v : Value} {a b : Nat} {d : List Nat} (w : World) (hr : Rb p w v (echoL false a b d)) (ha : a < 65536) (hb : b < 65536) (hl : d.length ≤ 1472) :
    Calls Tryz.prog 37 #[v] w fun e w' => ∃ v', e = .returned (.tuple #[.agg #[.bool false, .int .i64 a, .int .i64 b, v'], .int .i64 0]) ∧ OwB w.heap.size w' v' d ∧ Gr w w' := by
  have h := echo_dc false ha hb hl
  have hv := dcEcho_vE h.1
  refine (rdecho_late false w hr hv.1 (by rw [echo_len]; omega) h.2.1 hv.2.1).mono fun e w' hc => ?_
  rcases hc with ⟨-, hc⟩ | ⟨hc, -⟩
  · rw [h.2.2.1, h.2.2.2.1, h.2.2.2.2] at hc
    exact hc
  · rw [hv.2.2] at hc; omega
theorem rudp_dec {p : Nat → Prop} {v : Value} {src dst sp dp : Nat} {d : List Nat} (w : World) (hr : Rb p w v (udpL src dst sp dp d)) (hs : src < 4294967296) (hd : dst < 4294967296) (ha : sp < 65536) (hb : dp < 65536) (hl : d.length ≤ 1472) :
    Calls Tryz.prog 40 #[.int .u32 src, .int .u32 dst, v] w fun e w' => ∃ v', e = .returned (.tuple #[.agg #[.int .i64 sp, .int .i64 dp, v'], .int .i64 0]) ∧ OwB w.heap.size w' v' d ∧ Gr w w' := by
  have h := udp_dc (src := src) (dst := dst) ha hb hl
  have hv := dcUDP_vE h.1
  refine (rdudp_late src dst w hr hs hd hv.1 (by rw [udp_len]; omega) hv.2.1).mono fun e w' hc => ?_
  rcases hc with ⟨-, hc⟩ | ⟨hc, -⟩
  · rw [h.2.1, h.2.2.1, h.2.2.2] at hc
    exact hc
  · rw [hv.2.2] at hc; omega
theorem rtcp_dec {p : Nat → Prop} {v : Value} {src dst sp dp sq ak fl wi : Nat} {d : List Nat} (w : World) (hr : Rb p w v (tcpL src dst sp dp sq ak fl wi d)) (hs : src < 4294967296) (hd : dst < 4294967296) (ha : sp < 65536) (hb : dp < 65536) (hq : sq < 4294967296) (hk : ak < 4294967296) (hf : fl < 256) (hw : wi < 65536) (hl : d.length ≤ 1460) :
    Calls Tryz.prog 41 #[.int .u32 src, .int .u32 dst, v] w fun e w' => ∃ v', e = .returned (.tuple #[.agg #[.int .i64 sp, .int .i64 dp, .int .i64 sq, .int .i64 ak, .int .i64 fl, .int .i64 wi, v'], .int .i64 0]) ∧ OwB w.heap.size w' v' d ∧ Gr w w' := by
  have h := tcp_dc (src := src) (dst := dst) ha hb hq hk hf hw hl
  have hv := dcTCP_vE h.1
  have hlen : (tcpL src dst sp dp sq ak fl wi d).length = 20 + d.length := tcp_len ..
  have h18 : gN (tcpL src dst sp dp sq ak fl wi d) 18 2 = gN (tcpL src dst sp dp sq ak fl wi d) 18 1 * 256 + gN (tcpL src dst sp dp sq ak fl wi d) 19 1 := gN_twoK (i := 18) (by omega)
  rw [hv.2.2.1] at h18
  refine (rdtcp_late src dst w hr hs hd hv.1 (by omega) hv.2.1 (by omega) (by omega) hv.2.2.1).mono fun e w' hc => ?_
  rcases hc with ⟨-, hc⟩ | ⟨hc, -⟩
  · rw [h.2.1, h.2.2.1, h.2.2.2.1, h.2.2.2.2.1, h.2.2.2.2.2.1, h.2.2.2.2.2.2.1, h.2.2.2.2.2.2.2] at hc
    exact hc
  · rw [hv.2.2.2] at hc; omega
set_option maxHeartbeats 2000000 in
theorem rrhost_icmp {p : Nat → Prop} {v : Value} (P : Pr) (frm id ttl : Nat) (w : World) (k : P.ok) (hr : Rb p w v P.pk) (hu : usb P.src) (hi : id ≤ 65535) (htt : ttl ≤ 255) (hf : frm < 4294967296) (hp : P.proto = 1) :
    Calls Tryz.prog 19 #[v, .int .u32 frm, .int .i64 id, .int .i64 ttl] w fun e w' => ∃ v', e = .returned (.tuple #[v', .int .i64 0]) ∧ OwB w.heap.size w' v' (hostL P frm id ttl) ∧ Gr w w' := by
  have AN := Lib.hid (ransw_yes w (Pr.hd_ok k) hr (by have := (Pr.data_at k).2.1; omega) (by have := (Pr.data_at k).1; omega) (by exact hu) (Pr.answ k))
  have htg := k.tag
  obtain ⟨D, hD⟩ : ∃ D, D = bput (icN P.tag P.flow) 2 := ⟨_, rfl⟩
  have hDl : D.length = 2 := by rw [hD, bput_len]
  have HDT := Lib.hid (Pr.data_icmp hp)
  unfold icL at HDT
  have HDC := Lib.hid (fun (w' : World) (v' : Value) (h : Rb (fun _ => True) w' v' P.data) => recho_dec (a := 21075) (b := P.tag) (d := D) w' (by rw [hD, ← HDT.out]; exact h) (by decide) (by omega) (by omega))
  have HEN := Lib.hid (fun (w' : World) (v' : Value) (h : Rb (fun _ => True) w' v' D) => recho_ok true 21075 P.tag w' h (by decide) (by omega) (by omega))
  have HPK := Lib.hid (fun (w' : World) (v' : Value) (h : Rb (fun _ => True) w' v' (echoL true 21075 P.tag D)) => rpacket_ok 1 id ttl frm P.src w' (ans_ok (by omega) hi htt hf k.src) h (by rw [echo_len]; omega))
  rw [hostL_icmp hp]
  unfold echL erD
  rw [← hD]
  have hl2 : (echoL true 21075 P.tag D).length = 10 := by rw [echo_len, hDl]
  generalize enc (ans 1 id ttl frm P.src) (echoL true 21075 P.tag D) = X at *
  generalize echoL true 21075 P.tag D = E1 at *
  obtain ⟨av, cv, rfl, -, -⟩ := hr.form
  generalize P.pk.length = N at *
  have d1 : ((P.proto : Int) == 1) = true := by rw [hp]; rfl
  have e21 : ((21075 : Nat) : Int) = 21075 := rfl
  unfold Hd.p pkV Pr.hd at AN
  simp only [show ((0 : Nat) : Int) = 0 from rfl] at AN
  rw [e21] at HDC HEN
  clear e21 hr hu hf hp k hD HDT htg
  have i0 : decide ((id : Int) < 0) = false := by rw [decide_eq_false_iff_not]; omega
  have i1 : decide ((65535 : Int) < (id : Int)) = false := by rw [decide_eq_false_iff_not]; omega
  have t0 : decide ((ttl : Int) < 0) = false := by rw [decide_eq_false_iff_not]; omega
  have t1 : decide ((255 : Int) < (ttl : Int)) = false := by rw [decide_eq_false_iff_not]; omega
  go_enter Tryz.func19, Tryz.ntmps19
  clear hi htt
  go_wp2_with fail
  refine (AN.out).mono ?_
  rintro e w3 ⟨v3, rfl, ho, hG⟩
  have hv := ho.rb.any
  obtain ⟨a3, c3, rfl, -, -⟩ := ho.rb.form
  generalize P.data.length = M at *
  have hP := CL.new w3 [.int .i64 0, .int .i64 P.tag, .int .i64 P.ttl, .int .i64 P.proto, .bool true, .int .u32 P.src, .int .u32 P.dst, .slice a3 M c3] 55 _ rfl
  have hg3 := Gr.alloc (Gr.refl w3) (.cells #[.int .i64 0, .int .i64 P.tag, .int .i64 P.ttl, .int .i64 P.proto, .bool true, .int .u32 P.src, .int .u32 P.dst, .slice a3 M c3] 55)
  simp only [List.toArray] at hP
  go_upto_region 6 with fail
  generalize w3.alloc (.cells #[.int .i64 0, .int .i64 P.tag, .int .i64 P.ttl, .int .i64 P.proto, .bool true, .int .u32 P.src, .int .u32 P.dst, .slice a3 M c3] 55) = w4 at hP hg3 ⊢
  generalize w3.heap.size = gp at hP ⊢
  replace hG := (hG.step hg3).step (Gr.drew (Gr.refl _))
  replace hv := (hv.gr hg3).gr (Gr.drew (Gr.refl _))
  have HP := Lib.hid (hP.gr (Gr.drew (Gr.refl w4)))
  clear hg3 ho hP
  refine region_plain (Gr w4.drew) (by kernel_rfl) ?_
  generalize w4.drew = w5 at HP hG hv ⊢
  have hS : Gr w5 w5 := Gr.refl _
  refine take_at 0 (some 46) (v := ?vi0) rfl rfl (by kernel_rfl) (by kernel_rfl) (by kernel_rfl) (by rfl) ?yi0 hS ?ti0
  case yi0 =>
    intro w' hSw
    obtain - := hSw
    go_simp
    (try with_reducible rfl)
  simp only [Act.put, List.setIfInBounds_toArray, List.set_cons_zero, List.set_cons_succ]
  refine take_at 1 (some 47) (v := ?vi1) rfl rfl (by kernel_rfl) (by kernel_rfl) (by kernel_rfl) (by rfl) ?yi1 hS ?ti1
  case yi1 =>
    intro w' hSw
    obtain - := hSw
    go_simp
    (try with_reducible rfl)
  simp only [Act.put, List.setIfInBounds_toArray, List.set_cons_zero, List.set_cons_succ]
  refine take_at 2 (some 48) (v := ?vi2) rfl rfl (by kernel_rfl) (by kernel_rfl) (by kernel_rfl) (by rfl) ?yi2 hS ?ti2
  case yi2 =>
    intro w' hSw
    obtain ⟨⟨y0, y1, y2, y3, y4, y5, y6, y7⟩, -⟩ := (HP.out.gr hSw).eight
    go_simp
    (try with_reducible rfl)
  simp only [Act.put, List.setIfInBounds_toArray, List.set_cons_zero, List.set_cons_succ]
  refine take_at 3 (some 49) (v := ?vi3) rfl rfl (by kernel_rfl) (by kernel_rfl) (by kernel_rfl) (by rfl) ?yi3 hS ?ti3
  case yi3 =>
    intro w' hSw
    obtain - := hSw
    go_simp
    (try with_reducible rfl)
  simp only [Act.put, List.setIfInBounds_toArray, List.set_cons_zero, List.set_cons_succ]
  refine take_at 4 (some 50) (v := ?vi4) rfl rfl (by kernel_rfl) (by kernel_rfl) (by kernel_rfl) (by rfl) ?yi4 hS ?ti4
  case yi4 =>
    intro w' hSw
    obtain - := hSw
    go_simp
    (try with_reducible rfl)
  simp only [Act.put, List.setIfInBounds_toArray, List.set_cons_zero, List.set_cons_succ]
  refine take_at 5 (some 51) (v := ?vi5) rfl rfl (by kernel_rfl) (by kernel_rfl) (by kernel_rfl) (by rfl) ?yi5 hS ?ti5
  case yi5 =>
    intro w' hSw
    obtain ⟨⟨y0, y1, y2, y3, y4, y5, y6, y7⟩, -⟩ := (HP.out.gr hSw).eight
    go_simp
    (try with_reducible rfl)
  simp only [Act.put, List.setIfInBounds_toArray, List.set_cons_zero, List.set_cons_succ]
  refine take_at 6 (some 12) (v := ?vi6) rfl rfl (by kernel_rfl) (by kernel_rfl) (by kernel_rfl) (by rfl) ?yi6 hS ?ti6
  case yi6 =>
    intro w' hSw
    obtain - := hSw
    go_simp
    (try with_reducible rfl)
  simp only [Act.put, List.setIfInBounds_toArray, List.set_cons_zero, List.set_cons_succ]
  refine take_at 7 (some 13) (v := ?vi7) rfl rfl (by kernel_rfl) (by kernel_rfl) (by kernel_rfl) (by rfl) ?yi7 hS ?ti7
  case yi7 =>
    intro w' hSw
    obtain - := hSw
    go_simp
    (try with_reducible rfl)
  simp only [Act.put, List.setIfInBounds_toArray, List.set_cons_zero, List.set_cons_succ]
  refine wpAnyH_done (by kernel_rfl) ?_ _
  refine qz_normal ?_
  clear hS
  obtain ⟨⟨y0, y1, y2, y3, y4, y5, y6, y7⟩, -⟩ := HP.out.eight
  go_wp2_with fail
  refine (HDC.out _ _ hv).mono ?_
  rintro e w6 ⟨v6, rfl, ho, hg⟩
  replace hG := hG.step hg
  have hC := CL.new w6 [.bool false, .int .i64 21075, .int .i64 P.tag, v6] 74 _ rfl
  obtain ⟨a6, c6, rfl, -, -⟩ := ho.rb.form
  rw [hDl] at hC ⊢
  have hv6 := ho.rb
  rw [hDl] at hv6
  have hg3 := Gr.alloc (Gr.refl w6) (.cells #[.bool false, .int .i64 21075, .int .i64 P.tag, .slice a6 2 c6] 74)
  simp only [List.toArray] at hC
  clear y0 y1 y2 y3 y4 y5 y6 y7 HDC hg
  have hge := Gr.size hG
  replace hv6 := hv6.imp (q := fun b => b ≠ w6.heap.size) (fun b hb _ => by omega)
  replace hv6 := hv6.gr hg3
  replace hG := hG.step hg3
  clear ho hg3
  go_upto_region 10 with fail
  generalize w6.alloc (.cells #[.bool false, .int .i64 21075, .int .i64 P.tag, .slice a6 2 c6] 74) = w7 at hC hG hv6 ⊢
  generalize w6.heap.size = ge at hC hge hv6 ⊢
  obtain ⟨⟨x0, x1, x2, x3⟩, u0, u1, u2, u3⟩ := CL.four hC
  go_upto_region 12 with fail
  clear x0 x1 x2 x3 u0 u1 u2 u3
  replace hC := hC.set 0 (.bool true) (by simp)
  have hv7 := (hv6.ex (Ex.set (Ex.refl ge w7) 0 (.bool true)) (fun b hb => hb)).any
  replace hG := hG.setCell (p := ⟨ge, 0, none⟩) hge (.bool true)
  simp only [List.set_cons_succ, List.set_cons_zero] at hC
  generalize w7.setCell ⟨ge, 0, none⟩ (.bool true) = w8 at hC hG hv7 ⊢
  obtain ⟨⟨x0, x1, x2, x3⟩, -⟩ := CL.four hC
  go_wp2_with fail
  refine (HEN.out _ _ hv7).mono ?_
  rintro e w9 ⟨v9, rfl, ho, hg⟩
  replace hG := hG.step hg
  have HX := Lib.hid (HPK.out w9 v9 ho.rb.any)
  obtain ⟨a9, c9, rfl, -, -⟩ := ho.rb.form
  rw [hl2] at HX ⊢
  clear x0 x1 x2 x3 hC ho hg HEN HPK
  go_wp2_with fail
  refine HX.out.mono ?_
  rintro e w9 ⟨v9, rfl, ho, hg⟩
  replace ho := ho.base (Gr.size hG)
  replace hG := hG.step hg
  go_wp2_with fail
  go_ret2
  exact ⟨_, rfl, ho, hG⟩
end Go.Proofs.YtkpejaiigopmgaaGreatDoor
/- What a host answers to a probe, as the document says it: datagrams, segments and others. -/
namespace Go.Proofs.YtkpejaiigopmgaaGreatDoor
open Go Go.RowKit Go.Sort
set_option maxRecDepth 100000
set_option linter.unusedVariables false
set_option linter.unusedSimpArgs false
set_option maxHeartbeats 2000000 in
theorem rrhost_udp {p : Nat → Prop} {v : Value} (P : Pr) (frm id ttl : Nat) (w : World) (k : P.ok) (hr : Rb p w v P.pk) (hu : usb P.src) (hi : id ≤ 65535) (htt : ttl ≤ 255) (hf : frm < 4294967296) (hp : P.proto = 17) :
    Calls Tryz.prog 19 #[v, .int .u32 frm, .int .i64 id, .int .i64 ttl] w fun e w' => ∃ v', e = .returned (.tuple #[v', .int .i64 0]) ∧ OwB w.heap.size w' v' (hostL P frm id ttl) ∧ Gr w w' := by
  have AN := Lib.hid (ransw_yes w (Pr.hd_ok k) hr (by have := (Pr.data_at k).2.1; omega) (by have := (Pr.data_at k).1; omega) (by exact hu) (Pr.answ k))
  have hfl := k.flow
  have HDT := Lib.hid (Pr.data_udp hp)
  unfold udL at HDT
  obtain ⟨D, hD⟩ : ∃ D, D = bput (udN P.src P.dst P.flow P.tag) 2 := ⟨_, rfl⟩
  have hDl : D.length = 2 := by rw [hD, bput_len]
  have HDC := Lib.hid (fun (w' : World) (v' : Value) (h : Rb (fun _ => True) w' v' P.data) => rudp_dec (src := P.src) (dst := P.dst) (sp := 20000 + P.flow) (dp := 33434) (d := D) w' (by rw [hD, ← HDT.out]; exact h) k.src k.dst (by omega) (by decide) (by omega))
  have HEC := Lib.hid (fun (w' : World) (g : Gr w w') => (show Calls Tryz.prog 20 #[v, .int .u32 frm, .int .i64 3, .int .i64 3, .int .i64 id, .int .i64 ttl] w' fun e w'' => ∃ v', e = .returned (.tuple #[v', .int .i64 0]) ∧ OwB w'.heap.size w'' v' (errL P frm 3 3 id ttl) ∧ Gr w' w'' from
    rrerr_ok (h := P.hd) (d := P.data) frm 3 3 id ttl w' (Pr.hd_ok k) (hr.gr g) (by have := (Pr.data_at k).2.1; omega) (by have := (Pr.data_at k).1; omega) hu (Pr.answ k) (ans_ok (by omega) hi htt hf k.src) (.inl rfl) (by decide)))
  rw [hostL_udp hp]
  generalize errL P frm 3 3 id ttl = X at *
  generalize 20000 + P.flow = SP at *
  generalize (33434 : Nat) = DP at *
  obtain ⟨av, cv, rfl, -, -⟩ := hr.form
  generalize P.pk.length = N at *
  have d1 : ((P.proto : Int) == 1) = false := by rw [hp]; rfl
  have d2 : ((P.proto : Int) == 17) = true := by rw [hp]; rfl
  unfold Hd.p pkV Pr.hd at AN
  simp only [show ((0 : Nat) : Int) = 0 from rfl] at AN
  clear hr hu hf hp k hD HDT hfl
  have i0 : decide ((id : Int) < 0) = false := by rw [decide_eq_false_iff_not]; omega
  have i1 : decide ((65535 : Int) < (id : Int)) = false := by rw [decide_eq_false_iff_not]; omega
  have t0 : decide ((ttl : Int) < 0) = false := by rw [decide_eq_false_iff_not]; omega
  have t1 : decide ((255 : Int) < (ttl : Int)) = false := by rw [decide_eq_false_iff_not]; omega
  go_enter Tryz.func19, Tryz.ntmps19
  clear hi htt
  go_wp2_with fail
  refine (AN.out).mono ?_
  rintro e w3 ⟨v3, rfl, ho, hG⟩
  have hv := ho.rb.any
  obtain ⟨a3, c3, rfl, -, -⟩ := ho.rb.form
  generalize P.data.length = M at *
  have hP := CL.new w3 [.int .i64 0, .int .i64 P.tag, .int .i64 P.ttl, .int .i64 P.proto, .bool true, .int .u32 P.src, .int .u32 P.dst, .slice a3 M c3] 55 _ rfl
  have hg3 := Gr.alloc (Gr.refl w3) (.cells #[.int .i64 0, .int .i64 P.tag, .int .i64 P.ttl, .int .i64 P.proto, .bool true, .int .u32 P.src, .int .u32 P.dst, .slice a3 M c3] 55)
  simp only [List.toArray] at hP
  go_upto_region 6 with fail
  generalize w3.alloc (.cells #[.int .i64 0, .int .i64 P.tag, .int .i64 P.ttl, .int .i64 P.proto, .bool true, .int .u32 P.src, .int .u32 P.dst, .slice a3 M c3] 55) = w4 at hP hg3 ⊢
  generalize w3.heap.size = gp at hP ⊢
  replace hG := (hG.step hg3).step (Gr.drew (Gr.refl _))
  replace hv := (hv.gr hg3).gr (Gr.drew (Gr.refl _))
  have HP := Lib.hid (hP.gr (Gr.drew (Gr.refl w4)))
  clear hg3 ho hP
  refine region_plain (Gr w4.drew) (by kernel_rfl) ?_
  generalize w4.drew = w5 at HP hG hv ⊢
  have hS : Gr w5 w5 := Gr.refl _
  refine take_at 0 (some 46) (v := ?vu0) rfl rfl (by kernel_rfl) (by kernel_rfl) (by kernel_rfl) (by rfl) ?yu0 hS ?tu0
  case yu0 =>
    intro w' hSw
    obtain - := hSw
    go_simp
    (try with_reducible rfl)
  simp only [Act.put, List.setIfInBounds_toArray, List.set_cons_zero, List.set_cons_succ]
  refine take_at 1 (some 47) (v := ?vu1) rfl rfl (by kernel_rfl) (by kernel_rfl) (by kernel_rfl) (by rfl) ?yu1 hS ?tu1
  case yu1 =>
    intro w' hSw
    obtain - := hSw
    go_simp
    (try with_reducible rfl)
  simp only [Act.put, List.setIfInBounds_toArray, List.set_cons_zero, List.set_cons_succ]
  refine take_at 2 (some 48) (v := ?vu2) rfl rfl (by kernel_rfl) (by kernel_rfl) (by kernel_rfl) (by rfl) ?yu2 hS ?tu2
  case yu2 =>
    intro w' hSw
    obtain ⟨⟨y0, y1, y2, y3, y4, y5, y6, y7⟩, -⟩ := (HP.out.gr hSw).eight
    go_simp
    (try with_reducible rfl)
  simp only [Act.put, List.setIfInBounds_toArray, List.set_cons_zero, List.set_cons_succ]
  refine take_at 3 (some 49) (v := ?vu3) rfl rfl (by kernel_rfl) (by kernel_rfl) (by kernel_rfl) (by rfl) ?yu3 hS ?tu3
  case yu3 =>
    intro w' hSw
    obtain - := hSw
    go_simp
    (try with_reducible rfl)
  simp only [Act.put, List.setIfInBounds_toArray, List.set_cons_zero, List.set_cons_succ]
  refine take_at 4 (some 50) (v := ?vu4) rfl rfl (by kernel_rfl) (by kernel_rfl) (by kernel_rfl) (by rfl) ?yu4 hS ?tu4
  case yu4 =>
    intro w' hSw
    obtain - := hSw
    go_simp
    (try with_reducible rfl)
  simp only [Act.put, List.setIfInBounds_toArray, List.set_cons_zero, List.set_cons_succ]
  refine take_at 5 (some 51) (v := ?vu5) rfl rfl (by kernel_rfl) (by kernel_rfl) (by kernel_rfl) (by rfl) ?yu5 hS ?tu5
  case yu5 =>
    intro w' hSw
    obtain ⟨⟨y0, y1, y2, y3, y4, y5, y6, y7⟩, -⟩ := (HP.out.gr hSw).eight
    go_simp
    (try with_reducible rfl)
  simp only [Act.put, List.setIfInBounds_toArray, List.set_cons_zero, List.set_cons_succ]
  refine take_at 6 (some 12) (v := ?vu6) rfl rfl (by kernel_rfl) (by kernel_rfl) (by kernel_rfl) (by rfl) ?yu6 hS ?tu6
  case yu6 =>
    intro w' hSw
    obtain - := hSw
    go_simp
    (try with_reducible rfl)
  simp only [Act.put, List.setIfInBounds_toArray, List.set_cons_zero, List.set_cons_succ]
  refine take_at 7 (some 13) (v := ?vu7) rfl rfl (by kernel_rfl) (by kernel_rfl) (by kernel_rfl) (by rfl) ?yu7 hS ?tu7
  case yu7 =>
    intro w' hSw
    obtain - := hSw
    go_simp
    (try with_reducible rfl)
  simp only [Act.put, List.setIfInBounds_toArray, List.set_cons_zero, List.set_cons_succ]
  refine wpAnyH_done (by kernel_rfl) ?_ _
  refine qz_normal ?_
  clear hS
  obtain ⟨⟨y0, y1, y2, y3, y4, y5, y6, y7⟩, -⟩ := HP.out.eight
  go_wp2_with fail
  refine (HDC.out _ _ hv).mono ?_
  rintro e w6 ⟨v6, rfl, ho, hg⟩
  replace hG := hG.step hg
  obtain ⟨a6, c6, rfl, -, -⟩ := ho.rb.form
  rw [hDl]
  have hg3 := Gr.alloc (Gr.refl w6) (.cells #[.int .i64 SP, .int .i64 DP, .slice a6 2 c6] 60)
  replace hG := hG.step hg3
  clear y0 y1 y2 y3 y4 y5 y6 y7 HDC hg ho hg3 hv HP
  go_wp2_with fail
  refine (HEC.out _ hG).mono ?_
  rintro e w9 ⟨v9, rfl, ho, hg⟩
  replace ho := ho.base (Gr.size hG)
  replace hG := hG.step hg
  go_wp2_with fail
  go_ret2
  exact ⟨_, rfl, ho, hG⟩
set_option maxHeartbeats 2000000 in
theorem rrhost_tcp {p : Nat → Prop} {v : Value} (P : Pr) (frm id ttl : Nat) (w : World) (k : P.ok) (hr : Rb p w v P.pk) (hu : usb P.src) (hi : id ≤ 65535) (htt : ttl ≤ 255) (hf : frm < 4294967296) (hp : P.proto = 6) :
    Calls Tryz.prog 19 #[v, .int .u32 frm, .int .i64 id, .int .i64 ttl] w fun e w' => ∃ v', e = .returned (.tuple #[v', .int .i64 0]) ∧ OwB w.heap.size w' v' (hostL P frm id ttl) ∧ Gr w w' := by
  have AN := Lib.hid (ransw_yes w (Pr.hd_ok k) hr (by have := (Pr.data_at k).2.1; omega) (by have := (Pr.data_at k).1; omega) (by exact hu) (Pr.answ k))
  have hfl := k.flow
  have htg := k.tag
  have HDT := Lib.hid (Pr.data_tcp hp)
  unfold tcL at HDT
  have HDC := Lib.hid (fun (w' : World) (v' : Value) (h : Rb (fun _ => True) w' v' P.data) => rtcp_dec (src := P.src) (dst := P.dst) (sp := 20000 + P.flow) (dp := 80) (sq := P.tag) (ak := 0) (fl := 2) (wi := 1024) (d := []) w' (by rw [← HDT.out]; exact h) k.src k.dst (by omega) (by decide) (by omega) (by decide) (by decide) (by decide) (by simp))
  have HEN := Lib.hid (fun (w' : World) => rtcp_ok frm P.src 80 (20000 + P.flow) 0 (P.tag + 1) 20 0 w' (Rb.nil (fun _ => True) w') hf k.src (by decide) (by omega) (by decide) (by omega) (by decide) (by decide) (by simp))
  have HPK := Lib.hid (fun (w' : World) (v' : Value) (h : Rb (fun _ => True) w' v' (rsD P frm)) => rpacket_ok 6 id ttl frm P.src w' (ans_ok (by omega) hi htt hf k.src) h (by rw [rs_len]; omega))
  rw [show tcpL frm P.src 80 (20000 + P.flow) 0 (P.tag + 1) 20 0 [] = rsD P frm from rfl] at HEN
  rw [hostL_tcp hp]
  unfold rstL
  have hl2 : (rsD P frm).length = 20 := rs_len P frm
  generalize enc (ans 6 id ttl frm P.src) (rsD P frm) = X at *
  generalize rsD P frm = E1 at *
  generalize 20000 + P.flow = SP at *
  obtain ⟨K, hK⟩ : ∃ K, K = P.tag + 1 := ⟨_, rfl⟩
  rw [← hK] at HEN
  have e1 : (P.tag : Int) + 1 = (K : Int) := by omega
  have e2 : IntKind.i64.wrap (K : Int) = (K : Int) := by rw [IntWalk.i64_in _ (by omega)]
  have e3 : (K : Int).tmod 4294967296 = (K : Int) := by rw [Int.tmod_eq_emod_of_nonneg (by omega)]; omega
  have e4 : (K : Int) % 4294967296 = (K : Int) := by omega
  have e5 : (bits .and .i64 2 2 != 0) = true := by decide
  have e6 : (bits .and .i64 2 4 == 0) = true := by decide
  obtain ⟨av, cv, rfl, -, -⟩ := hr.form
  generalize P.pk.length = N at *
  have d1 : ((P.proto : Int) == 1) = false := by rw [hp]; rfl
  have d2 : ((P.proto : Int) == 17) = false := by rw [hp]; rfl
  have d3 : ((P.proto : Int) == 6) = true := by rw [hp]; rfl
  unfold Hd.p pkV Pr.hd at AN
  simp only [show ((0 : Nat) : Int) = 0 from rfl] at AN
  simp only [show ((0 : Nat) : Int) = 0 from rfl, show ((80 : Nat) : Int) = 80 from rfl, show ((2 : Nat) : Int) = 2 from rfl, show ((20 : Nat) : Int) = 20 from rfl, show ((1024 : Nat) : Int) = 1024 from rfl] at HDC HEN
  clear hr hu hf hp k HDT hfl htg hK
  have i0 : decide ((id : Int) < 0) = false := by rw [decide_eq_false_iff_not]; omega
  have i1 : decide ((65535 : Int) < (id : Int)) = false := by rw [decide_eq_false_iff_not]; omega
  have t0 : decide ((ttl : Int) < 0) = false := by rw [decide_eq_false_iff_not]; omega
  have t1 : decide ((255 : Int) < (ttl : Int)) = false := by rw [decide_eq_false_iff_not]; omega
  go_enter Tryz.func19, Tryz.ntmps19
  clear hi htt
  go_wp2_with fail
  refine (AN.out).mono ?_
  rintro e w3 ⟨v3, rfl, ho, hG⟩
  have hv := ho.rb.any
  obtain ⟨a3, c3, rfl, -, -⟩ := ho.rb.form
  generalize P.data.length = M at *
  have hP := CL.new w3 [.int .i64 0, .int .i64 P.tag, .int .i64 P.ttl, .int .i64 P.proto, .bool true, .int .u32 P.src, .int .u32 P.dst, .slice a3 M c3] 55 _ rfl
  have hg3 := Gr.alloc (Gr.refl w3) (.cells #[.int .i64 0, .int .i64 P.tag, .int .i64 P.ttl, .int .i64 P.proto, .bool true, .int .u32 P.src, .int .u32 P.dst, .slice a3 M c3] 55)
  simp only [List.toArray] at hP
  go_upto_region 6 with fail
  generalize w3.alloc (.cells #[.int .i64 0, .int .i64 P.tag, .int .i64 P.ttl, .int .i64 P.proto, .bool true, .int .u32 P.src, .int .u32 P.dst, .slice a3 M c3] 55) = w4 at hP hg3 ⊢
  generalize w3.heap.size = gp at hP ⊢
  replace hG := (hG.step hg3).step (Gr.drew (Gr.refl _))
  replace hv := (hv.gr hg3).gr (Gr.drew (Gr.refl _))
  have HP := Lib.hid (hP.gr (Gr.drew (Gr.refl w4)))
  clear hg3 ho hP
  refine region_plain (Gr w4.drew) (by kernel_rfl) ?_
  generalize w4.drew = w5 at HP hG hv ⊢
  have hS : Gr w5 w5 := Gr.refl _
  refine take_at 0 (some 46) (v := ?vt0) rfl rfl (by kernel_rfl) (by kernel_rfl) (by kernel_rfl) (by rfl) ?yt0 hS ?tt0
  case yt0 =>
    intro w' hSw
    obtain - := hSw
    go_simp
    (try with_reducible rfl)
  simp only [Act.put, List.setIfInBounds_toArray, List.set_cons_zero, List.set_cons_succ]
  refine take_at 1 (some 47) (v := ?vt1) rfl rfl (by kernel_rfl) (by kernel_rfl) (by kernel_rfl) (by rfl) ?yt1 hS ?tt1
  case yt1 =>
    intro w' hSw
    obtain - := hSw
    go_simp
    (try with_reducible rfl)
  simp only [Act.put, List.setIfInBounds_toArray, List.set_cons_zero, List.set_cons_succ]
  refine take_at 2 (some 48) (v := ?vt2) rfl rfl (by kernel_rfl) (by kernel_rfl) (by kernel_rfl) (by rfl) ?yt2 hS ?tt2
  case yt2 =>
    intro w' hSw
    obtain ⟨⟨y0, y1, y2, y3, y4, y5, y6, y7⟩, -⟩ := (HP.out.gr hSw).eight
    go_simp
    (try with_reducible rfl)
  simp only [Act.put, List.setIfInBounds_toArray, List.set_cons_zero, List.set_cons_succ]
  refine take_at 3 (some 49) (v := ?vt3) rfl rfl (by kernel_rfl) (by kernel_rfl) (by kernel_rfl) (by rfl) ?yt3 hS ?tt3
  case yt3 =>
    intro w' hSw
    obtain - := hSw
    go_simp
    (try with_reducible rfl)
  simp only [Act.put, List.setIfInBounds_toArray, List.set_cons_zero, List.set_cons_succ]
  refine take_at 4 (some 50) (v := ?vt4) rfl rfl (by kernel_rfl) (by kernel_rfl) (by kernel_rfl) (by rfl) ?yt4 hS ?tt4
  case yt4 =>
    intro w' hSw
    obtain - := hSw
    go_simp
    (try with_reducible rfl)
  simp only [Act.put, List.setIfInBounds_toArray, List.set_cons_zero, List.set_cons_succ]
  refine take_at 5 (some 51) (v := ?vt5) rfl rfl (by kernel_rfl) (by kernel_rfl) (by kernel_rfl) (by rfl) ?yt5 hS ?tt5
  case yt5 =>
    intro w' hSw
    obtain ⟨⟨y0, y1, y2, y3, y4, y5, y6, y7⟩, -⟩ := (HP.out.gr hSw).eight
    go_simp
    (try with_reducible rfl)
  simp only [Act.put, List.setIfInBounds_toArray, List.set_cons_zero, List.set_cons_succ]
  refine take_at 6 (some 12) (v := ?vt6) rfl rfl (by kernel_rfl) (by kernel_rfl) (by kernel_rfl) (by rfl) ?yt6 hS ?tt6
  case yt6 =>
    intro w' hSw
    obtain - := hSw
    go_simp
    (try with_reducible rfl)
  simp only [Act.put, List.setIfInBounds_toArray, List.set_cons_zero, List.set_cons_succ]
  refine take_at 7 (some 13) (v := ?vt7) rfl rfl (by kernel_rfl) (by kernel_rfl) (by kernel_rfl) (by rfl) ?yt7 hS ?tt7
  case yt7 =>
    intro w' hSw
    obtain - := hSw
    go_simp
    (try with_reducible rfl)
  simp only [Act.put, List.setIfInBounds_toArray, List.set_cons_zero, List.set_cons_succ]
  refine wpAnyH_done (by kernel_rfl) ?_ _
  refine qz_normal ?_
  clear hS
  obtain ⟨⟨y0, y1, y2, y3, y4, y5, y6, y7⟩, -⟩ := HP.out.eight
  go_wp2_with fail
  refine (HDC.out _ _ hv).mono ?_
  rintro e w6 ⟨v6, rfl, ho, hg⟩
  replace hG := hG.step hg
  obtain ⟨a6, c6, rfl, -, -⟩ := ho.rb.form
  simp only [List.length_nil]
  have hC := CL.new w6 [.int .i64 SP, .int .i64 80, .int .i64 P.tag, .int .i64 0, .int .i64 2, .int .i64 1024, .slice a6 0 c6] 80 _ rfl
  have hg3 := Gr.alloc (Gr.refl w6) (.cells #[.int .i64 SP, .int .i64 80, .int .i64 P.tag, .int .i64 0, .int .i64 2, .int .i64 1024, .slice a6 0 c6] 80)
  simp only [List.toArray] at hC
  replace hG := hG.step hg3
  clear y0 y1 y2 y3 y4 y5 y6 y7 HDC hg ho hg3 hv HP
  go_upto_region 20 with fail
  generalize w6.alloc (.cells #[.int .i64 SP, .int .i64 80, .int .i64 P.tag, .int .i64 0, .int .i64 2, .int .i64 1024, .slice a6 0 c6] 80) = w7 at hC hG ⊢
  generalize w6.heap.size = ge at hC ⊢
  obtain ⟨⟨x0, x1, x2, x3, x4, x5, x6⟩, -⟩ := hC.seven
  have hD := CL.new w7 [.int .i64 80, .int .i64 SP, .int .i64 0, .int .i64 K, .int .i64 20, .int .i64 0, .slice none 0 0] 80 _ rfl
  have hg3 := Gr.alloc (Gr.refl w7) (.cells #[.int .i64 80, .int .i64 SP, .int .i64 0, .int .i64 K, .int .i64 20, .int .i64 0, .slice none 0 0] 80)
  simp only [List.toArray] at hD
  go_upto_region 22 with fail
  clear x0 x1 x2 x3 x4 x5 x6 hC
  generalize w7.alloc (.cells #[.int .i64 80, .int .i64 SP, .int .i64 0, .int .i64 K, .int .i64 20, .int .i64 0, .slice none 0 0] 80) = w8 at hD hg3 ⊢
  generalize w7.heap.size = gd at hD ⊢
  replace hG := hG.step hg3
  clear hg3
  obtain ⟨⟨x0, x1, x2, x3, x4, x5, x6⟩, -⟩ := hD.seven
  go_wp2_with fail
  refine (HEN.out _).mono ?_
  rintro e w9 ⟨v9, rfl, ho, hg⟩
  replace hG := hG.step hg
  have HX := Lib.hid (HPK.out w9 v9 ho.rb.any)
  obtain ⟨a9, c9, rfl, -, -⟩ := ho.rb.form
  rw [hl2] at HX ⊢
  clear x0 x1 x2 x3 x4 x5 x6 hD ho hg HEN HPK
  go_wp2_with fail
  refine HX.out.mono ?_
  rintro e w9 ⟨v9, rfl, ho, hg⟩
  replace ho := ho.base (Gr.size hG)
  replace hG := hG.step hg
  go_wp2_with fail
  go_ret2
  exact ⟨_, rfl, ho, hG⟩
set_option maxHeartbeats 1000000 in
theorem rrhost_no {p : Nat → Prop} {v : Value} {l : List Nat} (frm id ttl : Nat) (w : World) (hr : Rb p w v l) (AN0 : Calls Tryz.prog 36 #[v] w fun e w'' => e = .returned (.tuple #[pkZ, .bool false]) ∧ Gr w w'') (hi : id ≤ 65535) (htt : ttl ≤ 255) :
    Calls Tryz.prog 19 #[v, .int .u32 frm, .int .i64 id, .int .i64 ttl] w fun e w' => e = .returned (.tuple #[.slice none 0 0, .int .i64 17]) ∧ Gr w w' := by
  have AN := Lib.hid AN0
  obtain ⟨av, cv, rfl, hcap, hmx⟩ := hr.form
  generalize l.length = N at *
  clear hr AN0
  have i0 : decide ((id : Int) < 0) = false := by rw [decide_eq_false_iff_not]; omega
  have i1 : decide ((65535 : Int) < (id : Int)) = false := by rw [decide_eq_false_iff_not]; omega
  have t0 : decide ((ttl : Int) < 0) = false := by rw [decide_eq_false_iff_not]; omega
  have t1 : decide ((255 : Int) < (ttl : Int)) = false := by rw [decide_eq_false_iff_not]; omega
  go_enter Tryz.func19, Tryz.ntmps19
  clear hi htt
  go_wp2_with fail
  refine (AN.out).mono ?_
  rintro e w3 ⟨rfl, hg⟩
  unfold pkZ pkV
  have hg3 := Gr.alloc (Gr.refl w3) (.cells #[.int .i64 0, .int .i64 0, .int .i64 0, .int .i64 0, .bool false, .int .u32 0, .int .u32 0, .slice none 0 0] 55)
  replace hg := hg.step hg3
  go_wp2_with fail
  go_ret2
  exact ⟨rfl, hg⟩
theorem rrhost_ok {p : Nat → Prop} {v : Value} (P : Pr) (frm id ttl : Nat) (w : World) (k : P.ok) (hr : Rb p w v P.pk) (hu : usb P.src) (hi : id ≤ 65535) (htt : ttl ≤ 255) (hf : frm < 4294967296) :
    Calls Tryz.prog 19 #[v, .int .u32 frm, .int .i64 id, .int .i64 ttl] w fun e w' => ∃ v', e = .returned (.tuple #[v', .int .i64 0]) ∧ OwB w.heap.size w' v' (hostL P frm id ttl) ∧ Gr w w' := by
  rcases k.proto with h | h | h
  · exact rrhost_icmp P frm id ttl w k hr hu hi htt hf h
  · exact rrhost_udp P frm id ttl w k hr hu hi htt hf h
  · exact rrhost_tcp P frm id ttl w k hr hu hi htt hf h
end Go.Proofs.YtkpejaiigopmgaaGreatDoor
