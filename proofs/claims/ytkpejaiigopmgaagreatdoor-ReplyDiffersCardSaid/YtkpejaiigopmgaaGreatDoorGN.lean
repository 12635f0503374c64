/- Several texts in one. -/
import Derived.Test.YtkpejaiigopmgaaGreatDoorUcM
import Derived.WalkKit
import Derived.WalkSpells
import Derived.WalkLawsBesides
import Derived.WalkSmall
import Derived.Handy
import Derived.BigQuiet
import Derived.Deep.QuietTactic
import Derived.Deep.RegionHeld3
import Derived.Deep.DeepFit
import Derived.Below
import Derived.Lib.Hide
import Derived.Lib.QuietBelow
/- Probes: the data that balances a checksum, and the packet of a probe. -/
namespace Go.Proofs.YtkpejaiigopmgaaGreatDoor
open Go Go.RowKit Go.Sort
set_option maxRecDepth 100000
set_option linter.unusedVariables false
set_option linter.unusedSimpArgs false
def Pr.vs (p : Pr) : List Value := [.int .u32 p.src, .int .u32 p.dst, .int .i64 p.proto, .int .i64 p.flow, .int .i64 p.tag, .int .i64 p.ttl]
theorem rb_zz (w : World) : Rb (fun _ => True) (w.alloc (.cells #[.int .u8 0, .int .u8 0] 5)) (.slice (some ⟨w.heap.size, 0, none⟩) 2 2) (bput 0 2) := by
  have h : OwB w.heap.size (w.alloc (.cells (cellsB (bput 0 2)).toArray 5)) (.slice (some ⟨w.heap.size, 0, none⟩) (bput 0 2).length (bput 0 2).length) (bput 0 2) :=
    ⟨World.ownsRow_lit w (cellsB (bput 0 2)).toArray (bput 0 2).length (Nat.le_refl _) (by unfold maxLen; decide) (by simp [cellsB_len]), bput_lt _ _⟩
  exact h.rb.any
theorem dat_echo {p : Nat → Prop} {v : Value} {d : List Nat} (g : Nat) (P : Pr) (w : World) (hC : CL w g P.vs) (k : P.ok) (hr : Rb p w v d) (hl : d.length = 2) :
    Calls Tryz.prog 107 #[v, .pointer (some ⟨g, 0, none⟩)] w fun e w' => ∃ v', e = .returned v' ∧ OwB w.heap.size w' v' (echoL false 21075 P.tag d) ∧ Gr w w' := by
  have HE := Lib.hid (echo_ok false 21075 P.tag w hr (by decide) (by have := k.tag; omega) (by omega))
  obtain ⟨⟨x0, x1, x2, x3, x4, x5⟩, -⟩ := CL.six hC
  obtain ⟨av, cv, rfl, -, -⟩ := hr.form
  clear hr hl k hC
  go_enter Tryz.func107, Tryz.ntmps107
  go_wp2_with fail
  refine HE.out.mono ?_
  rintro e w1 ⟨v1, rfl, ho, hg⟩
  go_wp2_with fail
  go_ret
  exact ⟨_, rfl, ho, hg⟩
theorem dat_udp {p : Nat → Prop} {v : Value} {d : List Nat} (g : Nat) (P : Pr) (w : World) (hC : CL w g P.vs) (k : P.ok) (hr : Rb p w v d) (hl : d.length = 2) :
    Calls Tryz.prog 108 #[v, .pointer (some ⟨g, 0, none⟩)] w fun e w' => ∃ v', e = .returned v' ∧ OwB w.heap.size w' v' (udpL P.src P.dst (20000 + P.flow) 33434 d) ∧ Gr w w' := by
  obtain ⟨S, hS⟩ : ∃ S, S = 20000 + P.flow := ⟨_, rfl⟩
  rw [← hS]
  have hf := k.flow
  have HE := Lib.hid (udp_ok P.src P.dst S 33434 w hr k.src k.dst (by omega) (by decide) (by omega))
  have eS : (20000 : Int) + (P.flow : Int) = (S : Int) := by omega
  have eW : IntKind.i64.wrap (S : Int) = (S : Int) := by rw [IntWalk.i64_in _ (by omega)]
  obtain ⟨⟨x0, x1, x2, x3, x4, x5⟩, -⟩ := CL.six hC
  obtain ⟨av, cv, rfl, -, -⟩ := hr.form
  clear hr hl k hC hS hf
  go_enter Tryz.func108, Tryz.ntmps108
  go_wp2_with fail
  refine HE.out.mono ?_
  rintro e w1 ⟨v1, rfl, ho, hg⟩
  go_wp2_with fail
  go_ret
  exact ⟨_, rfl, ho, hg⟩
set_option maxHeartbeats 1000000 in
theorem bal_echo (g : Nat) (P : Pr) (w : World) (hC : CL w g P.vs) (k : P.ok) (W : Nat) (hW : W ≤ 65535) :
    Calls Tryz.prog 106 #[.int .i64 2, .int .i64 W, .func (.func 107) #[] #[.pointer (some ⟨g, 0, none⟩)]] w fun e w' => ∃ v', e = .returned v' ∧ OwB w.heap.size w' v' ((echoL false 21075 P.tag) (bput (bal (gN ((echoL false 21075 P.tag) (bput 0 2)) 2 2) W) 2)) ∧ Gr w w' := by
  have HC := Lib.hid hC
  have HK := Lib.hid k
  obtain ⟨U, hU⟩ : ∃ U, U = 65535 - W := ⟨_, rfl⟩
  have eU : (65535 : Int) - (W : Int) = (U : Int) := by omega
  have hU2 : U ≤ 65535 := by omega
  have eWU : IntKind.i64.wrap (U : Int) = (U : Int) := by rw [IntWalk.i64_in _ (by omega)]
  have HU := Lib.hid hU
  have hg0 := Gr.alloc (Gr.refl w) (.cells #[.int .u8 0, .int .u8 0] 5)
  have hz := rb_zz w
  clear hC k hU hW
  go_enter Tryz.func106, Tryz.ntmps106
  go_wp2_with fail
  refine (dat_echo g P _ (HC.out.gr hg0) HK.out hz (by rw [bput_len])).mono ?_
  rintro e w1 ⟨v1, rfl, ho, hg⟩
  replace hg := hg0.step hg
  obtain ⟨l, hl⟩ : ∃ l, l = (echoL false 21075 P.tag) (bput 0 2) := ⟨_, rfl⟩
  rw [← hl] at ho
  have hll : 10 ≤ l.length := by rw [hl, echo_len, bput_len]; decide
  have HR := Lib.hid ho.rb.any
  have hB := gN_lt ho.rb.bytes 2 2
  obtain ⟨a1, c1, rfl, -, -⟩ := ho.rb.form
  have HG := Lib.hid (get_yes 2 2 w1 HR.out (by omega) (by omega) (by omega))
  have HE : Hid (gN l 2 2 = bnum ((l.drop 2).take 2)) := Lib.hid rfl
  rw [← HE.out] at HG
  obtain ⟨B, hBB⟩ : ∃ B, B = gN l 2 2 := ⟨_, rfl⟩
  rw [← hBB] at HG hB
  have HB := Lib.hid (hBB.trans (by rw [hl]) : B = gN ((echoL false 21075 P.tag) (bput 0 2)) 2 2)
  clear hBB
  clear HR ho hl hz hg0 HE hll
  go_wp2_with fail
  refine HG.out.mono ?_
  rintro e w2 ⟨rfl, rfl⟩
  have HA := Lib.hid (wadd_any B U w1)
  rw [adR_nat (show B ≤ 65535 by omega) hU2] at HA
  obtain ⟨M, hM⟩ : ∃ M, M = bal B W := ⟨_, rfl⟩
  rw [show oc (B + U) = M by rw [hM, HU.out]; rfl] at HA
  have hM2 : M ≤ 65535 := by rw [hM]; exact bal_le _ _
  have HM := Lib.hid hM
  clear HG hM hB
  go_wp2_with fail
  refine HA.out.mono ?_
  rintro e w2 ⟨rfl, rfl⟩
  clear HA
  go_wp2_with fail
  refine (put_own M 2 w1 (Rb.nil (fun _ => True) _) (by simp) (by omega) (by omega) (by show M < 65536; omega)).mono ?_
  rintro e w3 ⟨v3, rfl, ho, hg3⟩
  replace hg := hg.step hg3
  have hr := ho.rb.any
  obtain ⟨a3, c3, rfl, -, -⟩ := hr.form
  rw [show ([] ++ bput M 2 : List Nat) = bput M 2 from rfl] at hr
  have HX := Lib.hid (dat_echo g P w3 (HC.out.gr hg) HK.out hr (bput_len _ _))
  clear ho hg3 hr
  go_wp2_with fail
  refine HX.out.mono ?_
  rintro e w4 ⟨v4, rfl, ho, hg4⟩
  replace ho := ho.base (Gr.size hg)
  replace hg := hg.step hg4
  clear HX hg4
  go_wp2_with fail
  go_ret
  rw [HM.out, HB.out] at ho
  exact ⟨_, rfl, ho, hg⟩
set_option maxHeartbeats 1000000 in
theorem bal_udp (g : Nat) (P : Pr) (w : World) (hC : CL w g P.vs) (k : P.ok) (W : Nat) (hW : W ≤ 65535) :
    Calls Tryz.prog 106 #[.int .i64 6, .int .i64 W, .func (.func 108) #[] #[.pointer (some ⟨g, 0, none⟩)]] w fun e w' => ∃ v', e = .returned v' ∧ OwB w.heap.size w' v' ((udpL P.src P.dst (20000 + P.flow) 33434) (bput (bal (gN ((udpL P.src P.dst (20000 + P.flow) 33434) (bput 0 2)) 6 2) W) 2)) ∧ Gr w w' := by
  have HC := Lib.hid hC
  have HK := Lib.hid k
  obtain ⟨U, hU⟩ : ∃ U, U = 65535 - W := ⟨_, rfl⟩
  have eU : (65535 : Int) - (W : Int) = (U : Int) := by omega
  have hU2 : U ≤ 65535 := by omega
  have eWU : IntKind.i64.wrap (U : Int) = (U : Int) := by rw [IntWalk.i64_in _ (by omega)]
  have HU := Lib.hid hU
  have hg0 := Gr.alloc (Gr.refl w) (.cells #[.int .u8 0, .int .u8 0] 5)
  have hz := rb_zz w
  clear hC k hU hW
  go_enter Tryz.func106, Tryz.ntmps106
  go_wp2_with fail
  refine (dat_udp g P _ (HC.out.gr hg0) HK.out hz (by rw [bput_len])).mono ?_
  rintro e w1 ⟨v1, rfl, ho, hg⟩
  replace hg := hg0.step hg
  obtain ⟨l, hl⟩ : ∃ l, l = (udpL P.src P.dst (20000 + P.flow) 33434) (bput 0 2) := ⟨_, rfl⟩
  rw [← hl] at ho
  have hll : 10 ≤ l.length := by rw [hl, udp_len, bput_len]; decide
  have HR := Lib.hid ho.rb.any
  have hB := gN_lt ho.rb.bytes 6 2
  obtain ⟨a1, c1, rfl, -, -⟩ := ho.rb.form
  have HG := Lib.hid (get_yes 6 2 w1 HR.out (by omega) (by omega) (by omega))
  have HE : Hid (gN l 6 2 = bnum ((l.drop 6).take 2)) := Lib.hid rfl
  rw [← HE.out] at HG
  obtain ⟨B, hBB⟩ : ∃ B, B = gN l 6 2 := ⟨_, rfl⟩
  rw [← hBB] at HG hB
  have HB := Lib.hid (hBB.trans (by rw [hl]) : B = gN ((udpL P.src P.dst (20000 + P.flow) 33434) (bput 0 2)) 6 2)
  clear hBB
  clear HR ho hl hz hg0 HE hll
  go_wp2_with fail
  refine HG.out.mono ?_
  rintro e w2 ⟨rfl, rfl⟩
  have HA := Lib.hid (wadd_any B U w1)
  rw [adR_nat (show B ≤ 65535 by omega) hU2] at HA
  obtain ⟨M, hM⟩ : ∃ M, M = bal B W := ⟨_, rfl⟩
  rw [show oc (B + U) = M by rw [hM, HU.out]; rfl] at HA
  have hM2 : M ≤ 65535 := by rw [hM]; exact bal_le _ _
  have HM := Lib.hid hM
  clear HG hM hB
  go_wp2_with fail
  refine HA.out.mono ?_
  rintro e w2 ⟨rfl, rfl⟩
  clear HA
  go_wp2_with fail
  refine (put_own M 2 w1 (Rb.nil (fun _ => True) _) (by simp) (by omega) (by omega) (by show M < 65536; omega)).mono ?_
  rintro e w3 ⟨v3, rfl, ho, hg3⟩
  replace hg := hg.step hg3
  have hr := ho.rb.any
  obtain ⟨a3, c3, rfl, -, -⟩ := hr.form
  rw [show ([] ++ bput M 2 : List Nat) = bput M 2 from rfl] at hr
  have HX := Lib.hid (dat_udp g P w3 (HC.out.gr hg) HK.out hr (bput_len _ _))
  clear ho hg3 hr
  go_wp2_with fail
  refine HX.out.mono ?_
  rintro e w4 ⟨v4, rfl, ho, hg4⟩
  replace ho := ho.base (Gr.size hg)
  replace hg := hg.step hg4
  clear HX hg4
  go_wp2_with fail
  go_ret
  rw [HM.out, HB.out] at ho
  exact ⟨_, rfl, ho, hg⟩
end Go.Proofs.YtkpejaiigopmgaaGreatDoor
/- Probes: data and Build. -/
namespace Go.Proofs.YtkpejaiigopmgaaGreatDoor
open Go Go.RowKit Go.Sort
set_option maxRecDepth 100000
set_option linter.unusedVariables false
set_option linter.unusedSimpArgs false
theorem ic_s {t : Nat} : gN (echoL false 21075 t (bput 0 2)) 2 2 = icS t := by
  have e : echoL false 21075 t (bput 0 2) = echoA false ++ (bput (icS t) 2 ++ echoZ 21075 t (bput 0 2)) := by
    show msg s0 (echoA false) (echoZ 21075 t (bput 0 2)) = _
    unfold msg
    rw [show s0 (echoA false ++ bput 0 2 ++ echoZ 21075 t (bput 0 2)) = icS t from rfl, List.append_assoc]
  exact gN_of e (by simp [echoA, bput_len]) (by have := s0_le (icZ t 0); unfold icS; show _ < 65536; omega)
theorem ud_s {src dst f : Nat} : gN (udpL src dst (20000 + f) 33434 (bput 0 2)) 6 2 = udS src dst f := by
  have e : udpL src dst (20000 + f) 33434 (bput 0 2) = udpA (20000 + f) 33434 2 ++ (bput (udS src dst f) 2 ++ bput 0 2) := by
    show msg (sU src dst) (udpA (20000 + f) 33434 (bput 0 2).length) (bput 0 2) = _
    unfold msg
    rw [bput_len, show sU src dst (udpA (20000 + f) 33434 2 ++ bput 0 2 ++ bput 0 2) = udS src dst f from rfl, List.append_assoc]
  exact gN_of e (by simp [udpA, bputs, bput_len]) (by have := sU_le src dst (udZ f 0); unfold udS; show _ < 65536; omega)
theorem pdata_icmp (P : Pr) (k : P.ok) (w : World) (hp : P.proto = 1) :
    Calls Tryz.prog 103 #[P.v] w fun e w' => ∃ v', e = .returned v' ∧ OwB w.heap.size w' v' P.data ∧ Gr w w' := by
  have hd : P.data = echoL false 21075 P.tag (bput (bal (gN (echoL false 21075 P.tag (bput 0 2)) 2 2) (16384 + P.flow)) 2) := by
    rw [Pr.data_icmp hp, ic_s]; rfl
  have hp' : (P.proto : Int) = 1 := by rw [hp]; rfl
  obtain ⟨W, hW⟩ : ∃ W, W = 16384 + P.flow := ⟨_, rfl⟩
  rw [← hW] at hd
  have HD := Lib.hid hd
  have HK := Lib.hid k
  have hf := k.flow
  have ht := k.tag
  have HC := Lib.hid (CL.new w P.vs 29 _ rfl)
  have hG := Gr.alloc (Gr.refl w) (.cells P.vs.toArray 29)
  clear k
  unfold Pr.v prV
  unfold Pr.vs at HC hG
  have eW : (16384 : Int) + (P.flow : Int) = (W : Int) := by omega
  have hW2 : W ≤ 65535 := by omega
  have eWW : IntKind.i64.wrap (W : Int) = (W : Int) := by rw [IntWalk.i64_in _ (by omega)]
  have d1 : ((P.proto : Int) == 1) = true := by simpa using hp'
  clear hp hp' hd hf ht hW
  go_enter Tryz.func103, Tryz.ntmps103
  go_upto_region 1 with fail
  simp only [List.toArray] at hG
  generalize w.alloc (.cells #[.int .u32 P.src, .int .u32 P.dst, .int .i64 P.proto, .int .i64 P.flow, .int .i64 P.tag, .int .i64 P.ttl] 29) = w1 at HC hG ⊢
  generalize w.heap.size = g at HC ⊢
  obtain ⟨⟨x0, x1, x2, x3, x4, x5⟩, -⟩ := CL.six HC.out
  go_wp2_with fail
  refine (bal_echo g P w1 HC.out HK.out W hW2).mono ?_
  rintro e w2 ⟨v2, rfl, ho, hg⟩
  rw [← HD.out] at ho
  go_wp2_with fail
  go_ret
  exact ⟨_, rfl, ho.base (Gr.size hG), hG.step hg⟩
theorem pdata_udp (P : Pr) (k : P.ok) (w : World) (hp : P.proto = 17) :
    Calls Tryz.prog 103 #[P.v] w fun e w' => ∃ v', e = .returned v' ∧ OwB w.heap.size w' v' P.data ∧ Gr w w' := by
  have hd : P.data = udpL P.src P.dst (20000 + P.flow) 33434 (bput (bal (gN (udpL P.src P.dst (20000 + P.flow) 33434 (bput 0 2)) 6 2) (P.tag + 1)) 2) := by
    rw [Pr.data_udp hp, ud_s]; rfl
  obtain ⟨W, hW⟩ : ∃ W, W = P.tag + 1 := ⟨_, rfl⟩
  rw [← hW] at hd
  have HD := Lib.hid hd
  have HK := Lib.hid k
  have hf := k.flow
  have ht := k.tag
  have HC := Lib.hid (CL.new w P.vs 29 _ rfl)
  have hG := Gr.alloc (Gr.refl w) (.cells P.vs.toArray 29)
  clear k
  unfold Pr.v prV
  unfold Pr.vs at HC hG
  have eW : (P.tag : Int) + 1 = (W : Int) := by omega
  have hW2 : W ≤ 65535 := by omega
  have eWW : IntKind.i64.wrap (W : Int) = (W : Int) := by rw [IntWalk.i64_in _ (by omega)]
  have d1 : ((P.proto : Int) == 1) = false := by rw [hp]; rfl
  have d2 : ((P.proto : Int) == 17) = true := by rw [hp]; rfl
  clear hp hd hf ht hW
  go_enter Tryz.func103, Tryz.ntmps103
  go_upto_region 1 with fail
  simp only [List.toArray] at hG
  generalize w.alloc (.cells #[.int .u32 P.src, .int .u32 P.dst, .int .i64 P.proto, .int .i64 P.flow, .int .i64 P.tag, .int .i64 P.ttl] 29) = w1 at HC hG ⊢
  generalize w.heap.size = g at HC ⊢
  obtain ⟨⟨x0, x1, x2, x3, x4, x5⟩, -⟩ := CL.six HC.out
  go_wp2_with fail
  refine (bal_udp g P w1 HC.out HK.out W hW2).mono ?_
  rintro e w2 ⟨v2, rfl, ho, hg⟩
  rw [← HD.out] at ho
  go_wp2_with fail
  go_ret
  exact ⟨_, rfl, ho.base (Gr.size hG), hG.step hg⟩
theorem pdata_tcp (P : Pr) (k : P.ok) (w : World) (hp : P.proto = 6) :
    Calls Tryz.prog 103 #[P.v] w fun e w' => ∃ v', e = .returned v' ∧ OwB w.heap.size w' v' P.data ∧ Gr w w' := by
  have hd : P.data = tcpL P.src P.dst (20000 + P.flow) 80 P.tag 0 2 1024 [] := by
    rw [Pr.data_tcp hp]; rfl
  obtain ⟨W, hW⟩ : ∃ W, W = 20000 + P.flow := ⟨_, rfl⟩
  rw [← hW] at hd
  have HD := Lib.hid hd
  have HK := Lib.hid k
  have hf := k.flow
  have ht := k.tag
  have HC := Lib.hid (CL.new w P.vs 29 _ rfl)
  have hG := Gr.alloc (Gr.refl w) (.cells P.vs.toArray 29)
  clear k
  unfold Pr.v prV
  unfold Pr.vs at HC hG
  have eW : (20000 : Int) + (P.flow : Int) = (W : Int) := by omega
  have hW2 : W ≤ 65535 := by omega
  have eWW : IntKind.i64.wrap (W : Int) = (W : Int) := by rw [IntWalk.i64_in _ (by omega)]
  have HT := Lib.hid (fun w' => tcp_ok P.src P.dst W 80 P.tag 0 2 1024 w' (Rb.nil (fun _ => True) w') HK.out.src HK.out.dst (by omega) (by decide) (by omega) (by decide) (by decide) (by decide) (by simp))
  have d1 : ((P.proto : Int) == 1) = false := by rw [hp]; rfl
  have d2 : ((P.proto : Int) == 17) = false := by rw [hp]; rfl
  clear hp hd hf ht hW
  go_enter Tryz.func103, Tryz.ntmps103
  go_upto_region 1 with fail
  simp only [List.toArray] at hG
  generalize w.alloc (.cells #[.int .u32 P.src, .int .u32 P.dst, .int .i64 P.proto, .int .i64 P.flow, .int .i64 P.tag, .int .i64 P.ttl] 29) = w1 at HC hG ⊢
  generalize w.heap.size = g at HC ⊢
  obtain ⟨⟨x0, x1, x2, x3, x4, x5⟩, -⟩ := CL.six HC.out
  go_wp2_with fail
  refine (HT.out _).mono ?_
  rintro e w2 ⟨v2, rfl, ho, hg⟩
  rw [← HD.out] at ho
  go_wp2_with fail
  go_ret
  exact ⟨_, rfl, ho.base (Gr.size hG), hG.step hg⟩
theorem pdata_any (P : Pr) (k : P.ok) (w : World) :
    Calls Tryz.prog 103 #[P.v] w fun e w' => ∃ v', e = .returned v' ∧ OwB w.heap.size w' v' P.data ∧ Gr w w' := by
  rcases k.proto with h | h | h
  · exact pdata_icmp P k w h
  · exact pdata_udp P k w h
  · exact pdata_tcp P k w h
theorem pbuild_bad (s d pr fl tg tt : Int) (w : World) (h : prbE pr fl tg tt ≠ 0) :
    Calls Tryz.prog 91 #[prV s d pr fl tg tt] w fun e w' => e = .returned (.tuple #[.slice none 0 0, .int .i64 (prbE pr fl tg tt : Nat)]) ∧ Gr w w' := by
  have HK := Lib.hid (fun w => pchk_any s d pr fl tg tt w)
  generalize prbE pr fl tg tt = E at *
  have d1 : ((E : Int) != 0) = true := by rw [bne_iff_ne]; omega
  have d2 : ((E : Int) == 0) = false := by simpa using h
  clear h
  unfold prV at *
  go_enter Tryz.func91, Tryz.ntmps91
  go_wp2_with fail
  refine (HK.out _).mono ?_
  rintro e w1 ⟨rfl, hg⟩
  go_wp2_with fail
  go_ret2
  exact ⟨rfl, (Gr.alloc (Gr.refl w) _).step hg⟩
set_option maxHeartbeats 1000000 in
theorem pbuild_ok (P : Pr) (k : P.ok) (w : World) :
    Calls Tryz.prog 91 #[P.v] w fun e w' => ∃ v', e = .returned (.tuple #[v', .int .i64 0]) ∧ OwB w.heap.size w' v' P.pk ∧ Gr w w' := by
  have HK := Lib.hid (fun w => pchk_any P.src P.dst P.proto P.flow P.tag P.ttl w)
  rw [Pr.e_ok k] at HK
  have HD := Lib.hid (fun w => pdata_any P k w)
  have HE := Lib.hid (fun (v : Value) (w : World) (hv : Rb (fun _ => True) w v P.data) => encode_enc P.hd (Pr.hd_ok k) w hv (by have := (Pr.data_at k).2.1; omega))
  have HC := Lib.hid (CL.new w P.vs 29 _ rfl)
  have hG := Gr.alloc (Gr.refl w) (.cells P.vs.toArray 29)
  clear k
  unfold Pr.v prV at *
  unfold Pr.vs at HC hG
  unfold Pr.hd Hd.p pkV at HE
  simp only at HE
  go_enter Tryz.func91, Tryz.ntmps91
  go_upto_region 1 with fail
  simp only [List.toArray] at hG
  generalize w.alloc (.cells #[.int .u32 P.src, .int .u32 P.dst, .int .i64 P.proto, .int .i64 P.flow, .int .i64 P.tag, .int .i64 P.ttl] 29) = w1 at HC hG ⊢
  generalize w.heap.size = g at HC ⊢
  obtain ⟨⟨x0, x1, x2, x3, x4, x5⟩, -⟩ := CL.six HC.out
  go_wp2_with fail
  refine (HK.out _).mono ?_
  rintro e w2 ⟨rfl, hg⟩
  have HC2 := Lib.hid (HC.out.gr hg)
  replace hG := hG.step hg
  clear x0 x1 x2 x3 x4 x5 HC hg HK
  obtain ⟨⟨x0, x1, x2, x3, x4, x5⟩, -⟩ := CL.six HC2.out
  have hB := CL.new w2 [.int .i64 0, .int .i64 P.tag, .int .i64 P.ttl, .int .i64 P.proto, .bool true, .int .u32 P.src, .int .u32 P.dst] 52 _ rfl
  have hg3 := Gr.alloc (Gr.refl w2) (.cells #[.int .i64 0, .int .i64 P.tag, .int .i64 P.ttl, .int .i64 P.proto, .bool true, .int .u32 P.src, .int .u32 P.dst] 52)
  go_upto_region 5 with fail
  simp only [List.toArray] at hB
  generalize w2.alloc (.cells #[.int .i64 0, .int .i64 P.tag, .int .i64 P.ttl, .int .i64 P.proto, .bool true, .int .u32 P.src, .int .u32 P.dst] 52) = w3 at hB hg3 ⊢
  generalize w2.heap.size = gh at hB ⊢
  have HB := Lib.hid hB
  have HC3 := Lib.hid (HC2.out.gr hg3)
  replace hG := hG.step hg3
  clear x0 x1 x2 x3 x4 x5 HC2 hg3 hB
  have hS : Gr w3 w3.drew := Gr.drew (Gr.refl _)
  refine region_plain (Gr w3) (by kernel_rfl) ?_
  generalize w3.drew = w4 at hS ⊢
  refine take_at 0 (some 22) (v := ?vh0) rfl rfl (by kernel_rfl) (by kernel_rfl) (by kernel_rfl) (by rfl) ?yh0 hS ?th0
  case yh0 =>
    intro w' hSw
    obtain ⟨⟨q0, q1, q2, q3, q4, q5, q6⟩, -⟩ := (HB.out.gr hSw).seven
    go_simp
    (try with_reducible rfl)
  simp only [Act.put, List.setIfInBounds_toArray, List.set_cons_zero, List.set_cons_succ]
  refine take_at 1 (some 23) (v := ?vh1) rfl rfl (by kernel_rfl) (by kernel_rfl) (by kernel_rfl) (by rfl) ?yh1 hS ?th1
  case yh1 =>
    intro w' hSw
    obtain ⟨⟨q0, q1, q2, q3, q4, q5⟩, -⟩ := (HC3.out.gr hSw).six
    go_simp
    (try with_reducible rfl)
  simp only [Act.put, List.setIfInBounds_toArray, List.set_cons_zero, List.set_cons_succ]
  refine next_at 2 rfl (by kernel_rfl) (by rfl) (fun K hK => ?_)
  go_simp
  refine (HD.out _).mono ?_
  rintro e w5 ⟨v5, rfl, ho, hg⟩
  have hr := ho.rb.any
  obtain ⟨a5, c5, rfl, -, -⟩ := hr.form
  generalize P.data.length = N at hr ⊢
  replace hS := hS.step hg
  have HX := Lib.hid (HE.out _ _ hr)
  refine hK _ _ hS ?_
  clear hK K ho hg hr
  refine next_at 3 rfl (by kernel_rfl) (by rfl) (fun K hK => ?_)
  go_simp
  refine hK _ _ hS ?_
  clear hK K
  refine next_at 4 rfl (by kernel_rfl) (by rfl) (fun K hK => ?_)
  go_simp
  refine HX.out.mono ?_
  rintro e w6 ⟨v6, rfl, ho, hg⟩
  replace ho := ho.base (Gr.size (hG.step hS))
  replace hS := hS.step hg
  refine hK _ _ hS ?_
  clear hK K hg HX
  refine take_at 5 (some 27) (v := ?vh5) rfl rfl (by kernel_rfl) (by kernel_rfl) (by kernel_rfl) (by rfl) ?yh5 hS ?th5
  case yh5 =>
    intro w' hSw
    obtain - := hSw
    go_simp
    (try with_reducible rfl)
  simp only [Act.put, List.setIfInBounds_toArray, List.set_cons_zero, List.set_cons_succ]
  refine take_at 6 (some 28) (v := ?vh6) rfl rfl (by kernel_rfl) (by kernel_rfl) (by kernel_rfl) (by rfl) ?yh6 hS ?th6
  case yh6 =>
    intro w' hSw
    obtain - := hSw
    go_simp
    (try with_reducible rfl)
  simp only [Act.put, List.setIfInBounds_toArray, List.set_cons_zero, List.set_cons_succ]
  refine next_at 7 rfl (by kernel_rfl) (by rfl) (fun K hK => ?_)
  go_simp
  refine hK _ _ hS ?_
  clear hK K
  refine next_at 8 rfl (by kernel_rfl) (by rfl) (fun K hK => ?_)
  go_simp
  refine hK _ _ hS ?_
  clear hK K
  refine wpAnyH_done (by kernel_rfl) ?_ _
  refine qz_normal ?_
  have hz := hG.step hS
  go_wp2_with fail
  go_ret2
  exact ⟨_, rfl, ho, hz⟩
end Go.Proofs.YtkpejaiigopmgaaGreatDoor
