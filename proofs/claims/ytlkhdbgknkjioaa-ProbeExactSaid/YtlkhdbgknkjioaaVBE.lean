/- Several texts in one. -/
import Derived.Test.YtlkhdbgknkjioaaUd
import Derived.Test.YtlkhdbgknkjioaaJp
import Derived.Test.YtlkhdbgknkjioaaKo
import Derived.Test.YtlkhdbgknkjioaaKp
import Derived.WalkKit
import Derived.WalkSpells
import Derived.WalkLawsBesides
import Derived.WalkSmall
import Derived.Handy
import Derived.BigQuiet
import Derived.Deep.QuietTactic
import Derived.Deep.RegionHeld3
import Derived.Deep.DeepFit
import Derived.Below
import Derived.Lib.Hide
import Derived.Lib.QuietBelow
import Derived.Test.YtlkhdbgknkjioaaJHE
import Derived.Test.YtlkhdbgknkjioaaJdM
import Derived.Test.YtlkhdbgknkjioaaUs
/- Probes of the document: balanced, data. -/
namespace Go.Proofs.Ytlkhdbgknkjioaa
open Go Go.RowKit Go.Sort
set_option maxRecDepth 100000
set_option linter.unusedVariables false
set_option linter.unusedSimpArgs false
def rbal (s want : Nat) : Nat := if oc (65535 - want + s) = 0 then 65535 else oc (65535 - want + s)
theorem rbal_le (s want : Nat) : rbal s want ≤ 65535 := by have := oc_le (65535 - want + s); unfold rbal; split <;> omega
theorem rbal_eq {s want : Nat} (hs : s ≤ 65535) (h1 : want ≤ 65535) : rbal s want = bal (if s = 0 then 65535 else s) want := by
  unfold rbal bal oc
  repeat' split
  all_goals first | omega | (split at * <;> omega) | (split <;> omega)
theorem rbal_pos {s want : Nat} (hs : s ≤ 65535) (h1 : want < 65535) : rbal s want = bal s want := by
  unfold rbal bal
  have := oc_pos (s := 65535 - want + s) (by omega)
  rw [if_neg (by omega), Nat.add_comm]
theorem rbalanced_any (s want : Nat) (w : World) (hs : s ≤ 65535) (hw : want ≤ 65535) (n : Nat) (hn : n = rbal s want) :
    Calls Try.prog 100 #[.int .i64 s, .int .i64 want] w fun e w' => e = .returned (.int .i64 n) ∧ w = w' := by
  obtain ⟨U, hU⟩ : ∃ U, U = 65535 - want := ⟨_, rfl⟩
  have eU : (65535 : Int) - (want : Int) = (U : Int) := by omega
  have wU : IntKind.i64.wrap (U : Int) = (U : Int) := by rw [IntWalk.i64_in _ (by omega)]
  have HA := Lib.hid (fun w => rwadd_nat U s w (by omega) hs)
  have HN := Lib.hid hn
  unfold rbal at HN
  rw [← hU] at HN
  generalize oc (U + s) = M at *
  by_cases h0 : M = 0
  · have d1 : ((M : Int) == 0) = true := by simpa using h0
    have HE := Lib.hid (show n = 65535 from HN.out.trans (if_pos h0))
    clear h0 hU hn HN
    go_enter Try.func100, Try.ntmps100
    go_wp2_with fail
    refine (HA.out _).mono ?_
    rintro e w1 ⟨rfl, rfl⟩
    go_wp2_with fail
    go_ret
    exact ⟨ret_int (by rw [HE.out]; rfl), rfl⟩
  · have d1 : ((M : Int) == 0) = false := by simpa using h0
    have HE := Lib.hid (show n = M from HN.out.trans (if_neg h0))
    clear h0 hU hn HN
    go_enter Try.func100, Try.ntmps100
    go_wp2_with fail
    refine (HA.out _).mono ?_
    rintro e w1 ⟨rfl, rfl⟩
    go_wp2_with fail
    go_ret
    exact ⟨ret_int (by rw [HE.out]), rfl⟩
theorem rdata_tcp (P : Pr) (k : P.ok) (w : World) (hp : P.proto = 6) :
    Calls Try.prog 71 #[P.v] w fun e w' => ∃ v', e = .returned v' ∧ OwB w.heap.size w' v' P.data ∧ Gr w w' := by
  have hd : P.data = tcpL P.src P.dst (20000 + P.flow) 80 P.tag 0 2 1024 [] := by
    rw [Pr.data_tcp hp]; rfl
  obtain ⟨W, hW⟩ : ∃ W, W = 20000 + P.flow := ⟨_, rfl⟩
  rw [← hW] at hd
  have HD := Lib.hid hd
  have HK := Lib.hid k
  have hf := k.flow
  have ht := k.tag
  have eW : (20000 : Int) + (P.flow : Int) = (W : Int) := by omega
  have wW : IntKind.i64.wrap (W : Int) = (W : Int) := by rw [IntWalk.i64_in _ (by omega)]
  have HT := Lib.hid (fun w' => rtcp_ok P.src P.dst W 80 P.tag 0 2 1024 w' (Rb.nil (fun _ => True) w') HK.out.src HK.out.dst (by omega) (by decide) (by omega) (by decide) (by decide) (by decide) (by simp))
  have d1 : ((P.proto : Int) == 1) = false := by rw [hp]; rfl
  have d2 : ((P.proto : Int) == 17) = false := by rw [hp]; rfl
  clear hp hd hf ht hW k
  have HC := Lib.hid (CL.new w P.vs 65 _ rfl)
  have hG := Gr.alloc (Gr.refl w) (.cells P.vs.toArray 65)
  unfold Pr.v prV
  unfold Pr.vs at HC hG
  go_enter Try.func71, Try.ntmps71
  go_upto_region 1 with fail
  simp only [List.toArray] at hG
  generalize w.alloc (.cells #[.int .u32 P.src, .int .u32 P.dst, .int .i64 P.proto, .int .i64 P.flow, .int .i64 P.tag, .int .i64 P.ttl] 65) = w1 at HC hG ⊢
  have hle : w.heap.size ≤ w.heap.size := Nat.le_refl _
  generalize w.heap.size = g at HC ⊢
  clear hle
  obtain ⟨⟨x0, x1, x2, x3, x4, x5⟩, -⟩ := CL.six HC.out
  go_wp2_with fail
  refine (HT.out _).mono ?_
  rintro e w2 ⟨v2, rfl, ho, hg⟩
  rw [← HD.out] at ho
  go_wp2_with fail
  go_ret
  exact ⟨_, rfl, ho.base (Gr.size hG), hG.step hg⟩
set_option maxHeartbeats 2000000 in
theorem rdata_icmp (P : Pr) (k : P.ok) (w : World) (hp : P.proto = 1) :
    Calls Try.prog 71 #[P.v] w fun e w' => ∃ v', e = .returned v' ∧ OwB w.heap.size w' v' P.data ∧ Gr w w' := by
  have hf := k.flow
  have ht := k.tag
  obtain ⟨W, hW⟩ : ∃ W, W = 16384 + P.flow := ⟨_, rfl⟩
  obtain ⟨S, hS0⟩ : ∃ S, S = gN (echoL false 21075 P.tag (bput 0 2)) 2 2 := ⟨_, rfl⟩
  have hS1 : S ≤ 65535 := by rw [hS0, ic_s]; exact s0_le _
  obtain ⟨M, hM⟩ : ∃ M, M = rbal S W := ⟨_, rfl⟩
  have hM1 : M ≤ 65535 := by rw [hM]; exact rbal_le _ _
  have HD := Lib.hid (show P.data = echoL false 21075 P.tag (bput M 2) by
    rw [Pr.data_icmp hp, hM, rbal_pos hS1 (by omega), hS0, ic_s, hW]; rfl)
  have HBA := Lib.hid (fun w => rbalanced_any S W w hS1 (by omega) M hM)
  have HPU := Lib.hid (fun w => rpush_any M 2 w (Rb.nil (fun _ => True) w) (by simp) (by omega) (by omega) (by show M < 65536; omega))
  have HE := Lib.hid (fun (v : Value) (d : List Nat) (w : World) (hv : Rb (fun _ => True) w v d) (hd : d.length = 2) => recho_ok false 21075 P.tag w hv (by decide) (by omega) (by omega))
  have HAT := Lib.hid (fun (v : Value) (w : World) (hv : Rb (fun _ => True) w v (echoL false 21075 P.tag (bput 0 2))) => rat_any 2 2 w hv (by omega) (by omega) (by rw [echo_len, bput_len]; omega) (by rw [echo_len, bput_len]; omega))
  rw [← hS0] at HAT
  have eW : (16384 : Int) + (P.flow : Int) = (W : Int) := by omega
  have wW : IntKind.i64.wrap (W : Int) = (W : Int) := by rw [IntWalk.i64_in _ (by omega)]
  have d1 : ((P.proto : Int) == 1) = true := by rw [hp]; rfl
  clear hp k hf ht hW hS0 hS1 hM hM1
  have HC := Lib.hid (CL.new w P.vs 65 _ rfl)
  have hG := Gr.alloc (Gr.refl w) (.cells P.vs.toArray 65)
  unfold Pr.v prV
  unfold Pr.vs at HC hG
  go_enter Try.func71, Try.ntmps71
  go_upto_region 1 with fail
  simp only [List.toArray] at hG
  generalize w.alloc (.cells #[.int .u32 P.src, .int .u32 P.dst, .int .i64 P.proto, .int .i64 P.flow, .int .i64 P.tag, .int .i64 P.ttl] 65) = w1 at HC hG ⊢
  have hle : w.heap.size ≤ w.heap.size := Nat.le_refl _
  generalize w.heap.size = g at HC ⊢
  clear hle
  obtain ⟨⟨x0, x1, x2, x3, x4, x5⟩, -⟩ := CL.six HC.out
  have hz := rb_zz w1
  have hE := CL.new (w1.alloc (.cells #[.int .u8 0, .int .u8 0] 5)) [.bool false, .int .i64 21075, .int .i64 P.tag, .slice (some ⟨w1.heap.size, 0, none⟩) 2 2] 36 (w1.heap.size + 1) (by simp)
  have hgn := ((Gr.refl w1).alloc (.cells #[.int .u8 0, .int .u8 0] 5)).alloc (.cells #[.bool false, .int .i64 21075, .int .i64 P.tag, .slice (some ⟨w1.heap.size, 0, none⟩) 2 2] 36)
  replace hz := hz.gr ((Gr.refl _).alloc (.cells #[.bool false, .int .i64 21075, .int .i64 P.tag, .slice (some ⟨w1.heap.size, 0, none⟩) 2 2] 36))
  have hge : w.heap.size ≤ w1.heap.size + 1 := by have := Gr.size hG; omega
  have hgg : g < w1.heap.size + 1 := by have := HC.out.lt; omega
  simp only [List.toArray] at hE
  go_upto_region 4 with fail
  generalize (w1.alloc (.cells #[.int .u8 0, .int .u8 0] 5)).alloc (.cells #[.bool false, .int .i64 21075, .int .i64 P.tag, .slice (some ⟨w1.heap.size, 0, none⟩) 2 2] 36) = w2 at hz hE hgn ⊢
  generalize w1.heap.size + 1 = ge at hE hge hgg ⊢
  generalize w1.heap.size = gz at hz hE ⊢
  replace HC := Lib.hid (HC.out.gr hgn)
  replace hG := hG.step hgn
  clear hgn x0 x1 x2 x3 x4 x5
  obtain ⟨⟨z0, z1, z2, z3⟩, -⟩ := hE.four
  go_wp2_with fail
  refine (HE.out _ _ _ hz (bput_len _ _)).mono ?_
  rintro e w3 ⟨v3, rfl, ho, hg⟩
  have HV := Lib.hid ho.rb.any
  obtain ⟨a3, c3, rfl, -, -⟩ := ho.rb.any.form
  rw [show (echoL false 21075 P.tag (bput 0 2)).length = 10 by rw [echo_len, bput_len]] at HV ⊢
  replace HC := Lib.hid (HC.out.gr hg)
  replace hG := hG.step hg
  replace hE := hE.gr hg
  clear hg ho hz z0 z1 z2 z3
  go_wp2_with fail
  have hx : Ex ge w3 w3.drew := Ex.drew (Ex.refl _ _)
  replace hG := hG.step (Gr.drew (Gr.refl w3))
  replace hE := hE.gr (Gr.drew (Gr.refl w3))
  have hS : Ex ge w3 w3.drew := hx
  clear hx
  refine region_plain (Ex ge w3) (by kernel_rfl) ?_
  have HV4 := HV.out.gr (Gr.drew (Gr.refl w3))
  have hge4 : ge < w3.drew.heap.size := hE.lt
  generalize w3.drew = w4 at hS hG hE HV4 hge4 ⊢
  refine take_at 0 (some 23) (v := ?vi0) rfl rfl (by kernel_rfl) (by kernel_rfl) (by kernel_rfl) (by rfl) ?yi0 hS ?ti0
  case yi0 =>
    intro w' hSw
    obtain - := hSw
    go_simp
    (try with_reducible rfl)
  simp only [Act.put, List.setIfInBounds_toArray, List.set_cons_zero, List.set_cons_succ]
  refine take_at 2 (some 25) (v := ?vi2) rfl rfl (by kernel_rfl) (by kernel_rfl) (by kernel_rfl) (by rfl) ?yi2 hS ?ti2
  case yi2 =>
    intro w' hSw
    obtain - := hSw
    go_simp
    (try with_reducible rfl)
  simp only [Act.put, List.setIfInBounds_toArray, List.set_cons_zero, List.set_cons_succ]
  refine take_at 3 (some 26) (v := ?vi3) rfl rfl (by kernel_rfl) (by kernel_rfl) (by kernel_rfl) (by rfl) ?yi3 hS ?ti3
  case yi3 =>
    intro w' hSw
    obtain ⟨⟨q0, q1, q2, q3, q4, q5⟩, -⟩ := CL.six (HC.out.ex hSw (Nat.ne_of_lt hgg))
    go_simp
    (try with_reducible rfl)
  simp only [Act.put, List.setIfInBounds_toArray, List.set_cons_zero, List.set_cons_succ]
  refine take_at 4 (some 27) (v := ?vi4) rfl rfl (by kernel_rfl) (by kernel_rfl) (by kernel_rfl) (by rfl) ?yi4 hS ?ti4
  case yi4 =>
    intro w' hSw
    obtain - := hSw
    go_simp
    (try with_reducible rfl)
  simp only [Act.put, List.setIfInBounds_toArray, List.set_cons_zero, List.set_cons_succ]
  refine next_at 1 rfl (by kernel_rfl) (by rfl) (fun K hK => ?_)
  go_simp
  refine (HAT.out _ w4 HV4).mono ?_
  rintro e w1a ⟨rfl, rfl⟩
  refine hK _ _ hS ?_
  clear hK K
  clear HV4
  refine next_at 5 rfl (by kernel_rfl) (by rfl) (fun K hK => ?_)
  go_simp
  refine (HBA.out _).mono ?_
  rintro e w5a ⟨rfl, rfl⟩
  refine hK _ _ hS ?_
  clear hK K
  refine next_at 6 rfl (by kernel_rfl) (by rfl) (fun K hK => ?_)
  go_simp
  refine (HPU.out _).mono ?_
  rintro e w6a ⟨v6, rfl, ho, hg⟩
  have hgl := ho.above
  have hv := ho.rb
  replace hG := hG.step hg
  replace hE := hE.gr hg
  replace hS := hS.trans (Ex.ofGr hg)
  obtain ⟨a6, c6, rfl, -, -⟩ := hv.form
  rw [show ([] ++ bput M 2 : List Nat).length = 2 by simp [bput_len]]
  have HV6 := Lib.hid (hv.imp (q := fun b => b ≠ ge) (fun b _ hb => by have := hge4; omega))
  rw [show ([] ++ bput M 2 : List Nat) = bput M 2 from rfl] at HV6
  clear hgl hv ho hg
  refine hK _ _ hS ?_
  clear hK K
  refine take_at 7 (some 30) (v := ?vi7) rfl rfl (by kernel_rfl) (by kernel_rfl) (by kernel_rfl) (by rfl) ?yi7 hS ?ti7
  case yi7 =>
    intro w' hSw
    obtain - := hSw
    go_simp
    (try with_reducible rfl)
  simp only [Act.put, List.setIfInBounds_toArray, List.set_cons_zero, List.set_cons_succ]
  have hES := hE.set 3 (.slice a6 2 c6) (by simp)
  have hSF := hS.set 3 (.slice a6 2 c6)
  have hGF := hG.setCell (p := ⟨ge, 3, none⟩) hge (.slice a6 2 c6)
  have HV7 := (HV6.out.ex (Ex.set (Ex.refl ge w6a) 3 (.slice a6 2 c6)) (fun b hb => hb)).any
  obtain ⟨⟨z0, z1, z2, z3⟩, u0, u1, u2, u3⟩ := hE.four
  refine next_at 8 rfl (by kernel_rfl) (by rfl) (fun K hK => ?_)
  go_simp
  refine hK _ _ hSF ?_
  clear hK K z0 z1 z2 z3 u0 u1 u2 u3
  simp only [List.set_cons_succ, List.set_cons_zero] at hES
  generalize w6a.setCell ⟨ge, 3, none⟩ (.slice a6 2 c6) = w7 at hES hSF hGF HV7 ⊢
  refine wpAnyH_done (by kernel_rfl) ?_ _
  refine qz_normal ?_
  obtain ⟨⟨z0, z1, z2, z3⟩, -⟩ := hES.four
  go_wp2_with fail
  refine (HE.out _ _ _ HV7 (bput_len _ _)).mono ?_
  rintro e w8 ⟨v8, rfl, ho, hg⟩
  go_wp2_with fail
  go_ret
  rw [← HD.out] at ho
  exact ⟨_, rfl, ho.base (Gr.size hGF), hGF.step hg⟩
end Go.Proofs.Ytlkhdbgknkjioaa
/- Probes of the document: data of datagrams, Build. -/
namespace Go.Proofs.Ytlkhdbgknkjioaa
open Go Go.RowKit Go.Sort
set_option maxRecDepth 100000
set_option linter.unusedVariables false
set_option linter.unusedSimpArgs false
theorem rb_ten (w : World) : Rb (fun _ => True) (w.alloc (.cells #[.int .u8 0, .int .u8 10, .int .u8 0, .int .u8 0, .int .u8 0, .int .u8 0] 5)) (.slice (some ⟨w.heap.size, 0, none⟩) 6 6) [0, 10, 0, 0, 0, 0] := by
  have h : OwB w.heap.size (w.alloc (.cells (cellsB [0, 10, 0, 0, 0, 0]).toArray 5)) (.slice (some ⟨w.heap.size, 0, none⟩) 6 6) [0, 10, 0, 0, 0, 0] :=
    ⟨World.ownsRow_lit w (cellsB [0, 10, 0, 0, 0, 0]).toArray 6 (Nat.le_refl _) (by unfold maxLen; decide) (by simp [cellsB_len]), by decide⟩
  exact h.rb.any
theorem udZ_put (f : Nat) : ([] ++ bput (20000 + f) 2) ++ bput 33434 2 ++ [0, 10, 0, 0, 0, 0] = udZ f 0 := by
  unfold udZ udpA
  rw [show bputs 2 [20000 + f, 33434, 8 + 2] = bput (20000 + f) 2 ++ (bput 33434 2 ++ bput 10 2) by simp [bputs]]
  rw [List.nil_append, List.append_assoc, List.append_assoc, List.append_assoc, List.append_assoc]
  rfl
set_option maxHeartbeats 2000000 in
theorem rdata_udp (P : Pr) (k : P.ok) (w : World) (hp : P.proto = 17) :
    Calls Try.prog 71 #[P.v] w fun e w' => ∃ v', e = .returned v' ∧ OwB w.heap.size w' v' P.data ∧ Gr w w' := by
  have hf := k.flow
  have ht := k.tag
  obtain ⟨W, hW⟩ : ∃ W, W = P.tag + 1 := ⟨_, rfl⟩
  obtain ⟨S, hS0⟩ : ∃ S, S = sP P.src P.dst 17 (udZ P.flow 0) := ⟨_, rfl⟩
  have hS1 : S ≤ 65535 := by rw [hS0]; exact s0_le _
  obtain ⟨M, hM⟩ : ∃ M, M = rbal S W := ⟨_, rfl⟩
  have hM1 : M ≤ 65535 := by rw [hM]; exact rbal_le _ _
  have HD := Lib.hid (show P.data = udpL P.src P.dst (20000 + P.flow) 33434 (bput M 2) by
    rw [Pr.data_udp hp, hM, rbal_eq hS1 (by omega), hS0, hW]; rfl)
  have HBA := Lib.hid (fun w => rbalanced_any S W w hS1 (by omega) M hM)
  have HPU := Lib.hid (fun w => rpush_any M 2 w (Rb.nil (fun _ => True) w) (by simp) (by omega) (by omega) (by show M < 65536; omega))
  have HE := Lib.hid (fun (v : Value) (w : World) (hv : Rb (fun _ => True) w v (bput M 2)) => rudp_ok P.src P.dst (20000 + P.flow) 33434 w hv k.src k.dst (by omega) (by decide) (by rw [bput_len]; omega))
  have HPS := Lib.hid (fun (v : Value) (w : World) (hv : Rb (fun _ => True) w v (udZ P.flow 0)) => r6pseudo_any P.src P.dst 17 w hv (by rw [udZ_len]; omega) k.src k.dst)
  rw [show pcE P.src P.dst 17 (udZ P.flow 0) = S from hS0.symm ▸ rfl] at HPS
  have HU := Lib.hid (udZ_put P.flow)
  rw [← HD.out] at HE
  obtain ⟨SP, hSP⟩ : ∃ SP, SP = 20000 + P.flow := ⟨_, rfl⟩
  rw [← hSP] at HE HU
  have hSP2 : SP < 65536 := by omega
  have eS : (20000 : Int) + (P.flow : Int) = (SP : Int) := by omega
  have wS : IntKind.i64.wrap (SP : Int) = (SP : Int) := by rw [IntWalk.i64_in _ (by omega)]
  have eW : (P.tag : Int) + 1 = (W : Int) := by omega
  have wW : IntKind.i64.wrap (W : Int) = (W : Int) := by rw [IntWalk.i64_in _ (by omega)]
  have d1 : ((P.proto : Int) == 1) = false := by rw [hp]; rfl
  have d2 : ((P.proto : Int) == 17) = true := by rw [hp]; rfl
  clear hp k hf ht hW hS0 hS1 hM hM1 hSP
  have HC := Lib.hid (CL.new w P.vs 65 _ rfl)
  have hG := Gr.alloc (Gr.refl w) (.cells P.vs.toArray 65)
  unfold Pr.v prV
  unfold Pr.vs at HC hG
  go_enter Try.func71, Try.ntmps71
  go_upto_region 1 with fail
  simp only [List.toArray] at hG
  generalize w.alloc (.cells #[.int .u32 P.src, .int .u32 P.dst, .int .i64 P.proto, .int .i64 P.flow, .int .i64 P.tag, .int .i64 P.ttl] 65) = w1 at HC hG ⊢
  have hle : w.heap.size ≤ w.heap.size := Nat.le_refl _
  generalize w.heap.size = g at HC ⊢
  clear hle
  obtain ⟨⟨x0, x1, x2, x3, x4, x5⟩, -⟩ := CL.six HC.out
  go_wp2_with fail
  refine (rpush_any SP 2 w1 (Rb.nil (fun _ => True) w1) (by simp) (by omega) (by omega) (by show SP < 65536; omega)).mono ?_
  rintro e w2 ⟨v2, rfl, ho2, hg2⟩
  have HO2 := Lib.hid ho2.rb.any
  obtain ⟨a2, c2, rfl, -, -⟩ := ho2.rb.any.form
  rw [show ([] ++ bput SP 2 : List Nat).length = 2 by simp [bput_len]] at HO2 ⊢
  clear ho2
  go_wp2_with fail
  refine (rpush_any 33434 2 w2 HO2.out (by simp [bput_len]) (by omega) (by omega) (by decide)).mono ?_
  rintro e w3 ⟨v3, rfl, ho3, hg3⟩
  replace ho3 := ho3.base (Gr.size hg2)
  replace hg2 := hg2.step hg3
  have HO3 := Lib.hid ho3
  obtain ⟨a3, c3, rfl, -, -⟩ := ho3.rb.any.form
  rw [show ([] ++ bput SP 2 ++ bput 33434 2 : List Nat).length = 4 by simp [bput_len]] at HO3 ⊢
  clear ho3 hg3 HO2
  have hgs := Gr.size hg2
  go_upto_region 12 with (at_builtin; refine wpList_app (base := w1.heap.size) rfl (.tmp 45) (.tmp 46) rfl rfl (HO3.out.gr (Gr.alloc (Gr.refl _) _)) rfl (rb_ten w3) (by simp [bput_len]) (by simp; omega) ?_; intro v4 w4 ho4 g4; have hg4 : Gr w1 w4 := (hg2.alloc _).grownNew g4 HO3.out.above; have HO4 := Lib.hid ho4; clear ho4 g4)
  rw [HU.out] at HO4
  obtain ⟨a4, c4, rfl, -, -⟩ := HO4.out.rb.any.form
  rw [udZ_len] at HO4 ⊢
  replace HC := Lib.hid (HC.out.gr hg4)
  replace hG := hG.step hg4
  have HV := Lib.hid HO4.out.rb.any
  clear hg2 hgs hg4 HO3 HO4 x0 x1 x2 x3 x4 x5
  have hE := CL.new w4 [.int .i64 SP, .int .i64 33434, .slice none 0 0] 41 _ rfl
  have hgn := Gr.alloc (Gr.refl w4) (.cells #[.int .i64 SP, .int .i64 33434, .slice none 0 0] 41)
  have hge : w.heap.size ≤ w4.heap.size := Gr.size hG
  have hgg : g < w4.heap.size := HC.out.lt
  simp only [List.toArray] at hE
  obtain ⟨⟨x0, x1, x2, x3, x4, x5⟩, -⟩ := CL.six HC.out
  go_upto_region 13 with fail
  generalize w4.alloc (.cells #[.int .i64 SP, .int .i64 33434, .slice none 0 0] 41) = w5 at hE hgn ⊢
  generalize w4.heap.size = ge at hE hge hgg ⊢
  replace HC := Lib.hid (HC.out.gr hgn)
  replace hG := hG.step hgn
  replace HV := Lib.hid (HV.out.gr hgn)
  clear hgn x0 x1 x2 x3 x4 x5
  have hS : Ex ge w5 w5.drew := Ex.drew (Ex.refl _ _)
  replace hG := hG.step (Gr.drew (Gr.refl w5))
  replace hE := hE.gr (Gr.drew (Gr.refl w5))
  have HV4 := HV.out.gr (Gr.drew (Gr.refl w5))
  have hge4 : ge < w5.drew.heap.size := hE.lt
  refine region_plain (Ex ge w5) (by kernel_rfl) ?_
  generalize w5.drew = w6 at hS hG hE HV4 hge4 ⊢
  refine take_at 0 (some 52) (v := ?vu0) rfl rfl (by kernel_rfl) (by kernel_rfl) (by kernel_rfl) (by rfl) ?yu0 hS ?tu0
  case yu0 =>
    intro w' hSw
    obtain - := hSw
    go_simp
    (try with_reducible rfl)
  simp only [Act.put, List.setIfInBounds_toArray, List.set_cons_zero, List.set_cons_succ]
  refine take_at 1 (some 53) (v := ?vu1) rfl rfl (by kernel_rfl) (by kernel_rfl) (by kernel_rfl) (by rfl) ?yu1 hS ?tu1
  case yu1 =>
    intro w' hSw
    obtain ⟨⟨q0, q1, q2, q3, q4, q5⟩, -⟩ := CL.six (HC.out.ex hSw (Nat.ne_of_lt hgg))
    go_simp
    (try with_reducible rfl)
  simp only [Act.put, List.setIfInBounds_toArray, List.set_cons_zero, List.set_cons_succ]
  refine take_at 2 (some 54) (v := ?vu2) rfl rfl (by kernel_rfl) (by kernel_rfl) (by kernel_rfl) (by rfl) ?yu2 hS ?tu2
  case yu2 =>
    intro w' hSw
    obtain - := hSw
    go_simp
    (try with_reducible rfl)
  simp only [Act.put, List.setIfInBounds_toArray, List.set_cons_zero, List.set_cons_succ]
  refine take_at 3 (some 55) (v := ?vu3) rfl rfl (by kernel_rfl) (by kernel_rfl) (by kernel_rfl) (by rfl) ?yu3 hS ?tu3
  case yu3 =>
    intro w' hSw
    obtain ⟨⟨q0, q1, q2, q3, q4, q5⟩, -⟩ := CL.six (HC.out.ex hSw (Nat.ne_of_lt hgg))
    go_simp
    (try with_reducible rfl)
  simp only [Act.put, List.setIfInBounds_toArray, List.set_cons_zero, List.set_cons_succ]
  refine take_at 4 (some 56) (v := ?vu4) rfl rfl (by kernel_rfl) (by kernel_rfl) (by kernel_rfl) (by rfl) ?yu4 hS ?tu4
  case yu4 =>
    intro w' hSw
    obtain - := hSw
    go_simp
    (try with_reducible rfl)
  simp only [Act.put, List.setIfInBounds_toArray, List.set_cons_zero, List.set_cons_succ]
  refine take_at 6 (some 58) (v := ?vu6) rfl rfl (by kernel_rfl) (by kernel_rfl) (by kernel_rfl) (by rfl) ?yu6 hS ?tu6
  case yu6 =>
    intro w' hSw
    obtain - := hSw
    go_simp
    (try with_reducible rfl)
  simp only [Act.put, List.setIfInBounds_toArray, List.set_cons_zero, List.set_cons_succ]
  refine take_at 7 (some 59) (v := ?vu7) rfl rfl (by kernel_rfl) (by kernel_rfl) (by kernel_rfl) (by rfl) ?yu7 hS ?tu7
  case yu7 =>
    intro w' hSw
    obtain ⟨⟨q0, q1, q2, q3, q4, q5⟩, -⟩ := CL.six (HC.out.ex hSw (Nat.ne_of_lt hgg))
    go_simp
    (try with_reducible rfl)
  simp only [Act.put, List.setIfInBounds_toArray, List.set_cons_zero, List.set_cons_succ]
  refine take_at 8 (some 60) (v := ?vu8) rfl rfl (by kernel_rfl) (by kernel_rfl) (by kernel_rfl) (by rfl) ?yu8 hS ?tu8
  case yu8 =>
    intro w' hSw
    obtain - := hSw
    go_simp
    (try with_reducible rfl)
  simp only [Act.put, List.setIfInBounds_toArray, List.set_cons_zero, List.set_cons_succ]
  refine next_at 5 rfl (by kernel_rfl) (by rfl) (fun K hK => ?_)
  go_simp
  refine (HPS.out _ _ HV4).mono ?_
  rintro e w5a ⟨rfl, hg⟩
  have hge5 := Nat.lt_of_lt_of_le hge4 (Gr.size hg)
  replace hG := hG.step hg
  replace hE := hE.gr hg
  replace hS := hS.trans (Ex.ofGr hg)
  clear hg HV4 hge4
  refine hK _ _ hS ?_
  clear hK K
  refine next_at 9 rfl (by kernel_rfl) (by rfl) (fun K hK => ?_)
  go_simp
  refine (HBA.out _).mono ?_
  rintro e w9a ⟨rfl, rfl⟩
  refine hK _ _ hS ?_
  clear hK K
  refine next_at 10 rfl (by kernel_rfl) (by rfl) (fun K hK => ?_)
  go_simp
  refine (HPU.out _).mono ?_
  rintro e w10a ⟨v6, rfl, ho, hg⟩
  have hv := ho.rb
  replace hG := hG.step hg
  replace hE := hE.gr hg
  replace hS := hS.trans (Ex.ofGr hg)
  obtain ⟨a6, c6, rfl, -, -⟩ := hv.form
  rw [show ([] ++ bput M 2 : List Nat).length = 2 by simp [bput_len]]
  have HV6 := Lib.hid (hv.imp (q := fun b => b ≠ ge) (fun b _ hb => by have := hge5; omega))
  rw [show ([] ++ bput M 2 : List Nat) = bput M 2 from rfl, bput_len] at HV6
  clear hv ho hg
  refine hK _ _ hS ?_
  clear hK K
  refine take_at 11 (some 63) (v := ?vu11) rfl rfl (by kernel_rfl) (by kernel_rfl) (by kernel_rfl) (by rfl) ?yu11 hS ?tu11
  case yu11 =>
    intro w' hSw
    obtain - := hSw
    go_simp
    (try with_reducible rfl)
  simp only [Act.put, List.setIfInBounds_toArray, List.set_cons_zero, List.set_cons_succ]
  have hES := hE.set 2 (.slice a6 2 c6) (by simp)
  have hSF := hS.set 2 (.slice a6 2 c6)
  have hGF := hG.setCell (p := ⟨ge, 2, none⟩) hge (.slice a6 2 c6)
  have HV7 := (HV6.out.ex (Ex.set (Ex.refl ge w10a) 2 (.slice a6 2 c6)) (fun b hb => hb)).any
  obtain ⟨⟨z0, z1, z2⟩, u0, u1, u2⟩ := hE.three
  refine next_at 12 rfl (by kernel_rfl) (by rfl) (fun K hK => ?_)
  go_simp
  refine hK _ _ hSF ?_
  clear hK K z0 z1 z2 u0 u1 u2
  simp only [List.set_cons_succ, List.set_cons_zero] at hES
  generalize w10a.setCell ⟨ge, 2, none⟩ (.slice a6 2 c6) = w7 at hES hSF hGF HV7 ⊢
  refine wpAnyH_done (by kernel_rfl) ?_ _
  refine qz_normal ?_
  obtain ⟨⟨z0, z1, z2⟩, -⟩ := hES.three
  obtain ⟨⟨x0, x1, x2, x3, x4, x5⟩, -⟩ := CL.six (HC.out.ex hSF (Nat.ne_of_lt hgg))
  go_wp2_with fail
  refine (HE.out _ _ HV7).mono ?_
  rintro e w8 ⟨v8, rfl, ho, hg⟩
  go_wp2_with fail
  go_ret
  exact ⟨_, rfl, ho.base (Gr.size hGF), hGF.step hg⟩
theorem rdata_any (P : Pr) (k : P.ok) (w : World) :
    Calls Try.prog 71 #[P.v] w fun e w' => ∃ v', e = .returned v' ∧ OwB w.heap.size w' v' P.data ∧ Gr w w' := by
  rcases k.proto with h | h | h
  · exact rdata_icmp P k w h
  · exact rdata_udp P k w h
  · exact rdata_tcp P k w h
theorem rencode_enc {p : Nat → Prop} {v : Value} {d : List Nat} (h : Hd) (k : h.ok) (w : World) (hr : Rb p w v d) (hl : d.length ≤ 1480) :
    Calls Try.prog 70 #[h.p v] w fun e w' => ∃ v', e = .returned (.tuple #[v', .int .i64 0]) ∧ OwB w.heap.size w' v' (enc h d) ∧ Gr w w' := rencode_ok h k w hr hl
theorem rbuild_bad (s d pr fl tg tt : Int) (w : World) (h : prbE pr fl tg tt ≠ 0) :
    Calls Try.prog 32 #[prV s d pr fl tg tt] w fun e w' => e = .returned (.tuple #[.slice none 0 0, .int .i64 (prbE pr fl tg tt : Nat)]) ∧ Gr w w' := by
  have HK := Lib.hid (fun w => rchk_any s d pr fl tg tt w)
  generalize prbE pr fl tg tt = E at *
  have d1 : ((E : Int) != 0) = true := by rw [bne_iff_ne]; omega
  clear h
  unfold prV at *
  go_enter Try.func32, Try.ntmps32
  go_wp2_with fail
  refine (HK.out _).mono ?_
  rintro e w1 ⟨rfl, hg⟩
  go_wp2_with fail
  go_ret2
  exact ⟨rfl, (Gr.alloc (Gr.refl w) _).step hg⟩
set_option maxHeartbeats 1000000 in
theorem rbuild_ok (P : Pr) (k : P.ok) (w : World) :
    Calls Try.prog 32 #[P.v] w fun e w' => ∃ v', e = .returned (.tuple #[v', .int .i64 0]) ∧ OwB w.heap.size w' v' P.pk ∧ Gr w w' := by
  have HK := Lib.hid (fun w => rchk_any P.src P.dst P.proto P.flow P.tag P.ttl w)
  rw [Pr.e_ok k] at HK
  have HD := Lib.hid (fun w => rdata_any P k w)
  have HE := Lib.hid (fun (v : Value) (w : World) (hv : Rb (fun _ => True) w v P.data) => rencode_enc P.hd (Pr.hd_ok k) w hv (by have := (Pr.data_at k).2.1; omega))
  have HC := Lib.hid (CL.new w P.vs 65 _ rfl)
  have hG := Gr.alloc (Gr.refl w) (.cells P.vs.toArray 65)
  clear k
  unfold Pr.v prV at *
  unfold Pr.vs at HC hG
  unfold Pr.hd Hd.p pkV at HE
  simp only at HE
  go_enter Try.func32, Try.ntmps32
  go_upto_region 1 with fail
  simp only [List.toArray] at hG
  generalize w.alloc (.cells #[.int .u32 P.src, .int .u32 P.dst, .int .i64 P.proto, .int .i64 P.flow, .int .i64 P.tag, .int .i64 P.ttl] 65) = w1 at HC hG ⊢
  generalize w.heap.size = g at HC ⊢
  obtain ⟨⟨x0, x1, x2, x3, x4, x5⟩, -⟩ := CL.six HC.out
  go_wp2_with fail
  refine (HK.out _).mono ?_
  rintro e w2 ⟨rfl, hg⟩
  have HC2 := Lib.hid (HC.out.gr hg)
  replace hG := hG.step hg
  clear x0 x1 x2 x3 x4 x5 HC hg HK
  go_wp2_with fail
  have hS : Gr w2 w2.drew := Gr.drew (Gr.refl _)
  refine region_plain (Gr w2) (by kernel_rfl) ?_
  generalize w2.drew = w4 at hS ⊢
  refine take_at 0 (some 10) (v := ?vb0) rfl rfl (by kernel_rfl) (by kernel_rfl) (by kernel_rfl) (by rfl) ?yb0 hS ?tb0
  case yb0 =>
    intro w' hSw
    obtain - := hSw
    go_simp
    (try with_reducible rfl)
  simp only [Act.put, List.setIfInBounds_toArray, List.set_cons_zero, List.set_cons_succ]
  refine take_at 1 (some 11) (v := ?vb1) rfl rfl (by kernel_rfl) (by kernel_rfl) (by kernel_rfl) (by rfl) ?yb1 hS ?tb1
  case yb1 =>
    intro w' hSw
    obtain ⟨⟨q0, q1, q2, q3, q4, q5⟩, -⟩ := CL.six (HC2.out.gr hSw)
    go_simp
    (try with_reducible rfl)
  simp only [Act.put, List.setIfInBounds_toArray, List.set_cons_zero, List.set_cons_succ]
  refine take_at 2 (some 12) (v := ?vb2) rfl rfl (by kernel_rfl) (by kernel_rfl) (by kernel_rfl) (by rfl) ?yb2 hS ?tb2
  case yb2 =>
    intro w' hSw
    obtain - := hSw
    go_simp
    (try with_reducible rfl)
  simp only [Act.put, List.setIfInBounds_toArray, List.set_cons_zero, List.set_cons_succ]
  refine take_at 3 (some 13) (v := ?vb3) rfl rfl (by kernel_rfl) (by kernel_rfl) (by kernel_rfl) (by rfl) ?yb3 hS ?tb3
  case yb3 =>
    intro w' hSw
    obtain ⟨⟨q0, q1, q2, q3, q4, q5⟩, -⟩ := CL.six (HC2.out.gr hSw)
    go_simp
    (try with_reducible rfl)
  simp only [Act.put, List.setIfInBounds_toArray, List.set_cons_zero, List.set_cons_succ]
  refine take_at 4 (some 14) (v := ?vb4) rfl rfl (by kernel_rfl) (by kernel_rfl) (by kernel_rfl) (by rfl) ?yb4 hS ?tb4
  case yb4 =>
    intro w' hSw
    obtain - := hSw
    go_simp
    (try with_reducible rfl)
  simp only [Act.put, List.setIfInBounds_toArray, List.set_cons_zero, List.set_cons_succ]
  refine take_at 5 (some 15) (v := ?vb5) rfl rfl (by kernel_rfl) (by kernel_rfl) (by kernel_rfl) (by rfl) ?yb5 hS ?tb5
  case yb5 =>
    intro w' hSw
    obtain ⟨⟨q0, q1, q2, q3, q4, q5⟩, -⟩ := CL.six (HC2.out.gr hSw)
    go_simp
    (try with_reducible rfl)
  simp only [Act.put, List.setIfInBounds_toArray, List.set_cons_zero, List.set_cons_succ]
  refine take_at 6 (some 16) (v := ?vb6) rfl rfl (by kernel_rfl) (by kernel_rfl) (by kernel_rfl) (by rfl) ?yb6 hS ?tb6
  case yb6 =>
    intro w' hSw
    obtain - := hSw
    go_simp
    (try with_reducible rfl)
  simp only [Act.put, List.setIfInBounds_toArray, List.set_cons_zero, List.set_cons_succ]
  refine take_at 7 (some 17) (v := ?vb7) rfl rfl (by kernel_rfl) (by kernel_rfl) (by kernel_rfl) (by rfl) ?yb7 hS ?tb7
  case yb7 =>
    intro w' hSw
    obtain ⟨⟨q0, q1, q2, q3, q4, q5⟩, -⟩ := CL.six (HC2.out.gr hSw)
    go_simp
    (try with_reducible rfl)
  simp only [Act.put, List.setIfInBounds_toArray, List.set_cons_zero, List.set_cons_succ]
  refine take_at 8 (some 18) (v := ?vb8) rfl rfl (by kernel_rfl) (by kernel_rfl) (by kernel_rfl) (by rfl) ?yb8 hS ?tb8
  case yb8 =>
    intro w' hSw
    obtain - := hSw
    go_simp
    (try with_reducible rfl)
  simp only [Act.put, List.setIfInBounds_toArray, List.set_cons_zero, List.set_cons_succ]
  refine take_at 9 (some 19) (v := ?vb9) rfl rfl (by kernel_rfl) (by kernel_rfl) (by kernel_rfl) (by rfl) ?yb9 hS ?tb9
  case yb9 =>
    intro w' hSw
    obtain ⟨⟨q0, q1, q2, q3, q4, q5⟩, -⟩ := CL.six (HC2.out.gr hSw)
    go_simp
    (try with_reducible rfl)
  simp only [Act.put, List.setIfInBounds_toArray, List.set_cons_zero, List.set_cons_succ]
  refine take_at 10 (some 20) (v := ?vb10) rfl rfl (by kernel_rfl) (by kernel_rfl) (by kernel_rfl) (by rfl) ?yb10 hS ?tb10
  case yb10 =>
    intro w' hSw
    obtain - := hSw
    go_simp
    (try with_reducible rfl)
  simp only [Act.put, List.setIfInBounds_toArray, List.set_cons_zero, List.set_cons_succ]
  refine take_at 11 (some 21) (v := ?vb11) rfl rfl (by kernel_rfl) (by kernel_rfl) (by kernel_rfl) (by rfl) ?yb11 hS ?tb11
  case yb11 =>
    intro w' hSw
    obtain ⟨⟨q0, q1, q2, q3, q4, q5⟩, -⟩ := CL.six (HC2.out.gr hSw)
    go_simp
    (try with_reducible rfl)
  simp only [Act.put, List.setIfInBounds_toArray, List.set_cons_zero, List.set_cons_succ]
  refine next_at 12 rfl (by kernel_rfl) (by rfl) (fun K hK => ?_)
  go_simp
  refine (HD.out _).mono ?_
  rintro e w5 ⟨v5, rfl, ho, hg⟩
  have hr := ho.rb.any
  obtain ⟨a5, c5, rfl, -, -⟩ := hr.form
  generalize P.data.length = N at hr ⊢
  have HX := Lib.hid (HE.out _ _ hr)
  replace hS := hS.step hg
  refine hK _ _ hS ?_
  clear hK K ho hg hr
  refine next_at 13 rfl (by kernel_rfl) (by rfl) (fun K hK => ?_)
  go_simp
  refine hK _ _ hS ?_
  clear hK K
  refine next_at 14 rfl (by kernel_rfl) (by rfl) (fun K hK => ?_)
  go_simp
  refine HX.out.mono ?_
  rintro e w6 ⟨v6, rfl, ho, hg⟩
  replace ho := ho.base (Gr.size (hG.step hS))
  replace hS := hS.step hg
  refine hK _ _ hS ?_
  clear hK K hg HX
  refine take_at 15 (some 25) (v := ?vb15) rfl rfl (by kernel_rfl) (by kernel_rfl) (by kernel_rfl) (by rfl) ?yb15 hS ?tb15
  case yb15 =>
    intro w' hSw
    obtain - := hSw
    go_simp
    (try with_reducible rfl)
  simp only [Act.put, List.setIfInBounds_toArray, List.set_cons_zero, List.set_cons_succ]
  refine take_at 16 (some 26) (v := ?vb16) rfl rfl (by kernel_rfl) (by kernel_rfl) (by kernel_rfl) (by rfl) ?yb16 hS ?tb16
  case yb16 =>
    intro w' hSw
    obtain - := hSw
    go_simp
    (try with_reducible rfl)
  simp only [Act.put, List.setIfInBounds_toArray, List.set_cons_zero, List.set_cons_succ]
  refine next_at 17 rfl (by kernel_rfl) (by rfl) (fun K hK => ?_)
  go_simp
  refine hK _ _ hS ?_
  clear hK K
  refine next_at 18 rfl (by kernel_rfl) (by rfl) (fun K hK => ?_)
  go_simp
  refine hK _ _ hS ?_
  clear hK K
  refine wpAnyH_done (by kernel_rfl) ?_ _
  refine qz_normal ?_
  have hz := hG.step hS
  go_wp2_with fail
  go_ret2
  exact ⟨_, rfl, ho, hz⟩
end Go.Proofs.Ytlkhdbgknkjioaa
/- Keys of the document. -/
namespace Go.Proofs.Ytlkhdbgknkjioaa
open Go Go.RowKit Go.Sort
set_option maxRecDepth 100000
set_option linter.unusedVariables false
set_option linter.unusedSimpArgs false
theorem rkey_short {p : Nat → Prop} {v : Value} {d : List Nat} (h : Hd) (w : World) (hr : Rb p w v d) (h4 : ¬ 4 ≤ d.length) :
    Calls Try.prog 77 #[h.p v] w fun e w' => e = .returned (kyV h.src h.dst h.proto (kA h.proto d) (kB h.proto d)) ∧ Gr w w' := by
  have HR := Lib.hid hr
  obtain ⟨av, cv, rfl, -, -⟩ := hr.form
  obtain ⟨N, hN⟩ : ∃ N, N = d.length := ⟨_, rfl⟩
  obtain ⟨A, hA⟩ : ∃ A, A = kA h.proto d := ⟨_, rfl⟩
  obtain ⟨B, hB⟩ : ∃ B, B = kB h.proto d := ⟨_, rfl⟩
  rw [← hA, ← hB]
  rw [← hN] at HR ⊢
  have hC := (CL.new w [.int .i64 h.tos, .int .i64 h.id, .int .i64 h.ttl, .int .i64 h.proto, .bool h.keep, .int .u32 h.src, .int .u32 h.dst, .slice av N cv] 85 _ rfl).gr (Gr.alloc (Gr.refl _) (.cells #[.int .u32 0, .int .u32 0, .int .i64 0, .int .i64 0, .int .i64 0] 70))
  have hR := CL.new (w.alloc (.cells #[.int .i64 h.tos, .int .i64 h.id, .int .i64 h.ttl, .int .i64 h.proto, .bool h.keep, .int .u32 h.src, .int .u32 h.dst, .slice av N cv] 85)) [.int .u32 0, .int .u32 0, .int .i64 0, .int .i64 0, .int .i64 0] 70 (w.heap.size + 1) (by simp)
  have hG2 := ((Gr.refl w).alloc (.cells #[.int .i64 h.tos, .int .i64 h.id, .int .i64 h.ttl, .int .i64 h.proto, .bool h.keep, .int .u32 h.src, .int .u32 h.dst, .slice av N cv] 85)).alloc (.cells #[.int .u32 0, .int .u32 0, .int .i64 0, .int .i64 0, .int .i64 0] 70)
  have HA : Hid (A = 0) := Lib.hid (hA.trans (if_neg (fun k => by have := k.2; omega)))
  have HB : Hid (B = 0) := Lib.hid (hB.trans (if_neg (fun k => by have := k.2; omega)))
  have d4 : decide ((4 : Int) ≤ (N : Int)) = false := by rw [decide_eq_false_iff_not]; omega
  clear h4
  clear hN hA hB
  clear hr
  unfold Hd.p pkV kyV
  go_enter Try.func77, Try.ntmps77
  go_upto_region 1 with fail
  have hgz : w.heap.size < w.heap.size + 1 := by omega
  simp only [List.toArray] at hC hR
  generalize (w.alloc (.cells #[.int .i64 h.tos, .int .i64 h.id, .int .i64 h.ttl, .int .i64 h.proto, .bool h.keep, .int .u32 h.src, .int .u32 h.dst, .slice av N cv] 85)).alloc (.cells #[.int .u32 0, .int .u32 0, .int .i64 0, .int .i64 0, .int .i64 0] 70) = w2 at hC hR hG2 ⊢
  generalize w.heap.size + 1 = g2 at hR hgz ⊢
  have HC2 := Lib.hid hC
  clear hC
  obtain ⟨⟨q0, q1, q2, q3, q4, q5, q6, q7⟩, -⟩ := HC2.out.eight
  go_upto_region 2 with fail
  clear q0 q1 q2 q3 q4 q5 q6 q7
  have hY := CL.new w2 [.int .u32 h.src, .int .u32 h.dst, .int .i64 h.proto, .int .i64 0, .int .i64 0] 70 _ rfl
  have hg3 := Gr.alloc (Gr.refl w2) (.cells #[.int .u32 h.src, .int .u32 h.dst, .int .i64 h.proto, .int .i64 0, .int .i64 0] 70)
  have hne : w2.heap.size ≠ g2 := by have := hR.lt; omega
  have hle3 : w.heap.size < w2.heap.size := by have := hR.lt; omega
  simp only [List.toArray] at hY
  generalize w2.alloc (.cells #[.int .u32 h.src, .int .u32 h.dst, .int .i64 h.proto, .int .i64 0, .int .i64 0] 70) = w3 at hY hg3 ⊢
  generalize w2.heap.size = g3 at hY hne hle3 ⊢
  have HC := Lib.hid (HC2.out.gr hg3)
  have hR3 := hR.gr hg3
  have hG := hG2.step hg3
  have HZ := Lib.hid (And.intro hgz (And.intro hle3 hne))
  clear HC2 hR hG2 hg3 hgz hle3 hne
  obtain ⟨⟨y0, y1, y2, y3, y4⟩, u0, u1, u2, u3, u4⟩ := CL.five hY
  obtain ⟨⟨q0, q1, q2, q3, q4, q5, q6, q7⟩, -⟩ := HC.out.eight
  obtain ⟨⟨r0, r1, r2, r3, r4⟩, s0, s1, s2, s3, s4⟩ := CL.five hR3
  go_wp2_with fail
  clear r0 r1 r2 r3 r4 s0 s1 s2 s3 s4 q0 q1 q2 q3 q4 q5 q6 q7 y0 y1 y2 y3 y4 u0 u1 u2 u3 u4
  have hcF := hR3.fill [.int .u32 h.src, .int .u32 h.dst, .int .i64 h.proto, .int .i64 0, .int .i64 0] rfl
  have hgF := hG.fill (Nat.le_of_lt HZ.out.1) [.int .u32 h.src, .int .u32 h.dst, .int .i64 h.proto, .int .i64 0, .int .i64 0] 0
  simp only [fillC, Nat.reduceAdd] at hcF hgF
  generalize ((((w3.setCell ⟨g2, 0, none⟩ (.int .u32 h.src)).setCell ⟨g2, 1, none⟩ (.int .u32 h.dst)).setCell ⟨g2, 2, none⟩ (.int .i64 h.proto)).setCell ⟨g2, 3, none⟩ (.int .i64 0)).setCell ⟨g2, 4, none⟩ (.int .i64 0) = wF at hcF hgF ⊢
  obtain ⟨⟨c0, c1, c2, c3, c4⟩, -⟩ := CL.five hcF
  exact bodyPost_ret (v := .agg #[.int .u32 h.src, .int .u32 h.dst, .int .i64 h.proto, .int .i64 0, .int .i64 0]) (by simp [results, Try.results77, go_sem, c0, c1, c2, c3, c4]) rfl ⟨by first | rfl | (rw [HA.out, HB.out]; rfl), hgF⟩
theorem rkey_no {p : Nat → Prop} {v : Value} {d : List Nat} (h : Hd) (w : World) (hr : Rb p w v d) (h4 : 4 ≤ d.length) (hs : ¬ sup h.proto) :
    Calls Try.prog 77 #[h.p v] w fun e w' => e = .returned (kyV h.src h.dst h.proto (kA h.proto d) (kB h.proto d)) ∧ Gr w w' := by
  have HR := Lib.hid hr
  obtain ⟨av, cv, rfl, -, -⟩ := hr.form
  obtain ⟨N, hN⟩ : ∃ N, N = d.length := ⟨_, rfl⟩
  obtain ⟨A, hA⟩ : ∃ A, A = kA h.proto d := ⟨_, rfl⟩
  obtain ⟨B, hB⟩ : ∃ B, B = kB h.proto d := ⟨_, rfl⟩
  rw [← hA, ← hB]
  rw [← hN] at HR ⊢
  have hC := (CL.new w [.int .i64 h.tos, .int .i64 h.id, .int .i64 h.ttl, .int .i64 h.proto, .bool h.keep, .int .u32 h.src, .int .u32 h.dst, .slice av N cv] 85 _ rfl).gr (Gr.alloc (Gr.refl _) (.cells #[.int .u32 0, .int .u32 0, .int .i64 0, .int .i64 0, .int .i64 0] 70))
  have hR := CL.new (w.alloc (.cells #[.int .i64 h.tos, .int .i64 h.id, .int .i64 h.ttl, .int .i64 h.proto, .bool h.keep, .int .u32 h.src, .int .u32 h.dst, .slice av N cv] 85)) [.int .u32 0, .int .u32 0, .int .i64 0, .int .i64 0, .int .i64 0] 70 (w.heap.size + 1) (by simp)
  have hG2 := ((Gr.refl w).alloc (.cells #[.int .i64 h.tos, .int .i64 h.id, .int .i64 h.ttl, .int .i64 h.proto, .bool h.keep, .int .u32 h.src, .int .u32 h.dst, .slice av N cv] 85)).alloc (.cells #[.int .u32 0, .int .u32 0, .int .i64 0, .int .i64 0, .int .i64 0] 70)
  have HA : Hid (A = 0) := Lib.hid (hA.trans (if_neg (fun k => hs (by have := k.1; unfold sup; omega))))
  have HB : Hid (B = 0) := Lib.hid (hB.trans (if_neg (fun k => hs (by have := k.1; unfold sup; omega))))
  have d4 : decide ((4 : Int) ≤ (N : Int)) = true := by rw [decide_eq_true_eq]; omega
  unfold sup at hs
  have d1 : ((h.proto : Int) == 1) = false := by simpa using (by omega : ¬ (h.proto : Int) = 1)
  have d2 : ((h.proto : Int) == 17) = false := by simpa using (by omega : ¬ (h.proto : Int) = 17)
  have d3 : ((h.proto : Int) == 6) = false := by simpa using (by omega : ¬ (h.proto : Int) = 6)
  clear h4 hs
  clear hN hA hB
  clear hr
  unfold Hd.p pkV kyV
  go_enter Try.func77, Try.ntmps77
  go_upto_region 1 with fail
  have hgz : w.heap.size < w.heap.size + 1 := by omega
  simp only [List.toArray] at hC hR
  generalize (w.alloc (.cells #[.int .i64 h.tos, .int .i64 h.id, .int .i64 h.ttl, .int .i64 h.proto, .bool h.keep, .int .u32 h.src, .int .u32 h.dst, .slice av N cv] 85)).alloc (.cells #[.int .u32 0, .int .u32 0, .int .i64 0, .int .i64 0, .int .i64 0] 70) = w2 at hC hR hG2 ⊢
  generalize w.heap.size + 1 = g2 at hR hgz ⊢
  have HC2 := Lib.hid hC
  clear hC
  obtain ⟨⟨q0, q1, q2, q3, q4, q5, q6, q7⟩, -⟩ := HC2.out.eight
  go_upto_region 2 with fail
  clear q0 q1 q2 q3 q4 q5 q6 q7
  have hY := CL.new w2 [.int .u32 h.src, .int .u32 h.dst, .int .i64 h.proto, .int .i64 0, .int .i64 0] 70 _ rfl
  have hg3 := Gr.alloc (Gr.refl w2) (.cells #[.int .u32 h.src, .int .u32 h.dst, .int .i64 h.proto, .int .i64 0, .int .i64 0] 70)
  have hne : w2.heap.size ≠ g2 := by have := hR.lt; omega
  have hle3 : w.heap.size < w2.heap.size := by have := hR.lt; omega
  simp only [List.toArray] at hY
  generalize w2.alloc (.cells #[.int .u32 h.src, .int .u32 h.dst, .int .i64 h.proto, .int .i64 0, .int .i64 0] 70) = w3 at hY hg3 ⊢
  generalize w2.heap.size = g3 at hY hne hle3 ⊢
  have HC := Lib.hid (HC2.out.gr hg3)
  have hR3 := hR.gr hg3
  have hG := hG2.step hg3
  have HZ := Lib.hid (And.intro hgz (And.intro hle3 hne))
  clear HC2 hR hG2 hg3 hgz hle3 hne
  obtain ⟨⟨y0, y1, y2, y3, y4⟩, u0, u1, u2, u3, u4⟩ := CL.five hY
  obtain ⟨⟨q0, q1, q2, q3, q4, q5, q6, q7⟩, -⟩ := HC.out.eight
  obtain ⟨⟨r0, r1, r2, r3, r4⟩, s0, s1, s2, s3, s4⟩ := CL.five hR3
  go_wp2_with fail
  clear r0 r1 r2 r3 r4 s0 s1 s2 s3 s4 q0 q1 q2 q3 q4 q5 q6 q7 y0 y1 y2 y3 y4 u0 u1 u2 u3 u4
  have hcF := hR3.fill [.int .u32 h.src, .int .u32 h.dst, .int .i64 h.proto, .int .i64 0, .int .i64 0] rfl
  have hgF := hG.fill (Nat.le_of_lt HZ.out.1) [.int .u32 h.src, .int .u32 h.dst, .int .i64 h.proto, .int .i64 0, .int .i64 0] 0
  simp only [fillC, Nat.reduceAdd] at hcF hgF
  generalize ((((w3.setCell ⟨g2, 0, none⟩ (.int .u32 h.src)).setCell ⟨g2, 1, none⟩ (.int .u32 h.dst)).setCell ⟨g2, 2, none⟩ (.int .i64 h.proto)).setCell ⟨g2, 3, none⟩ (.int .i64 0)).setCell ⟨g2, 4, none⟩ (.int .i64 0) = wF at hcF hgF ⊢
  obtain ⟨⟨c0, c1, c2, c3, c4⟩, -⟩ := CL.five hcF
  exact bodyPost_ret (v := .agg #[.int .u32 h.src, .int .u32 h.dst, .int .i64 h.proto, .int .i64 0, .int .i64 0]) (by simp [results, Try.results77, go_sem, c0, c1, c2, c3, c4]) rfl ⟨by first | rfl | (rw [HA.out, HB.out]; rfl), hgF⟩
set_option maxHeartbeats 1000000 in
theorem rkey_long {p : Nat → Prop} {v : Value} {d : List Nat} (h : Hd) (w : World) (hr : Rb p w v d) (h4 : 4 ≤ d.length) (hs : sup h.proto) (hl : d.length ≤ 100000) :
    Calls Try.prog 77 #[h.p v] w fun e w' => e = .returned (kyV h.src h.dst h.proto (kA h.proto d) (kB h.proto d)) ∧ Gr w w' := by
  have HR := Lib.hid hr
  obtain ⟨av, cv, rfl, -, -⟩ := hr.form
  obtain ⟨N, hN⟩ : ∃ N, N = d.length := ⟨_, rfl⟩
  obtain ⟨A, hA⟩ : ∃ A, A = kA h.proto d := ⟨_, rfl⟩
  obtain ⟨B, hB⟩ : ∃ B, B = kB h.proto d := ⟨_, rfl⟩
  rw [← hA, ← hB]
  rw [← hN] at HR ⊢
  have hC := (CL.new w [.int .i64 h.tos, .int .i64 h.id, .int .i64 h.ttl, .int .i64 h.proto, .bool h.keep, .int .u32 h.src, .int .u32 h.dst, .slice av N cv] 85 _ rfl).gr (Gr.alloc (Gr.refl _) (.cells #[.int .u32 0, .int .u32 0, .int .i64 0, .int .i64 0, .int .i64 0] 70))
  have hR := CL.new (w.alloc (.cells #[.int .i64 h.tos, .int .i64 h.id, .int .i64 h.ttl, .int .i64 h.proto, .bool h.keep, .int .u32 h.src, .int .u32 h.dst, .slice av N cv] 85)) [.int .u32 0, .int .u32 0, .int .i64 0, .int .i64 0, .int .i64 0] 70 (w.heap.size + 1) (by simp)
  have hG2 := ((Gr.refl w).alloc (.cells #[.int .i64 h.tos, .int .i64 h.id, .int .i64 h.ttl, .int .i64 h.proto, .bool h.keep, .int .u32 h.src, .int .u32 h.dst, .slice av N cv] 85)).alloc (.cells #[.int .u32 0, .int .u32 0, .int .i64 0, .int .i64 0, .int .i64 0] 70)
  have hq : (h.proto = 1 ∨ h.proto = 17 ∨ h.proto = 6) ∧ 4 ≤ d.length := ⟨by unfold sup at hs; omega, h4⟩
  have HA : Hid (A = A) := Lib.hid rfl
  have HB : Hid (B = B) := Lib.hid rfl
  have hAe : gN d 0 2 = A := (hA.trans (if_pos hq)).symm
  have hBe : gN d 2 2 = B := (hB.trans (if_pos hq)).symm
  have HG0 := Lib.hid (fun w' (g : Gr w w') => rat_any 0 2 w' (hr.gr g) (by omega) (by omega) (by omega) hl)
  have HG1 := Lib.hid (fun w' (g : Gr w w') => rat_any 2 2 w' (hr.gr g) (by omega) (by omega) (by omega) hl)
  rw [← hN, hAe] at HG0
  rw [← hN, hBe] at HG1
  have d4 : decide ((4 : Int) ≤ (N : Int)) = true := by rw [decide_eq_true_eq]; omega
  rcases hq.1 with hp | hp | hp
  · have d1 : ((h.proto : Int) == 1) = true := by rw [hp]; rfl
    clear h4 hq hp hAe hBe hs hl
    clear hN hA hB
    clear hr
    unfold Hd.p pkV kyV
    go_enter Try.func77, Try.ntmps77
    go_upto_region 1 with fail
    have hgz : w.heap.size < w.heap.size + 1 := by omega
    simp only [List.toArray] at hC hR
    generalize (w.alloc (.cells #[.int .i64 h.tos, .int .i64 h.id, .int .i64 h.ttl, .int .i64 h.proto, .bool h.keep, .int .u32 h.src, .int .u32 h.dst, .slice av N cv] 85)).alloc (.cells #[.int .u32 0, .int .u32 0, .int .i64 0, .int .i64 0, .int .i64 0] 70) = w2 at hC hR hG2 ⊢
    generalize w.heap.size + 1 = g2 at hR hgz ⊢
    have HC2 := Lib.hid hC
    clear hC
    obtain ⟨⟨q0, q1, q2, q3, q4, q5, q6, q7⟩, -⟩ := HC2.out.eight
    go_upto_region 2 with fail
    clear q0 q1 q2 q3 q4 q5 q6 q7
    have hY := CL.new w2 [.int .u32 h.src, .int .u32 h.dst, .int .i64 h.proto, .int .i64 0, .int .i64 0] 70 _ rfl
    have hg3 := Gr.alloc (Gr.refl w2) (.cells #[.int .u32 h.src, .int .u32 h.dst, .int .i64 h.proto, .int .i64 0, .int .i64 0] 70)
    have hne : w2.heap.size ≠ g2 := by have := hR.lt; omega
    have hle3 : w.heap.size < w2.heap.size := by have := hR.lt; omega
    simp only [List.toArray] at hY
    generalize w2.alloc (.cells #[.int .u32 h.src, .int .u32 h.dst, .int .i64 h.proto, .int .i64 0, .int .i64 0] 70) = w3 at hY hg3 ⊢
    generalize w2.heap.size = g3 at hY hne hle3 ⊢
    have HC := Lib.hid (HC2.out.gr hg3)
    have hR3 := hR.gr hg3
    have hG := hG2.step hg3
    have HZ := Lib.hid (And.intro hgz (And.intro hle3 hne))
    clear HC2 hR hG2 hg3 hgz hle3 hne
    obtain ⟨⟨y0, y1, y2, y3, y4⟩, u0, u1, u2, u3, u4⟩ := CL.five hY
    obtain ⟨⟨q0, q1, q2, q3, q4, q5, q6, q7⟩, -⟩ := HC.out.eight
    go_wp2_with fail
    clear q0 q1 q2 q3 q4 q5 q6 q7 y0 y1 y2 y3 y4 u0 u1 u2 u3 u4
    have hS : Ex g3 w3 w3.drew := Ex.drew (Ex.refl _ _)
    replace hG := hG.step (Gr.drew (Gr.refl w3))
    replace hY := hY.gr (Gr.drew (Gr.refl w3))
    replace hR3 := hR3.gr (Gr.drew (Gr.refl w3))
    have hz := HZ.out
    have hnp : w.heap.size ≠ g3 := by omega
    clear hz
    refine region_plain (Ex g3 w3) (by kernel_rfl) ?_
    generalize w3.drew = w5 at hS hG hY hR3 ⊢
    refine take_at 0 (some 33) (v := ?va0) rfl rfl (by kernel_rfl) (by kernel_rfl) (by kernel_rfl) (by rfl) ?ya0 hS ?ta0
    case ya0 =>
      intro w' hSw
      obtain - := hSw
      go_simp
      (try with_reducible rfl)
    simp only [Act.put, List.setIfInBounds_toArray, List.set_cons_zero, List.set_cons_succ]
    refine take_at 1 (some 34) (v := ?va1) rfl rfl (by kernel_rfl) (by kernel_rfl) (by kernel_rfl) (by rfl) ?ya1 hS ?ta1
    case ya1 =>
      intro w' hSw
      obtain ⟨⟨q0, q1, q2, q3, q4, q5, q6, q7⟩, -⟩ := (HC.out.ex hSw hnp).eight
      go_simp
      (try with_reducible rfl)
    simp only [Act.put, List.setIfInBounds_toArray, List.set_cons_zero, List.set_cons_succ]
    refine take_at 3 (some 36) (v := ?va3) rfl rfl (by kernel_rfl) (by kernel_rfl) (by kernel_rfl) (by rfl) ?ya3 hS ?ta3
    case ya3 =>
      intro w' hSw
      obtain - := hSw
      go_simp
      (try with_reducible rfl)
    simp only [Act.put, List.setIfInBounds_toArray, List.set_cons_zero, List.set_cons_succ]
    refine take_at 4 (some 37) (v := ?va4) rfl rfl (by kernel_rfl) (by kernel_rfl) (by kernel_rfl) (by rfl) ?ya4 hS ?ta4
    case ya4 =>
      intro w' hSw
      obtain ⟨⟨q0, q1, q2, q3, q4, q5, q6, q7⟩, -⟩ := (HC.out.ex hSw hnp).eight
      go_simp
      (try with_reducible rfl)
    simp only [Act.put, List.setIfInBounds_toArray, List.set_cons_zero, List.set_cons_succ]
    refine next_at 2 rfl (by kernel_rfl) (by rfl) (fun K hK => ?_)
    go_simp
    refine (HG0.out _ hG).mono ?_
    rintro e w2a ⟨rfl, rfl⟩
    refine hK _ _ hS ?_
    clear hK K
    refine take_at 6 (some 39) (v := ?va6) rfl rfl (by kernel_rfl) (by kernel_rfl) (by kernel_rfl) (by rfl) ?ya6 hS ?ta6
    case ya6 =>
      intro w' hSw
      obtain - := hSw
      go_simp
      (try with_reducible rfl)
    simp only [Act.put, List.setIfInBounds_toArray, List.set_cons_zero, List.set_cons_succ]
    refine next_at 5 rfl (by kernel_rfl) (by rfl) (fun K hK => ?_)
    go_simp
    refine (HG1.out _ hG).mono ?_
    rintro e w5a ⟨rfl, rfl⟩
    refine hK _ _ hS ?_
    clear hK K
    have hz := HZ.out
    have hY1 := hY.set 3 (.int .i64 A) (by simp)
    have hR4 := hR3.other (s := g3) (o := 3) (.int .i64 A) (by omega)
    have hG4 := hG.setCell (p := ⟨g3, 3, none⟩) (by show w.heap.size ≤ g3; omega) (.int .i64 A)
    have hS4 := hS.set 3 (.int .i64 A)
    simp only [List.set_cons_succ, List.set_cons_zero] at hY1
    clear hz
    obtain ⟨⟨y0, y1, y2, y3, y4⟩, u0, u1, u2, u3, u4⟩ := CL.five hY
    refine next_at 7 rfl (by kernel_rfl) (by rfl) (fun K hK => ?_)
    go_simp
    refine hK _ _ hS4 ?_
    clear hK K y0 y1 y2 y3 y4 u0 u1 u2 u3 u4 hY hR3 hG hS
    generalize w5.setCell ⟨g3, 3, none⟩ (.int .i64 A) = w6 at hY1 hR4 hG4 hS4 ⊢
    have hY := hY1
    have hR3 := hR4
    have hG := hG4
    have hS := hS4
    clear hY1 hR4 hG4 hS4
    refine take_at 8 (some 40) (v := ?va8) rfl rfl (by kernel_rfl) (by kernel_rfl) (by kernel_rfl) (by rfl) ?ya8 hS ?ta8
    case ya8 =>
      intro w' hSw
      obtain - := hSw
      go_simp
      (try with_reducible rfl)
    simp only [Act.put, List.setIfInBounds_toArray, List.set_cons_zero, List.set_cons_succ]
    have hz := HZ.out
    have hY1 := hY.set 4 (.int .i64 B) (by simp)
    have hR4 := hR3.other (s := g3) (o := 4) (.int .i64 B) (by omega)
    have hG4 := hG.setCell (p := ⟨g3, 4, none⟩) (by show w.heap.size ≤ g3; omega) (.int .i64 B)
    have hS4 := hS.set 4 (.int .i64 B)
    simp only [List.set_cons_succ, List.set_cons_zero] at hY1
    clear hz
    obtain ⟨⟨y0, y1, y2, y3, y4⟩, u0, u1, u2, u3, u4⟩ := CL.five hY
    refine next_at 9 rfl (by kernel_rfl) (by rfl) (fun K hK => ?_)
    go_simp
    refine hK _ _ hS4 ?_
    clear hK K y0 y1 y2 y3 y4 u0 u1 u2 u3 u4 hY hR3 hG hS
    generalize w6.setCell ⟨g3, 4, none⟩ (.int .i64 B) = w7 at hY1 hR4 hG4 hS4 ⊢
    have hY := hY1
    have hR3 := hR4
    have hG := hG4
    have hS := hS4
    clear hY1 hR4 hG4 hS4
    refine wpAnyH_done (by kernel_rfl) ?_ _
    refine qz_normal ?_
    obtain ⟨⟨y0, y1, y2, y3, y4⟩, u0, u1, u2, u3, u4⟩ := CL.five hY
    obtain ⟨⟨r0, r1, r2, r3, r4⟩, s0, s1, s2, s3, s4⟩ := CL.five hR3
    go_wp2_with fail
    clear r0 r1 r2 r3 r4 s0 s1 s2 s3 s4 y0 y1 y2 y3 y4 u0 u1 u2 u3 u4
    have hcF := hR3.fill [.int .u32 h.src, .int .u32 h.dst, .int .i64 h.proto, .int .i64 A, .int .i64 B] rfl
    have hgF := hG.fill (Nat.le_of_lt HZ.out.1) [.int .u32 h.src, .int .u32 h.dst, .int .i64 h.proto, .int .i64 A, .int .i64 B] 0
    simp only [fillC, Nat.reduceAdd] at hcF hgF
    generalize ((((w7.setCell ⟨g2, 0, none⟩ (.int .u32 h.src)).setCell ⟨g2, 1, none⟩ (.int .u32 h.dst)).setCell ⟨g2, 2, none⟩ (.int .i64 h.proto)).setCell ⟨g2, 3, none⟩ (.int .i64 A)).setCell ⟨g2, 4, none⟩ (.int .i64 B) = wF at hcF hgF ⊢
    obtain ⟨⟨c0, c1, c2, c3, c4⟩, -⟩ := CL.five hcF
    exact bodyPost_ret (v := .agg #[.int .u32 h.src, .int .u32 h.dst, .int .i64 h.proto, .int .i64 A, .int .i64 B]) (by simp [results, Try.results77, go_sem, c0, c1, c2, c3, c4]) rfl ⟨by first | rfl | (rw [HA.out, HB.out]; rfl), hgF⟩
  · have d1 : ((h.proto : Int) == 1) = false := by rw [hp]; rfl
    have d2 : ((h.proto : Int) == 17) = true := by rw [hp]; rfl
    clear h4 hq hp hAe hBe hs hl
    clear hN hA hB
    clear hr
    unfold Hd.p pkV kyV
    go_enter Try.func77, Try.ntmps77
    go_upto_region 1 with fail
    have hgz : w.heap.size < w.heap.size + 1 := by omega
    simp only [List.toArray] at hC hR
    generalize (w.alloc (.cells #[.int .i64 h.tos, .int .i64 h.id, .int .i64 h.ttl, .int .i64 h.proto, .bool h.keep, .int .u32 h.src, .int .u32 h.dst, .slice av N cv] 85)).alloc (.cells #[.int .u32 0, .int .u32 0, .int .i64 0, .int .i64 0, .int .i64 0] 70) = w2 at hC hR hG2 ⊢
    generalize w.heap.size + 1 = g2 at hR hgz ⊢
    have HC2 := Lib.hid hC
    clear hC
    obtain ⟨⟨q0, q1, q2, q3, q4, q5, q6, q7⟩, -⟩ := HC2.out.eight
    go_upto_region 2 with fail
    clear q0 q1 q2 q3 q4 q5 q6 q7
    have hY := CL.new w2 [.int .u32 h.src, .int .u32 h.dst, .int .i64 h.proto, .int .i64 0, .int .i64 0] 70 _ rfl
    have hg3 := Gr.alloc (Gr.refl w2) (.cells #[.int .u32 h.src, .int .u32 h.dst, .int .i64 h.proto, .int .i64 0, .int .i64 0] 70)
    have hne : w2.heap.size ≠ g2 := by have := hR.lt; omega
    have hle3 : w.heap.size < w2.heap.size := by have := hR.lt; omega
    simp only [List.toArray] at hY
    generalize w2.alloc (.cells #[.int .u32 h.src, .int .u32 h.dst, .int .i64 h.proto, .int .i64 0, .int .i64 0] 70) = w3 at hY hg3 ⊢
    generalize w2.heap.size = g3 at hY hne hle3 ⊢
    have HC := Lib.hid (HC2.out.gr hg3)
    have hR3 := hR.gr hg3
    have hG := hG2.step hg3
    have HZ := Lib.hid (And.intro hgz (And.intro hle3 hne))
    clear HC2 hR hG2 hg3 hgz hle3 hne
    obtain ⟨⟨y0, y1, y2, y3, y4⟩, u0, u1, u2, u3, u4⟩ := CL.five hY
    obtain ⟨⟨q0, q1, q2, q3, q4, q5, q6, q7⟩, -⟩ := HC.out.eight
    go_wp2_with fail
    clear q0 q1 q2 q3 q4 q5 q6 q7 y0 y1 y2 y3 y4 u0 u1 u2 u3 u4
    have hS : Ex g3 w3 w3.drew := Ex.drew (Ex.refl _ _)
    replace hG := hG.step (Gr.drew (Gr.refl w3))
    replace hY := hY.gr (Gr.drew (Gr.refl w3))
    replace hR3 := hR3.gr (Gr.drew (Gr.refl w3))
    have hz := HZ.out
    have hnp : w.heap.size ≠ g3 := by omega
    clear hz
    refine region_plain (Ex g3 w3) (by kernel_rfl) ?_
    generalize w3.drew = w5 at hS hG hY hR3 ⊢
    refine take_at 0 (some 33) (v := ?vb0) rfl rfl (by kernel_rfl) (by kernel_rfl) (by kernel_rfl) (by rfl) ?yb0 hS ?tb0
    case yb0 =>
      intro w' hSw
      obtain - := hSw
      go_simp
      (try with_reducible rfl)
    simp only [Act.put, List.setIfInBounds_toArray, List.set_cons_zero, List.set_cons_succ]
    refine take_at 1 (some 34) (v := ?vb1) rfl rfl (by kernel_rfl) (by kernel_rfl) (by kernel_rfl) (by rfl) ?yb1 hS ?tb1
    case yb1 =>
      intro w' hSw
      obtain ⟨⟨q0, q1, q2, q3, q4, q5, q6, q7⟩, -⟩ := (HC.out.ex hSw hnp).eight
      go_simp
      (try with_reducible rfl)
    simp only [Act.put, List.setIfInBounds_toArray, List.set_cons_zero, List.set_cons_succ]
    refine take_at 3 (some 36) (v := ?vb3) rfl rfl (by kernel_rfl) (by kernel_rfl) (by kernel_rfl) (by rfl) ?yb3 hS ?tb3
    case yb3 =>
      intro w' hSw
      obtain - := hSw
      go_simp
      (try with_reducible rfl)
    simp only [Act.put, List.setIfInBounds_toArray, List.set_cons_zero, List.set_cons_succ]
    refine take_at 4 (some 37) (v := ?vb4) rfl rfl (by kernel_rfl) (by kernel_rfl) (by kernel_rfl) (by rfl) ?yb4 hS ?tb4
    case yb4 =>
      intro w' hSw
      obtain ⟨⟨q0, q1, q2, q3, q4, q5, q6, q7⟩, -⟩ := (HC.out.ex hSw hnp).eight
      go_simp
      (try with_reducible rfl)
    simp only [Act.put, List.setIfInBounds_toArray, List.set_cons_zero, List.set_cons_succ]
    refine next_at 2 rfl (by kernel_rfl) (by rfl) (fun K hK => ?_)
    go_simp
    refine (HG0.out _ hG).mono ?_
    rintro e w2a ⟨rfl, rfl⟩
    refine hK _ _ hS ?_
    clear hK K
    refine take_at 6 (some 39) (v := ?vb6) rfl rfl (by kernel_rfl) (by kernel_rfl) (by kernel_rfl) (by rfl) ?yb6 hS ?tb6
    case yb6 =>
      intro w' hSw
      obtain - := hSw
      go_simp
      (try with_reducible rfl)
    simp only [Act.put, List.setIfInBounds_toArray, List.set_cons_zero, List.set_cons_succ]
    refine next_at 5 rfl (by kernel_rfl) (by rfl) (fun K hK => ?_)
    go_simp
    refine (HG1.out _ hG).mono ?_
    rintro e w5a ⟨rfl, rfl⟩
    refine hK _ _ hS ?_
    clear hK K
    have hz := HZ.out
    have hY1 := hY.set 3 (.int .i64 A) (by simp)
    have hR4 := hR3.other (s := g3) (o := 3) (.int .i64 A) (by omega)
    have hG4 := hG.setCell (p := ⟨g3, 3, none⟩) (by show w.heap.size ≤ g3; omega) (.int .i64 A)
    have hS4 := hS.set 3 (.int .i64 A)
    simp only [List.set_cons_succ, List.set_cons_zero] at hY1
    clear hz
    obtain ⟨⟨y0, y1, y2, y3, y4⟩, u0, u1, u2, u3, u4⟩ := CL.five hY
    refine next_at 7 rfl (by kernel_rfl) (by rfl) (fun K hK => ?_)
    go_simp
    refine hK _ _ hS4 ?_
    clear hK K y0 y1 y2 y3 y4 u0 u1 u2 u3 u4 hY hR3 hG hS
    generalize w5.setCell ⟨g3, 3, none⟩ (.int .i64 A) = w6 at hY1 hR4 hG4 hS4 ⊢
    have hY := hY1
    have hR3 := hR4
    have hG := hG4
    have hS := hS4
    clear hY1 hR4 hG4 hS4
    refine take_at 8 (some 40) (v := ?vb8) rfl rfl (by kernel_rfl) (by kernel_rfl) (by kernel_rfl) (by rfl) ?yb8 hS ?tb8
    case yb8 =>
      intro w' hSw
      obtain - := hSw
      go_simp
      (try with_reducible rfl)
    simp only [Act.put, List.setIfInBounds_toArray, List.set_cons_zero, List.set_cons_succ]
    have hz := HZ.out
    have hY1 := hY.set 4 (.int .i64 B) (by simp)
    have hR4 := hR3.other (s := g3) (o := 4) (.int .i64 B) (by omega)
    have hG4 := hG.setCell (p := ⟨g3, 4, none⟩) (by show w.heap.size ≤ g3; omega) (.int .i64 B)
    have hS4 := hS.set 4 (.int .i64 B)
    simp only [List.set_cons_succ, List.set_cons_zero] at hY1
    clear hz
    obtain ⟨⟨y0, y1, y2, y3, y4⟩, u0, u1, u2, u3, u4⟩ := CL.five hY
    refine next_at 9 rfl (by kernel_rfl) (by rfl) (fun K hK => ?_)
    go_simp
    refine hK _ _ hS4 ?_
    clear hK K y0 y1 y2 y3 y4 u0 u1 u2 u3 u4 hY hR3 hG hS
    generalize w6.setCell ⟨g3, 4, none⟩ (.int .i64 B) = w7 at hY1 hR4 hG4 hS4 ⊢
    have hY := hY1
    have hR3 := hR4
    have hG := hG4
    have hS := hS4
    clear hY1 hR4 hG4 hS4
    refine wpAnyH_done (by kernel_rfl) ?_ _
    refine qz_normal ?_
    obtain ⟨⟨y0, y1, y2, y3, y4⟩, u0, u1, u2, u3, u4⟩ := CL.five hY
    obtain ⟨⟨r0, r1, r2, r3, r4⟩, s0, s1, s2, s3, s4⟩ := CL.five hR3
    go_wp2_with fail
    clear r0 r1 r2 r3 r4 s0 s1 s2 s3 s4 y0 y1 y2 y3 y4 u0 u1 u2 u3 u4
    have hcF := hR3.fill [.int .u32 h.src, .int .u32 h.dst, .int .i64 h.proto, .int .i64 A, .int .i64 B] rfl
    have hgF := hG.fill (Nat.le_of_lt HZ.out.1) [.int .u32 h.src, .int .u32 h.dst, .int .i64 h.proto, .int .i64 A, .int .i64 B] 0
    simp only [fillC, Nat.reduceAdd] at hcF hgF
    generalize ((((w7.setCell ⟨g2, 0, none⟩ (.int .u32 h.src)).setCell ⟨g2, 1, none⟩ (.int .u32 h.dst)).setCell ⟨g2, 2, none⟩ (.int .i64 h.proto)).setCell ⟨g2, 3, none⟩ (.int .i64 A)).setCell ⟨g2, 4, none⟩ (.int .i64 B) = wF at hcF hgF ⊢
    obtain ⟨⟨c0, c1, c2, c3, c4⟩, -⟩ := CL.five hcF
    exact bodyPost_ret (v := .agg #[.int .u32 h.src, .int .u32 h.dst, .int .i64 h.proto, .int .i64 A, .int .i64 B]) (by simp [results, Try.results77, go_sem, c0, c1, c2, c3, c4]) rfl ⟨by first | rfl | (rw [HA.out, HB.out]; rfl), hgF⟩
  · have d1 : ((h.proto : Int) == 1) = false := by rw [hp]; rfl
    have d2 : ((h.proto : Int) == 17) = false := by rw [hp]; rfl
    have d3 : ((h.proto : Int) == 6) = true := by rw [hp]; rfl
    clear h4 hq hp hAe hBe hs hl
    clear hN hA hB
    clear hr
    unfold Hd.p pkV kyV
    go_enter Try.func77, Try.ntmps77
    go_upto_region 1 with fail
    have hgz : w.heap.size < w.heap.size + 1 := by omega
    simp only [List.toArray] at hC hR
    generalize (w.alloc (.cells #[.int .i64 h.tos, .int .i64 h.id, .int .i64 h.ttl, .int .i64 h.proto, .bool h.keep, .int .u32 h.src, .int .u32 h.dst, .slice av N cv] 85)).alloc (.cells #[.int .u32 0, .int .u32 0, .int .i64 0, .int .i64 0, .int .i64 0] 70) = w2 at hC hR hG2 ⊢
    generalize w.heap.size + 1 = g2 at hR hgz ⊢
    have HC2 := Lib.hid hC
    clear hC
    obtain ⟨⟨q0, q1, q2, q3, q4, q5, q6, q7⟩, -⟩ := HC2.out.eight
    go_upto_region 2 with fail
    clear q0 q1 q2 q3 q4 q5 q6 q7
    have hY := CL.new w2 [.int .u32 h.src, .int .u32 h.dst, .int .i64 h.proto, .int .i64 0, .int .i64 0] 70 _ rfl
    have hg3 := Gr.alloc (Gr.refl w2) (.cells #[.int .u32 h.src, .int .u32 h.dst, .int .i64 h.proto, .int .i64 0, .int .i64 0] 70)
    have hne : w2.heap.size ≠ g2 := by have := hR.lt; omega
    have hle3 : w.heap.size < w2.heap.size := by have := hR.lt; omega
    simp only [List.toArray] at hY
    generalize w2.alloc (.cells #[.int .u32 h.src, .int .u32 h.dst, .int .i64 h.proto, .int .i64 0, .int .i64 0] 70) = w3 at hY hg3 ⊢
    generalize w2.heap.size = g3 at hY hne hle3 ⊢
    have HC := Lib.hid (HC2.out.gr hg3)
    have hR3 := hR.gr hg3
    have hG := hG2.step hg3
    have HZ := Lib.hid (And.intro hgz (And.intro hle3 hne))
    clear HC2 hR hG2 hg3 hgz hle3 hne
    obtain ⟨⟨y0, y1, y2, y3, y4⟩, u0, u1, u2, u3, u4⟩ := CL.five hY
    obtain ⟨⟨q0, q1, q2, q3, q4, q5, q6, q7⟩, -⟩ := HC.out.eight
    go_wp2_with fail
    clear q0 q1 q2 q3 q4 q5 q6 q7 y0 y1 y2 y3 y4 u0 u1 u2 u3 u4
    have hS : Ex g3 w3 w3.drew := Ex.drew (Ex.refl _ _)
    replace hG := hG.step (Gr.drew (Gr.refl w3))
    replace hY := hY.gr (Gr.drew (Gr.refl w3))
    replace hR3 := hR3.gr (Gr.drew (Gr.refl w3))
    have hz := HZ.out
    have hnp : w.heap.size ≠ g3 := by omega
    clear hz
    refine region_plain (Ex g3 w3) (by kernel_rfl) ?_
    generalize w3.drew = w5 at hS hG hY hR3 ⊢
    refine take_at 0 (some 33) (v := ?vc0) rfl rfl (by kernel_rfl) (by kernel_rfl) (by kernel_rfl) (by rfl) ?yc0 hS ?tc0
    case yc0 =>
      intro w' hSw
      obtain - := hSw
      go_simp
      (try with_reducible rfl)
    simp only [Act.put, List.setIfInBounds_toArray, List.set_cons_zero, List.set_cons_succ]
    refine take_at 1 (some 34) (v := ?vc1) rfl rfl (by kernel_rfl) (by kernel_rfl) (by kernel_rfl) (by rfl) ?yc1 hS ?tc1
    case yc1 =>
      intro w' hSw
      obtain ⟨⟨q0, q1, q2, q3, q4, q5, q6, q7⟩, -⟩ := (HC.out.ex hSw hnp).eight
      go_simp
      (try with_reducible rfl)
    simp only [Act.put, List.setIfInBounds_toArray, List.set_cons_zero, List.set_cons_succ]
    refine take_at 3 (some 36) (v := ?vc3) rfl rfl (by kernel_rfl) (by kernel_rfl) (by kernel_rfl) (by rfl) ?yc3 hS ?tc3
    case yc3 =>
      intro w' hSw
      obtain - := hSw
      go_simp
      (try with_reducible rfl)
    simp only [Act.put, List.setIfInBounds_toArray, List.set_cons_zero, List.set_cons_succ]
    refine take_at 4 (some 37) (v := ?vc4) rfl rfl (by kernel_rfl) (by kernel_rfl) (by kernel_rfl) (by rfl) ?yc4 hS ?tc4
    case yc4 =>
      intro w' hSw
      obtain ⟨⟨q0, q1, q2, q3, q4, q5, q6, q7⟩, -⟩ := (HC.out.ex hSw hnp).eight
      go_simp
      (try with_reducible rfl)
    simp only [Act.put, List.setIfInBounds_toArray, List.set_cons_zero, List.set_cons_succ]
    refine next_at 2 rfl (by kernel_rfl) (by rfl) (fun K hK => ?_)
    go_simp
    refine (HG0.out _ hG).mono ?_
    rintro e w2a ⟨rfl, rfl⟩
    refine hK _ _ hS ?_
    clear hK K
    refine take_at 6 (some 39) (v := ?vc6) rfl rfl (by kernel_rfl) (by kernel_rfl) (by kernel_rfl) (by rfl) ?yc6 hS ?tc6
    case yc6 =>
      intro w' hSw
      obtain - := hSw
      go_simp
      (try with_reducible rfl)
    simp only [Act.put, List.setIfInBounds_toArray, List.set_cons_zero, List.set_cons_succ]
    refine next_at 5 rfl (by kernel_rfl) (by rfl) (fun K hK => ?_)
    go_simp
    refine (HG1.out _ hG).mono ?_
    rintro e w5a ⟨rfl, rfl⟩
    refine hK _ _ hS ?_
    clear hK K
    have hz := HZ.out
    have hY1 := hY.set 3 (.int .i64 A) (by simp)
    have hR4 := hR3.other (s := g3) (o := 3) (.int .i64 A) (by omega)
    have hG4 := hG.setCell (p := ⟨g3, 3, none⟩) (by show w.heap.size ≤ g3; omega) (.int .i64 A)
    have hS4 := hS.set 3 (.int .i64 A)
    simp only [List.set_cons_succ, List.set_cons_zero] at hY1
    clear hz
    obtain ⟨⟨y0, y1, y2, y3, y4⟩, u0, u1, u2, u3, u4⟩ := CL.five hY
    refine next_at 7 rfl (by kernel_rfl) (by rfl) (fun K hK => ?_)
    go_simp
    refine hK _ _ hS4 ?_
    clear hK K y0 y1 y2 y3 y4 u0 u1 u2 u3 u4 hY hR3 hG hS
    generalize w5.setCell ⟨g3, 3, none⟩ (.int .i64 A) = w6 at hY1 hR4 hG4 hS4 ⊢
    have hY := hY1
    have hR3 := hR4
    have hG := hG4
    have hS := hS4
    clear hY1 hR4 hG4 hS4
    refine take_at 8 (some 40) (v := ?vc8) rfl rfl (by kernel_rfl) (by kernel_rfl) (by kernel_rfl) (by rfl) ?yc8 hS ?tc8
    case yc8 =>
      intro w' hSw
      obtain - := hSw
      go_simp
      (try with_reducible rfl)
    simp only [Act.put, List.setIfInBounds_toArray, List.set_cons_zero, List.set_cons_succ]
    have hz := HZ.out
    have hY1 := hY.set 4 (.int .i64 B) (by simp)
    have hR4 := hR3.other (s := g3) (o := 4) (.int .i64 B) (by omega)
    have hG4 := hG.setCell (p := ⟨g3, 4, none⟩) (by show w.heap.size ≤ g3; omega) (.int .i64 B)
    have hS4 := hS.set 4 (.int .i64 B)
    simp only [List.set_cons_succ, List.set_cons_zero] at hY1
    clear hz
    obtain ⟨⟨y0, y1, y2, y3, y4⟩, u0, u1, u2, u3, u4⟩ := CL.five hY
    refine next_at 9 rfl (by kernel_rfl) (by rfl) (fun K hK => ?_)
    go_simp
    refine hK _ _ hS4 ?_
    clear hK K y0 y1 y2 y3 y4 u0 u1 u2 u3 u4 hY hR3 hG hS
    generalize w6.setCell ⟨g3, 4, none⟩ (.int .i64 B) = w7 at hY1 hR4 hG4 hS4 ⊢
    have hY := hY1
    have hR3 := hR4
    have hG := hG4
    have hS := hS4
    clear hY1 hR4 hG4 hS4
    refine wpAnyH_done (by kernel_rfl) ?_ _
    refine qz_normal ?_
    obtain ⟨⟨y0, y1, y2, y3, y4⟩, u0, u1, u2, u3, u4⟩ := CL.five hY
    obtain ⟨⟨r0, r1, r2, r3, r4⟩, s0, s1, s2, s3, s4⟩ := CL.five hR3
    go_wp2_with fail
    clear r0 r1 r2 r3 r4 s0 s1 s2 s3 s4 y0 y1 y2 y3 y4 u0 u1 u2 u3 u4
    have hcF := hR3.fill [.int .u32 h.src, .int .u32 h.dst, .int .i64 h.proto, .int .i64 A, .int .i64 B] rfl
    have hgF := hG.fill (Nat.le_of_lt HZ.out.1) [.int .u32 h.src, .int .u32 h.dst, .int .i64 h.proto, .int .i64 A, .int .i64 B] 0
    simp only [fillC, Nat.reduceAdd] at hcF hgF
    generalize ((((w7.setCell ⟨g2, 0, none⟩ (.int .u32 h.src)).setCell ⟨g2, 1, none⟩ (.int .u32 h.dst)).setCell ⟨g2, 2, none⟩ (.int .i64 h.proto)).setCell ⟨g2, 3, none⟩ (.int .i64 A)).setCell ⟨g2, 4, none⟩ (.int .i64 B) = wF at hcF hgF ⊢
    obtain ⟨⟨c0, c1, c2, c3, c4⟩, -⟩ := CL.five hcF
    exact bodyPost_ret (v := .agg #[.int .u32 h.src, .int .u32 h.dst, .int .i64 h.proto, .int .i64 A, .int .i64 B]) (by simp [results, Try.results77, go_sem, c0, c1, c2, c3, c4]) rfl ⟨by first | rfl | (rw [HA.out, HB.out]; rfl), hgF⟩
theorem rkey_any {p : Nat → Prop} {v : Value} {d : List Nat} (h : Hd) (w : World) (hr : Rb p w v d) (hl : d.length ≤ 100000) :
    Calls Try.prog 77 #[h.p v] w fun e w' => e = .returned (kyV h.src h.dst h.proto (kA h.proto d) (kB h.proto d)) ∧ Gr w w' := by
  by_cases h4 : 4 ≤ d.length
  · by_cases hs : sup h.proto
    · exact rkey_long h w hr h4 hs hl
    · exact rkey_no h w hr h4 hs
  · exact rkey_short h w hr h4
theorem rKey_err {p : Nat → Prop} {v : Value} {l : List Nat} (w : World) (hr : Rb p w v l) (hl : l.length ≤ 90000) (hn : dcE l ≠ 0) :
    Calls Try.prog 41 #[v] w fun e w' => e = .returned (.tuple #[kyV 0 0 0 0 0, .int .i64 (dcE l : Nat)]) ∧ Gr w w' := by
  have HD := Lib.hid (fun w' (g : Gr w w') => rdecode_err w' (hr.gr g) hl hn)
  generalize dcE l = E at *
  have d1 : ((E : Int) != 0) = true := by rw [bne_iff_ne]; omega
  obtain ⟨av, cv, rfl, -, -⟩ := hr.form
  generalize l.length = N at *
  clear hr hl hn
  go_enter Try.func41, Try.ntmps41
  go_upto_region 1 with fail
  have hR := CL.new w [.int .u32 0, .int .u32 0, .int .i64 0, .int .i64 0, .int .i64 0] 70 _ rfl
  have hG := (Gr.refl w).alloc (.cells #[.int .u32 0, .int .u32 0, .int .i64 0, .int .i64 0, .int .i64 0] 70)
  have hgz := Nat.le_refl w.heap.size
  simp only [List.toArray] at hR
  generalize w.alloc (.cells #[.int .u32 0, .int .u32 0, .int .i64 0, .int .i64 0, .int .i64 0] 70) = w1 at hR hG ⊢
  generalize hge : w.heap.size = g1 at hR ⊢
  rw [hge] at hgz
  replace hgz : w.heap.size ≤ g1 := by omega
  clear hge
  go_wp2_with fail
  refine (HD.out _ hG).mono ?_
  rintro e w2 ⟨rfl, hg⟩
  unfold pkV
  replace hR := hR.gr hg
  replace hG := hG.step hg
  clear hg
  have hg3 := Gr.alloc (Gr.refl w2) (.cells #[.int .i64 0, .int .i64 0, .int .i64 0, .int .i64 0, .bool false, .int .u32 0, .int .u32 0, .slice none 0 0] 85)
  replace hR := hR.gr hg3
  replace hG := hG.step hg3
  clear hg3
  obtain ⟨⟨r0, r1, r2, r3, r4⟩, s0, s1, s2, s3, s4⟩ := CL.five hR
  go_wp2_with fail
  clear r0 r1 r2 r3 r4 s0 s1 s2 s3 s4
  generalize w2.alloc (.cells #[.int .i64 0, .int .i64 0, .int .i64 0, .int .i64 0, .bool false, .int .u32 0, .int .u32 0, .slice none 0 0] 85) = w3 at hR hG ⊢
  have hcF := hR.fill [.int .u32 0, .int .u32 0, .int .i64 0, .int .i64 0, .int .i64 0] rfl
  have hgF := hG.fill hgz [.int .u32 0, .int .u32 0, .int .i64 0, .int .i64 0, .int .i64 0] 0
  simp only [fillC, Nat.reduceAdd] at hcF hgF
  generalize ((((w3.setCell ⟨g1, 0, none⟩ (.int .u32 0)).setCell ⟨g1, 1, none⟩ (.int .u32 0)).setCell ⟨g1, 2, none⟩ (.int .i64 0)).setCell ⟨g1, 3, none⟩ (.int .i64 0)).setCell ⟨g1, 4, none⟩ (.int .i64 0) = wF at hcF hgF ⊢
  obtain ⟨⟨c0, c1, c2, c3, c4⟩, -⟩ := CL.five hcF
  exact bodyPost_ret (v := .tuple #[.agg #[.int .u32 0, .int .u32 0, .int .i64 0, .int .i64 0, .int .i64 0], .int .i64 E]) (by simp [results, Try.results41, go_sem, c0, c1, c2, c3, c4]) rfl ⟨rfl, hgF⟩
theorem rKey_ok {p : Nat → Prop} {v : Value} {l : List Nat} (w : World) (hr : Rb p w v l) (hl : l.length ≤ 90000) (hn : dcE l = 0) :
    Calls Try.prog 41 #[v] w fun e w' => e = .returned (.tuple #[kyV (hdAt l).src (hdAt l).dst (hdAt l).proto (kA (hdAt l).proto (l.drop 20)) (kB (hdAt l).proto (l.drop 20)), .int .i64 0]) ∧ Gr w w' := by
  have HD := Lib.hid (fun w' (g : Gr w w') => rdecode_ok w' (hr.gr g) hl hn)
  have hdl : (l.drop 20).length ≤ 100000 := by rw [List.length_drop]; omega
  generalize hdAt l = h at *
  generalize l.drop 20 = d at *
  obtain ⟨av, cv, rfl, -, -⟩ := hr.form
  generalize l.length = N at *
  clear hr hl hn
  unfold Hd.p pkV at HD
  have HK := Lib.hid (fun (v : Value) (w : World) (hv : Rb (fun _ => True) w v d) => rkey_any h w hv hdl)
  unfold Hd.p pkV at HK
  clear hdl
  generalize kA h.proto d = A at *
  generalize kB h.proto d = B at *
  unfold kyV at *
  go_enter Try.func41, Try.ntmps41
  go_upto_region 1 with fail
  have hR := CL.new w [.int .u32 0, .int .u32 0, .int .i64 0, .int .i64 0, .int .i64 0] 70 _ rfl
  have hG := (Gr.refl w).alloc (.cells #[.int .u32 0, .int .u32 0, .int .i64 0, .int .i64 0, .int .i64 0] 70)
  have hgz := Nat.le_refl w.heap.size
  simp only [List.toArray] at hR
  generalize w.alloc (.cells #[.int .u32 0, .int .u32 0, .int .i64 0, .int .i64 0, .int .i64 0] 70) = w1 at hR hG ⊢
  generalize hge : w.heap.size = g1 at hR ⊢
  rw [hge] at hgz
  replace hgz : w.heap.size ≤ g1 := by omega
  clear hge
  go_wp2_with fail
  refine (HD.out _ hG).mono ?_
  rintro e w2 ⟨v2, rfl, ho, hg⟩
  have hv := ho.rb.any
  obtain ⟨a2, c2, rfl, -, -⟩ := hv.form
  generalize d.length = M at *
  replace hR := hR.gr hg
  replace hG := hG.step hg
  clear hg ho
  have hg3 := Gr.alloc (Gr.refl w2) (.cells #[.int .i64 h.tos, .int .i64 h.id, .int .i64 h.ttl, .int .i64 h.proto, .bool h.keep, .int .u32 h.src, .int .u32 h.dst, .slice a2 M c2] 85)
  have HX := Lib.hid (HK.out _ _ (hv.gr hg3))
  clear hv
  go_wp2_with fail
  replace hR := hR.gr hg3
  replace hG := hG.step hg3
  clear hg3
  refine HX.out.mono ?_
  rintro e w4 ⟨rfl, hg⟩
  replace hR := hR.gr hg
  replace hG := hG.step hg
  clear hg HX HK
  obtain ⟨⟨r0, r1, r2, r3, r4⟩, s0, s1, s2, s3, s4⟩ := CL.five hR
  go_wp2_with fail
  clear r0 r1 r2 r3 r4 s0 s1 s2 s3 s4
  have hcF := hR.fill [.int .u32 h.src, .int .u32 h.dst, .int .i64 h.proto, .int .i64 A, .int .i64 B] rfl
  have hgF := hG.fill hgz [.int .u32 h.src, .int .u32 h.dst, .int .i64 h.proto, .int .i64 A, .int .i64 B] 0
  simp only [fillC, Nat.reduceAdd] at hcF hgF
  generalize ((((w4.setCell ⟨g1, 0, none⟩ (.int .u32 h.src)).setCell ⟨g1, 1, none⟩ (.int .u32 h.dst)).setCell ⟨g1, 2, none⟩ (.int .i64 h.proto)).setCell ⟨g1, 3, none⟩ (.int .i64 A)).setCell ⟨g1, 4, none⟩ (.int .i64 B) = wF at hcF hgF ⊢
  obtain ⟨⟨c0, c1, c2, c3, c4⟩, -⟩ := CL.five hcF
  exact bodyPost_ret (v := .tuple #[.agg #[.int .u32 h.src, .int .u32 h.dst, .int .i64 h.proto, .int .i64 A, .int .i64 B], .int .i64 0]) (by simp [results, Try.results41, go_sem, c0, c1, c2, c3, c4]) rfl ⟨rfl, hgF⟩
theorem rKeyOf_bad (s d pr fl tg tt : Int) (w : World) (h : prbE pr fl tg tt ≠ 0) :
    Calls Try.prog 34 #[prV s d pr fl tg tt] w fun e w' => e = .returned (.tuple #[kyV 0 0 0 0 0, .int .i64 (prbE pr fl tg tt : Nat)]) ∧ Gr w w' := by
  have HK := Lib.hid (fun w => rbuild_bad s d pr fl tg tt w h)
  generalize prbE pr fl tg tt = E at *
  have d1 : ((E : Int) != 0) = true := by rw [bne_iff_ne]; omega
  clear h
  unfold prV at *
  have hR := CL.new (w.alloc (.cells #[.int .u32 s, .int .u32 d, .int .i64 pr, .int .i64 fl, .int .i64 tg, .int .i64 tt] 65)) [.int .u32 0, .int .u32 0, .int .i64 0, .int .i64 0, .int .i64 0] 70 (w.heap.size + 1) (by simp)
  have hC := (CL.new w [.int .u32 s, .int .u32 d, .int .i64 pr, .int .i64 fl, .int .i64 tg, .int .i64 tt] 65 _ rfl).gr (Gr.alloc (Gr.refl _) (.cells #[.int .u32 0, .int .u32 0, .int .i64 0, .int .i64 0, .int .i64 0] 70))
  have hG := ((Gr.refl w).alloc (.cells #[.int .u32 s, .int .u32 d, .int .i64 pr, .int .i64 fl, .int .i64 tg, .int .i64 tt] 65)).alloc (.cells #[.int .u32 0, .int .u32 0, .int .i64 0, .int .i64 0, .int .i64 0] 70)
  have hgz : w.heap.size ≤ w.heap.size + 1 := by omega
  simp only [List.toArray] at hC hR
  go_enter Try.func34, Try.ntmps34
  go_upto_region 1 with fail
  generalize (w.alloc (.cells #[.int .u32 s, .int .u32 d, .int .i64 pr, .int .i64 fl, .int .i64 tg, .int .i64 tt] 65)).alloc (.cells #[.int .u32 0, .int .u32 0, .int .i64 0, .int .i64 0, .int .i64 0] 70) = w1 at hC hR hG ⊢
  generalize w.heap.size + 1 = g1 at hR hgz ⊢
  obtain ⟨⟨x0, x1, x2, x3, x4, x5⟩, -⟩ := CL.six hC
  go_wp2_with fail
  clear x0 x1 x2 x3 x4 x5 hC
  refine (HK.out _).mono ?_
  rintro e w2 ⟨rfl, hg⟩
  replace hR := hR.gr hg
  replace hG := hG.step hg
  clear hg
  obtain ⟨⟨r0, r1, r2, r3, r4⟩, s0, s1, s2, s3, s4⟩ := CL.five hR
  go_wp2_with fail
  clear r0 r1 r2 r3 r4 s0 s1 s2 s3 s4
  have hcF := hR.fill [.int .u32 0, .int .u32 0, .int .i64 0, .int .i64 0, .int .i64 0] rfl
  have hgF := hG.fill hgz [.int .u32 0, .int .u32 0, .int .i64 0, .int .i64 0, .int .i64 0] 0
  simp only [fillC, Nat.reduceAdd] at hcF hgF
  generalize ((((w2.setCell ⟨g1, 0, none⟩ (.int .u32 0)).setCell ⟨g1, 1, none⟩ (.int .u32 0)).setCell ⟨g1, 2, none⟩ (.int .i64 0)).setCell ⟨g1, 3, none⟩ (.int .i64 0)).setCell ⟨g1, 4, none⟩ (.int .i64 0) = wF at hcF hgF ⊢
  obtain ⟨⟨c0, c1, c2, c3, c4⟩, -⟩ := CL.five hcF
  exact bodyPost_ret (v := .tuple #[.agg #[.int .u32 0, .int .u32 0, .int .i64 0, .int .i64 0, .int .i64 0], .int .i64 E]) (by simp [results, Try.results34, go_sem, c0, c1, c2, c3, c4]) rfl ⟨rfl, hgF⟩
theorem rKeyOf_ok (P : Pr) (k : P.ok) (w : World) :
    Calls Try.prog 34 #[P.v] w fun e w' => e = .returned (.tuple #[kyV P.src P.dst P.proto P.a P.b, .int .i64 0]) ∧ Gr w w' := by
  have HK := Lib.hid (fun w => rbuild_ok P k w)
  have HY := Lib.hid (fun (v : Value) (w : World) (hv : Rb (fun _ => True) w v P.pk) => rKey_ok w hv (by have := (Pr.pk_len k).2; omega) (Pr.pk_dc k).1)
  rw [(Pr.pk_dc k).2.1, (Pr.pk_dc k).2.2] at HY
  have e1 : kA P.hd.proto P.data = P.a := (Pr.key_at k).1
  have e2 : kB P.hd.proto P.data = P.b := (Pr.key_at k).2
  rw [e1, e2] at HY
  have HL := Lib.hid (Pr.pk_len k)
  clear k e1 e2
  unfold Pr.v prV kyV at *
  unfold Pr.hd at HY
  simp only at HY
  generalize P.a = A at *
  generalize P.b = B at *
  have hR := CL.new (w.alloc (.cells #[.int .u32 P.src, .int .u32 P.dst, .int .i64 P.proto, .int .i64 P.flow, .int .i64 P.tag, .int .i64 P.ttl] 65)) [.int .u32 0, .int .u32 0, .int .i64 0, .int .i64 0, .int .i64 0] 70 (w.heap.size + 1) (by simp)
  have hC := (CL.new w [.int .u32 P.src, .int .u32 P.dst, .int .i64 P.proto, .int .i64 P.flow, .int .i64 P.tag, .int .i64 P.ttl] 65 _ rfl).gr (Gr.alloc (Gr.refl _) (.cells #[.int .u32 0, .int .u32 0, .int .i64 0, .int .i64 0, .int .i64 0] 70))
  have hG := ((Gr.refl w).alloc (.cells #[.int .u32 P.src, .int .u32 P.dst, .int .i64 P.proto, .int .i64 P.flow, .int .i64 P.tag, .int .i64 P.ttl] 65)).alloc (.cells #[.int .u32 0, .int .u32 0, .int .i64 0, .int .i64 0, .int .i64 0] 70)
  have hgz : w.heap.size ≤ w.heap.size + 1 := by omega
  simp only [List.toArray] at hC hR
  go_enter Try.func34, Try.ntmps34
  go_upto_region 1 with fail
  generalize (w.alloc (.cells #[.int .u32 P.src, .int .u32 P.dst, .int .i64 P.proto, .int .i64 P.flow, .int .i64 P.tag, .int .i64 P.ttl] 65)).alloc (.cells #[.int .u32 0, .int .u32 0, .int .i64 0, .int .i64 0, .int .i64 0] 70) = w1 at hC hR hG ⊢
  generalize w.heap.size + 1 = g1 at hR hgz ⊢
  obtain ⟨⟨x0, x1, x2, x3, x4, x5⟩, -⟩ := CL.six hC
  go_wp2_with fail
  clear x0 x1 x2 x3 x4 x5 hC
  refine (HK.out _).mono ?_
  rintro e w2 ⟨v2, rfl, ho, hg⟩
  replace hR := hR.gr hg
  replace hG := hG.step hg
  have hv := ho.rb.any
  obtain ⟨a2, c2, rfl, -, -⟩ := hv.form
  have HX := Lib.hid (HY.out _ _ hv)
  generalize P.pk.length = M at *
  clear hg ho hv
  go_wp2_with fail
  refine HX.out.mono ?_
  rintro e w4 ⟨rfl, hg⟩
  replace hR := hR.gr hg
  replace hG := hG.step hg
  clear hg HX HK HY
  obtain ⟨⟨r0, r1, r2, r3, r4⟩, s0, s1, s2, s3, s4⟩ := CL.five hR
  go_wp2_with fail
  clear r0 r1 r2 r3 r4 s0 s1 s2 s3 s4
  have hcF := hR.fill [.int .u32 P.src, .int .u32 P.dst, .int .i64 P.proto, .int .i64 A, .int .i64 B] rfl
  have hgF := hG.fill hgz [.int .u32 P.src, .int .u32 P.dst, .int .i64 P.proto, .int .i64 A, .int .i64 B] 0
  simp only [fillC, Nat.reduceAdd] at hcF hgF
  generalize ((((w4.setCell ⟨g1, 0, none⟩ (.int .u32 P.src)).setCell ⟨g1, 1, none⟩ (.int .u32 P.dst)).setCell ⟨g1, 2, none⟩ (.int .i64 P.proto)).setCell ⟨g1, 3, none⟩ (.int .i64 A)).setCell ⟨g1, 4, none⟩ (.int .i64 B) = wF at hcF hgF ⊢
  obtain ⟨⟨c0, c1, c2, c3, c4⟩, -⟩ := CL.five hcF
  exact bodyPost_ret (v := .tuple #[.agg #[.int .u32 P.src, .int .u32 P.dst, .int .i64 P.proto, .int .i64 A, .int .i64 B], .int .i64 0]) (by simp [results, Try.results34, go_sem, c0, c1, c2, c3, c4]) rfl ⟨rfl, hgF⟩
end Go.Proofs.Ytlkhdbgknkjioaa
/- Reading probes, the document. -/
namespace Go.Proofs.Ytlkhdbgknkjioaa
open Go Go.RowKit Go.Sort
set_option maxRecDepth 100000
set_option linter.unusedVariables false
set_option linter.unusedSimpArgs false
theorem rRead_err {p : Nat → Prop} {v : Value} {l : List Nat} (w : World) (hr : Rb p w v l) (hl : l.length ≤ 90000) (hn : dcE l ≠ 0) :
    Calls Try.prog 39 #[v] w fun e w' => e = .returned (.tuple #[prZ, .int .i64 17]) ∧ Gr w w' := by
  have HD := Lib.hid (fun w' (g : Gr w w') => rdecode_err w' (hr.gr g) hl hn)
  generalize dcE l = E at *
  have d1 : ((E : Int) != 0) = true := by rw [bne_iff_ne]; omega
  obtain ⟨av, cv, rfl, -, -⟩ := hr.form
  generalize l.length = N at *
  clear hr hl hn
  unfold prZ prV
  go_enter Try.func39, Try.ntmps39
  go_upto_region 1 with fail
  have hR := CL.new w [.int .u32 0, .int .u32 0, .int .i64 0, .int .i64 0, .int .i64 0, .int .i64 0] 65 _ rfl
  have hG := (Gr.refl w).alloc (.cells #[.int .u32 0, .int .u32 0, .int .i64 0, .int .i64 0, .int .i64 0, .int .i64 0] 65)
  have hgz := Nat.le_refl w.heap.size
  simp only [List.toArray] at hR
  generalize w.alloc (.cells #[.int .u32 0, .int .u32 0, .int .i64 0, .int .i64 0, .int .i64 0, .int .i64 0] 65) = w1 at hR hG ⊢
  generalize hge : w.heap.size = g1 at hR ⊢
  rw [hge] at hgz
  replace hgz : w.heap.size ≤ g1 := by omega
  clear hge
  go_wp2_with fail
  refine (HD.out _ hG).mono ?_
  rintro e w2 ⟨rfl, hg⟩
  unfold pkV
  replace hR := hR.gr hg
  replace hG := hG.step hg
  clear hg
  have hg3 := Gr.alloc (Gr.refl w2) (.cells #[.int .i64 0, .int .i64 0, .int .i64 0, .int .i64 0, .bool false, .int .u32 0, .int .u32 0, .slice none 0 0] 85)
  replace hR := hR.gr hg3
  replace hG := hG.step hg3
  clear hg3
  obtain ⟨⟨r0, r1, r2, r3, r4, r5⟩, s0, s1, s2, s3, s4, s5⟩ := CL.six hR
  go_wp2_with fail
  clear r0 r1 r2 r3 r4 r5 s0 s1 s2 s3 s4 s5
  generalize w2.alloc (.cells #[.int .i64 0, .int .i64 0, .int .i64 0, .int .i64 0, .bool false, .int .u32 0, .int .u32 0, .slice none 0 0] 85) = w3 at hR hG ⊢
  have hcF := hR.fill [.int .u32 0, .int .u32 0, .int .i64 0, .int .i64 0, .int .i64 0, .int .i64 0] rfl
  have hgF := hG.fill hgz [.int .u32 0, .int .u32 0, .int .i64 0, .int .i64 0, .int .i64 0, .int .i64 0] 0
  simp only [fillC, Nat.reduceAdd] at hcF hgF
  generalize (((((w3.setCell ⟨g1, 0, none⟩ (.int .u32 0)).setCell ⟨g1, 1, none⟩ (.int .u32 0)).setCell ⟨g1, 2, none⟩ (.int .i64 0)).setCell ⟨g1, 3, none⟩ (.int .i64 0)).setCell ⟨g1, 4, none⟩ (.int .i64 0)).setCell ⟨g1, 5, none⟩ (.int .i64 0) = wF at hcF hgF ⊢
  obtain ⟨⟨c0, c1, c2, c3, c4, c5⟩, -⟩ := CL.six hcF
  exact bodyPost_ret (v := .tuple #[.agg #[.int .u32 0, .int .u32 0, .int .i64 0, .int .i64 0, .int .i64 0, .int .i64 0], .int .i64 17]) (by simp [results, Try.results39, go_sem, c0, c1, c2, c3, c4, c5]) rfl ⟨rfl, hgF⟩
theorem rRead_short {p : Nat → Prop} {v : Value} {l : List Nat} (w : World) (hr : Rb p w v l) (hl : l.length ≤ 90000) (hn : dcE l = 0) (h8 : (l.drop 20).length < 8) :
    Calls Try.prog 39 #[v] w fun e w' => e = .returned (.tuple #[prZ, .int .i64 17]) ∧ Gr w w' := by
  have HD := Lib.hid (fun w' (g : Gr w w') => rdecode_ok w' (hr.gr g) hl hn)
  have d8 : decide (((l.drop 20).length : Int) < 8) = true := by rw [decide_eq_true_eq]; omega
  clear hl hn h8
  generalize hdAt l = h at *
  generalize l.drop 20 = d at *
  obtain ⟨av, cv, rfl, -, -⟩ := hr.form
  have HR := Lib.hid hr
  generalize l.length = N at *
  unfold Hd.p pkV at HD
  (try unfold prZ)
  (try unfold prV)
  clear hr
  go_enter Try.func39, Try.ntmps39
  go_upto_region 1 with fail
  have hR := CL.new w [.int .u32 0, .int .u32 0, .int .i64 0, .int .i64 0, .int .i64 0, .int .i64 0] 65 _ rfl
  have hG := (Gr.refl w).alloc (.cells #[.int .u32 0, .int .u32 0, .int .i64 0, .int .i64 0, .int .i64 0, .int .i64 0] 65)
  have hgz := Nat.le_refl w.heap.size
  simp only [List.toArray] at hR
  generalize w.alloc (.cells #[.int .u32 0, .int .u32 0, .int .i64 0, .int .i64 0, .int .i64 0, .int .i64 0] 65) = w1 at hR hG ⊢
  generalize hge : w.heap.size = g1 at hR ⊢
  rw [hge] at hgz
  replace hgz : w.heap.size ≤ g1 := by omega
  clear hge
  go_wp2_with fail
  refine (HD.out _ hG).mono ?_
  rintro e w2 ⟨v2, rfl, ho, hg⟩
  have hv := ho.rb.any
  obtain ⟨a2, c2, rfl, -, -⟩ := hv.form
  generalize d.length = M at *
  replace hR := hR.gr hg
  replace hG := hG.step hg
  clear hg ho
  have hP := CL.new w2 [.int .i64 h.tos, .int .i64 h.id, .int .i64 h.ttl, .int .i64 h.proto, .bool h.keep, .int .u32 h.src, .int .u32 h.dst, .slice a2 M c2] 85 _ rfl
  have hg3 := Gr.alloc (Gr.refl w2) (.cells #[.int .i64 h.tos, .int .i64 h.id, .int .i64 h.ttl, .int .i64 h.proto, .bool h.keep, .int .u32 h.src, .int .u32 h.dst, .slice a2 M c2] 85)
  simp only [List.toArray] at hP
  go_upto_region 2 with fail
  generalize w2.alloc (.cells #[.int .i64 h.tos, .int .i64 h.id, .int .i64 h.ttl, .int .i64 h.proto, .bool h.keep, .int .u32 h.src, .int .u32 h.dst, .slice a2 M c2] 85) = w3 at hP hg3 ⊢
  generalize w2.heap.size = gp at hP ⊢
  replace hR := hR.gr hg3
  replace hG := hG.step hg3
  replace hv := hv.gr hg3
  clear hg3
  obtain ⟨⟨q0, q1, q2, q3, q4, q5, q6, q7⟩, -⟩ := hP.eight
  obtain ⟨⟨r0, r1, r2, r3, r4, r5⟩, s0, s1, s2, s3, s4, s5⟩ := CL.six hR
  go_wp2_with fail
  clear r0 r1 r2 r3 r4 r5 s0 s1 s2 s3 s4 s5 q0 q1 q2 q3 q4 q5 q6 q7
  have hcF := hR.fill [.int .u32 0, .int .u32 0, .int .i64 0, .int .i64 0, .int .i64 0, .int .i64 0] rfl
  have hgF := hG.fill hgz [.int .u32 0, .int .u32 0, .int .i64 0, .int .i64 0, .int .i64 0, .int .i64 0] 0
  simp only [fillC, Nat.reduceAdd] at hcF hgF
  generalize (((((w3.setCell ⟨g1, 0, none⟩ (.int .u32 0)).setCell ⟨g1, 1, none⟩ (.int .u32 0)).setCell ⟨g1, 2, none⟩ (.int .i64 0)).setCell ⟨g1, 3, none⟩ (.int .i64 0)).setCell ⟨g1, 4, none⟩ (.int .i64 0)).setCell ⟨g1, 5, none⟩ (.int .i64 0) = wF at hcF hgF ⊢
  obtain ⟨⟨c0, c1, c2, c3, c4, c5⟩, -⟩ := CL.six hcF
  exact bodyPost_ret (v := .tuple #[.agg #[.int .u32 0, .int .u32 0, .int .i64 0, .int .i64 0, .int .i64 0, .int .i64 0], .int .i64 17]) (by simp [results, Try.results39, go_sem, c0, c1, c2, c3, c4, c5]) rfl ⟨rfl, hgF⟩
set_option maxHeartbeats 2000000 in
theorem rRead_no0 {p : Nat → Prop} {v : Value} {l : List Nat} (w : World) (hr : Rb p w v l) (hl : l.length ≤ 90000) (hn : dcE l = 0) (h8 : ¬ (l.drop 20).length < 8) (h1 : ¬ (hdAt l).proto = 1) (hb : prbE (hdAt l).proto (flI (hdAt l).proto (gN (l.drop 20) 0 2) (gN (l.drop 20) 2 2)) (hdAt l).id (hdAt l).ttl ≠ 0) :
    Calls Try.prog 39 #[v] w fun e w' => e = .returned (.tuple #[prZ, .int .i64 17]) ∧ Gr w w' := by
  have HD := Lib.hid (fun w' (g : Gr w w') => rdecode_ok w' (hr.gr g) hl hn)
  have hdl : (l.drop 20).length ≤ 100000 := by rw [List.length_drop]; omega
  have hbt : ∀ x ∈ l.drop 20, x < 256 := fun x hx => hr.bytes x (List.mem_of_mem_drop hx)
  have hA := gN_lt hbt 0 2
  have hB := gN_lt hbt 2 2
  obtain ⟨F, hF⟩ : ∃ F, F = (flI (hdAt l).proto (gN (l.drop 20) 0 2) (gN (l.drop 20) 2 2)) := ⟨_, rfl⟩
  rw [← hF] at hb
  unfold flI at hF
  have HG0 := Lib.hid (fun v W (hv : Rb (fun _ => True) W v (l.drop 20)) => rat_any 0 2 W hv (by omega) (by omega) (by omega) hdl)
  have HG1 := Lib.hid (fun v W (hv : Rb (fun _ => True) W v (l.drop 20)) => rat_any 2 2 W hv (by omega) (by omega) (by omega) hdl)
  have d8 : decide (((l.drop 20).length : Int) < 8) = false := by rw [decide_eq_false_iff_not]; omega
  generalize gN (l.drop 20) 0 2 = A at *
  generalize gN (l.drop 20) 2 2 = B at *
  rw [if_neg h1] at hF
  have e0 : (A : Int) - 20000 = F := hF.symm
  have w0 : IntKind.i64.wrap F = F := by rw [IntWalk.i64_in _ (by omega)]
  have d1 : (((hdAt l).proto : Int) == 1) = false := by simpa using (by omega : ¬ ((hdAt l).proto : Int) = 1)
  clear hF hA hB HG1
  have HB := Lib.hid (fun W => rbuild_bad (hdAt l).src (hdAt l).dst (hdAt l).proto F (hdAt l).id (hdAt l).ttl W hb)
  generalize prbE (hdAt l).proto F (hdAt l).id (hdAt l).ttl = E at *
  have d2 : ((E : Int) != 0) = true := by rw [bne_iff_ne]; omega
  clear hb
  unfold prV at HB
  clear h1 h8 hdl hbt hl hn
  generalize hdAt l = h at *
  generalize l.drop 20 = d at *
  obtain ⟨av, cv, rfl, -, -⟩ := hr.form
  have HR := Lib.hid hr
  generalize l.length = N at *
  unfold Hd.p pkV at HD
  (try unfold prZ)
  (try unfold prV)
  clear hr
  go_enter Try.func39, Try.ntmps39
  go_upto_region 1 with fail
  have hR := CL.new w [.int .u32 0, .int .u32 0, .int .i64 0, .int .i64 0, .int .i64 0, .int .i64 0] 65 _ rfl
  have hG := (Gr.refl w).alloc (.cells #[.int .u32 0, .int .u32 0, .int .i64 0, .int .i64 0, .int .i64 0, .int .i64 0] 65)
  have hgz := Nat.le_refl w.heap.size
  simp only [List.toArray] at hR
  generalize w.alloc (.cells #[.int .u32 0, .int .u32 0, .int .i64 0, .int .i64 0, .int .i64 0, .int .i64 0] 65) = w1 at hR hG ⊢
  generalize hge : w.heap.size = g1 at hR ⊢
  rw [hge] at hgz
  replace hgz : w.heap.size ≤ g1 := by omega
  clear hge
  go_wp2_with fail
  refine (HD.out _ hG).mono ?_
  rintro e w2 ⟨v2, rfl, ho, hg⟩
  have hv := ho.rb.any
  obtain ⟨a2, c2, rfl, -, -⟩ := hv.form
  generalize d.length = M at *
  replace hR := hR.gr hg
  replace hG := hG.step hg
  clear hg ho
  have hP := CL.new w2 [.int .i64 h.tos, .int .i64 h.id, .int .i64 h.ttl, .int .i64 h.proto, .bool h.keep, .int .u32 h.src, .int .u32 h.dst, .slice a2 M c2] 85 _ rfl
  have hg3 := Gr.alloc (Gr.refl w2) (.cells #[.int .i64 h.tos, .int .i64 h.id, .int .i64 h.ttl, .int .i64 h.proto, .bool h.keep, .int .u32 h.src, .int .u32 h.dst, .slice a2 M c2] 85)
  simp only [List.toArray] at hP
  go_upto_region 2 with fail
  generalize w2.alloc (.cells #[.int .i64 h.tos, .int .i64 h.id, .int .i64 h.ttl, .int .i64 h.proto, .bool h.keep, .int .u32 h.src, .int .u32 h.dst, .slice a2 M c2] 85) = w3 at hP hg3 ⊢
  generalize w2.heap.size = gp at hP ⊢
  replace hR := hR.gr hg3
  replace hG := hG.step hg3
  replace hv := hv.gr hg3
  clear hg3
  obtain ⟨⟨q0, q1, q2, q3, q4, q5, q6, q7⟩, -⟩ := hP.eight
  have hQ := CL.new w3 [.int .u32 h.src, .int .u32 h.dst, .int .i64 h.proto, .int .i64 0, .int .i64 h.id, .int .i64 h.ttl] 65 _ rfl
  have hg3 := Gr.alloc (Gr.refl w3) (.cells #[.int .u32 h.src, .int .u32 h.dst, .int .i64 h.proto, .int .i64 0, .int .i64 h.id, .int .i64 h.ttl] 65)
  have hlq : w.heap.size ≤ w3.heap.size := Gr.size hG
  have hrq : g1 < w3.heap.size := hR.lt
  have hpq : gp < w3.heap.size := hP.lt
  simp only [List.toArray] at hQ
  go_upto_region 5 with fail
  generalize w3.alloc (.cells #[.int .u32 h.src, .int .u32 h.dst, .int .i64 h.proto, .int .i64 0, .int .i64 h.id, .int .i64 h.ttl] 65) = w4 at hQ hg3 ⊢
  have HV1 := Rb.imp hv (q := fun b => b ≠ w3.heap.size) (fun b hb _ => by omega)
  generalize w3.heap.size = gq at hQ hlq hrq hpq HV1 ⊢
  replace hR := hR.gr hg3
  replace hG := hG.step hg3
  have HV := Lib.hid (hv.gr hg3)
  have HV0 := Lib.hid (HV1.gr hg3)
  have hP := hP.gr hg3
  clear hg3 hv q0 q1 q2 q3 q4 q5 q6 q7 HV1
  obtain ⟨⟨q0, q1, q2, q3, q4, q5, q6, q7⟩, -⟩ := hP.eight
  obtain ⟨⟨y0, y1, y2, y3, y4, y5⟩, u0, u1, u2, u3, u4, u5⟩ := CL.six hQ
  go_wp2_with fail
  refine (HG0.out _ _ HV.out).mono ?_
  rintro e w5 ⟨rfl, rfl⟩
  go_upto_region 6 with fail
  clear q0 q1 q2 q3 q4 q5 q6 q7 y0 y1 y2 y3 y4 y5 u0 u1 u2 u3 u4 u5
  replace hQ := hQ.set 3 (.int .i64 F) (by simp)
  replace hR := hR.other (s := gq) (o := 3) (.int .i64 F) (by omega)
  replace hP := hP.other (s := gq) (o := 3) (.int .i64 F) (by omega)
  replace hG := hG.setCell (p := ⟨gq, 3, none⟩) hlq (.int .i64 F)
  simp only [List.set_cons_succ, List.set_cons_zero] at hQ
  generalize w4.setCell ⟨gq, 3, none⟩ (.int .i64 F) = w5 at hQ hR hP hG ⊢
  obtain ⟨⟨y0, y1, y2, y3, y4, y5⟩, -⟩ := CL.six hQ
  go_wp2_with fail
  clear y0 y1 y2 y3 y4 y5
  refine (HB.out _).mono ?_
  rintro e w7 ⟨rfl, hg⟩
  replace hR := hR.gr hg
  replace hG := hG.step hg
  clear hg
  obtain ⟨⟨r0, r1, r2, r3, r4, r5⟩, s0, s1, s2, s3, s4, s5⟩ := CL.six hR
  go_wp2_with fail
  clear r0 r1 r2 r3 r4 r5 s0 s1 s2 s3 s4 s5
  have hcF := hR.fill [.int .u32 0, .int .u32 0, .int .i64 0, .int .i64 0, .int .i64 0, .int .i64 0] rfl
  have hgF := hG.fill hgz [.int .u32 0, .int .u32 0, .int .i64 0, .int .i64 0, .int .i64 0, .int .i64 0] 0
  simp only [fillC, Nat.reduceAdd] at hcF hgF
  generalize (((((w7.setCell ⟨g1, 0, none⟩ (.int .u32 0)).setCell ⟨g1, 1, none⟩ (.int .u32 0)).setCell ⟨g1, 2, none⟩ (.int .i64 0)).setCell ⟨g1, 3, none⟩ (.int .i64 0)).setCell ⟨g1, 4, none⟩ (.int .i64 0)).setCell ⟨g1, 5, none⟩ (.int .i64 0) = wF at hcF hgF ⊢
  obtain ⟨⟨c0, c1, c2, c3, c4, c5⟩, -⟩ := CL.six hcF
  exact bodyPost_ret (v := .tuple #[.agg #[.int .u32 0, .int .u32 0, .int .i64 0, .int .i64 0, .int .i64 0, .int .i64 0], .int .i64 17]) (by simp [results, Try.results39, go_sem, c0, c1, c2, c3, c4, c5]) rfl ⟨rfl, hgF⟩
set_option maxHeartbeats 2000000 in
theorem rRead_yes0 {p : Nat → Prop} {v : Value} {l : List Nat} (w : World) (hr : Rb p w v l) (hl : l.length ≤ 90000) (hn : dcE l = 0) (h8 : ¬ (l.drop 20).length < 8) (h1 : ¬ (hdAt l).proto = 1) (Q : Pr) (k : Q.ok) (hq : prV (hdAt l).src (hdAt l).dst (hdAt l).proto (flI (hdAt l).proto (gN (l.drop 20) 0 2) (gN (l.drop 20) 2 2)) (hdAt l).id (hdAt l).ttl = Q.v) (hc : decide (Q.pk = l) = true) :
    Calls Try.prog 39 #[v] w fun e w' => e = .returned (.tuple #[prV (hdAt l).src (hdAt l).dst (hdAt l).proto (flI (hdAt l).proto (gN (l.drop 20) 0 2) (gN (l.drop 20) 2 2)) (hdAt l).id (hdAt l).ttl, .int .i64 0]) ∧ Gr w w' := by
  have HD := Lib.hid (fun w' (g : Gr w w') => rdecode_ok w' (hr.gr g) hl hn)
  have hdl : (l.drop 20).length ≤ 100000 := by rw [List.length_drop]; omega
  have hbt : ∀ x ∈ l.drop 20, x < 256 := fun x hx => hr.bytes x (List.mem_of_mem_drop hx)
  have hA := gN_lt hbt 0 2
  have hB := gN_lt hbt 2 2
  obtain ⟨F, hF⟩ : ∃ F, F = (flI (hdAt l).proto (gN (l.drop 20) 0 2) (gN (l.drop 20) 2 2)) := ⟨_, rfl⟩
  rw [← hF] at hq ⊢
  unfold flI at hF
  have HG0 := Lib.hid (fun v W (hv : Rb (fun _ => True) W v (l.drop 20)) => rat_any 0 2 W hv (by omega) (by omega) (by omega) hdl)
  have HG1 := Lib.hid (fun v W (hv : Rb (fun _ => True) W v (l.drop 20)) => rat_any 2 2 W hv (by omega) (by omega) (by omega) hdl)
  have d8 : decide (((l.drop 20).length : Int) < 8) = false := by rw [decide_eq_false_iff_not]; omega
  generalize gN (l.drop 20) 0 2 = A at *
  generalize gN (l.drop 20) 2 2 = B at *
  rw [if_neg h1] at hF
  have e0 : (A : Int) - 20000 = F := hF.symm
  have w0 : IntKind.i64.wrap F = F := by rw [IntWalk.i64_in _ (by omega)]
  have d1 : (((hdAt l).proto : Int) == 1) = false := by simpa using (by omega : ¬ ((hdAt l).proto : Int) = 1)
  clear hF hA hB HG1
  have HB := Lib.hid (fun W => rbuild_ok Q k W)
  rw [← hq] at HB
  have HC := Lib.hid hc
  have HL := Lib.hid (Pr.pk_len k).2
  have HLL := Lib.hid (fun (m : List Nat) (hm : m = l) => (by rw [hm]; omega : m.length ≤ 100000))
  clear hq hc k
  unfold prV at HB
  clear h1 h8 hdl hbt hl hn
  generalize hdAt l = h at *
  generalize l.drop 20 = d at *
  obtain ⟨av, cv, rfl, -, -⟩ := hr.form
  have HR := Lib.hid hr
  generalize l.length = N at *
  unfold Hd.p pkV at HD
  (try unfold prZ)
  (try unfold prV)
  clear hr
  go_enter Try.func39, Try.ntmps39
  go_upto_region 1 with fail
  have hR := CL.new w [.int .u32 0, .int .u32 0, .int .i64 0, .int .i64 0, .int .i64 0, .int .i64 0] 65 _ rfl
  have hG := (Gr.refl w).alloc (.cells #[.int .u32 0, .int .u32 0, .int .i64 0, .int .i64 0, .int .i64 0, .int .i64 0] 65)
  have hgz := Nat.le_refl w.heap.size
  simp only [List.toArray] at hR
  generalize w.alloc (.cells #[.int .u32 0, .int .u32 0, .int .i64 0, .int .i64 0, .int .i64 0, .int .i64 0] 65) = w1 at hR hG ⊢
  generalize hge : w.heap.size = g1 at hR ⊢
  rw [hge] at hgz
  replace hgz : w.heap.size ≤ g1 := by omega
  clear hge
  go_wp2_with fail
  refine (HD.out _ hG).mono ?_
  rintro e w2 ⟨v2, rfl, ho, hg⟩
  have hv := ho.rb.any
  obtain ⟨a2, c2, rfl, -, -⟩ := hv.form
  generalize d.length = M at *
  replace hR := hR.gr hg
  replace hG := hG.step hg
  clear hg ho
  have hP := CL.new w2 [.int .i64 h.tos, .int .i64 h.id, .int .i64 h.ttl, .int .i64 h.proto, .bool h.keep, .int .u32 h.src, .int .u32 h.dst, .slice a2 M c2] 85 _ rfl
  have hg3 := Gr.alloc (Gr.refl w2) (.cells #[.int .i64 h.tos, .int .i64 h.id, .int .i64 h.ttl, .int .i64 h.proto, .bool h.keep, .int .u32 h.src, .int .u32 h.dst, .slice a2 M c2] 85)
  simp only [List.toArray] at hP
  go_upto_region 2 with fail
  generalize w2.alloc (.cells #[.int .i64 h.tos, .int .i64 h.id, .int .i64 h.ttl, .int .i64 h.proto, .bool h.keep, .int .u32 h.src, .int .u32 h.dst, .slice a2 M c2] 85) = w3 at hP hg3 ⊢
  generalize w2.heap.size = gp at hP ⊢
  replace hR := hR.gr hg3
  replace hG := hG.step hg3
  replace hv := hv.gr hg3
  clear hg3
  obtain ⟨⟨q0, q1, q2, q3, q4, q5, q6, q7⟩, -⟩ := hP.eight
  have hQ := CL.new w3 [.int .u32 h.src, .int .u32 h.dst, .int .i64 h.proto, .int .i64 0, .int .i64 h.id, .int .i64 h.ttl] 65 _ rfl
  have hg3 := Gr.alloc (Gr.refl w3) (.cells #[.int .u32 h.src, .int .u32 h.dst, .int .i64 h.proto, .int .i64 0, .int .i64 h.id, .int .i64 h.ttl] 65)
  have hlq : w.heap.size ≤ w3.heap.size := Gr.size hG
  have hrq : g1 < w3.heap.size := hR.lt
  have hpq : gp < w3.heap.size := hP.lt
  simp only [List.toArray] at hQ
  go_upto_region 5 with fail
  generalize w3.alloc (.cells #[.int .u32 h.src, .int .u32 h.dst, .int .i64 h.proto, .int .i64 0, .int .i64 h.id, .int .i64 h.ttl] 65) = w4 at hQ hg3 ⊢
  have HV1 := Rb.imp hv (q := fun b => b ≠ w3.heap.size) (fun b hb _ => by omega)
  generalize w3.heap.size = gq at hQ hlq hrq hpq HV1 ⊢
  replace hR := hR.gr hg3
  replace hG := hG.step hg3
  have HV := Lib.hid (hv.gr hg3)
  have HV0 := Lib.hid (HV1.gr hg3)
  have hP := hP.gr hg3
  clear hg3 hv q0 q1 q2 q3 q4 q5 q6 q7 HV1
  obtain ⟨⟨q0, q1, q2, q3, q4, q5, q6, q7⟩, -⟩ := hP.eight
  obtain ⟨⟨y0, y1, y2, y3, y4, y5⟩, u0, u1, u2, u3, u4, u5⟩ := CL.six hQ
  go_wp2_with fail
  refine (HG0.out _ _ HV.out).mono ?_
  rintro e w5 ⟨rfl, rfl⟩
  go_upto_region 6 with fail
  clear q0 q1 q2 q3 q4 q5 q6 q7 y0 y1 y2 y3 y4 y5 u0 u1 u2 u3 u4 u5
  replace hQ := hQ.set 3 (.int .i64 F) (by simp)
  replace hR := hR.other (s := gq) (o := 3) (.int .i64 F) (by omega)
  replace hP := hP.other (s := gq) (o := 3) (.int .i64 F) (by omega)
  replace hG := hG.setCell (p := ⟨gq, 3, none⟩) hlq (.int .i64 F)
  simp only [List.set_cons_succ, List.set_cons_zero] at hQ
  generalize w4.setCell ⟨gq, 3, none⟩ (.int .i64 F) = w5 at hQ hR hP hG ⊢
  obtain ⟨⟨y0, y1, y2, y3, y4, y5⟩, -⟩ := CL.six hQ
  go_wp2_with fail
  clear y0 y1 y2 y3 y4 y5
  refine (HB.out _).mono ?_
  rintro e w7 ⟨v6, rfl, ho, hg⟩
  replace hR := hR.gr hg
  replace hG := hG.step hg
  replace hQ := hQ.gr hg
  have hv := ho.rb.any
  obtain ⟨a6, c6, rfl, -, -⟩ := hv.form
  have HE := Lib.hid (rweq_any w7 hv (HR.out.gr hG) (by have := HL.out; omega) (HLL.out _ rfl))
  rw [HC.out] at HE
  generalize Q.pk.length = K at *
  clear hg ho hv HB HR
  go_wp2_with fail
  refine HE.out.mono ?_
  rintro e w8 ⟨rfl, hg⟩
  replace hR := hR.gr hg
  replace hG := hG.step hg
  replace hQ := hQ.gr hg
  clear hg
  obtain ⟨⟨y0, y1, y2, y3, y4, y5⟩, -⟩ := CL.six hQ
  obtain ⟨⟨r0, r1, r2, r3, r4, r5⟩, s0, s1, s2, s3, s4, s5⟩ := CL.six hR
  go_wp2_with fail
  clear r0 r1 r2 r3 r4 r5 s0 s1 s2 s3 s4 s5 y0 y1 y2 y3 y4 y5
  have hcF := hR.fill [.int .u32 h.src, .int .u32 h.dst, .int .i64 h.proto, .int .i64 F, .int .i64 h.id, .int .i64 h.ttl] rfl
  have hgF := hG.fill hgz [.int .u32 h.src, .int .u32 h.dst, .int .i64 h.proto, .int .i64 F, .int .i64 h.id, .int .i64 h.ttl] 0
  simp only [fillC, Nat.reduceAdd] at hcF hgF
  generalize (((((w8.setCell ⟨g1, 0, none⟩ (.int .u32 h.src)).setCell ⟨g1, 1, none⟩ (.int .u32 h.dst)).setCell ⟨g1, 2, none⟩ (.int .i64 h.proto)).setCell ⟨g1, 3, none⟩ (.int .i64 F)).setCell ⟨g1, 4, none⟩ (.int .i64 h.id)).setCell ⟨g1, 5, none⟩ (.int .i64 h.ttl) = wF at hcF hgF ⊢
  obtain ⟨⟨c0, c1, c2, c3, c4, c5⟩, -⟩ := CL.six hcF
  exact bodyPost_ret (v := .tuple #[.agg #[.int .u32 h.src, .int .u32 h.dst, .int .i64 h.proto, .int .i64 F, .int .i64 h.id, .int .i64 h.ttl], .int .i64 0]) (by simp [results, Try.results39, go_sem, c0, c1, c2, c3, c4, c5]) rfl ⟨rfl, hgF⟩
set_option maxHeartbeats 2000000 in
theorem rRead_diff0 {p : Nat → Prop} {v : Value} {l : List Nat} (w : World) (hr : Rb p w v l) (hl : l.length ≤ 90000) (hn : dcE l = 0) (h8 : ¬ (l.drop 20).length < 8) (h1 : ¬ (hdAt l).proto = 1) (Q : Pr) (k : Q.ok) (hq : prV (hdAt l).src (hdAt l).dst (hdAt l).proto (flI (hdAt l).proto (gN (l.drop 20) 0 2) (gN (l.drop 20) 2 2)) (hdAt l).id (hdAt l).ttl = Q.v) (hc : decide (Q.pk = l) = false) :
    Calls Try.prog 39 #[v] w fun e w' => e = .returned (.tuple #[prZ, .int .i64 17]) ∧ Gr w w' := by
  have HD := Lib.hid (fun w' (g : Gr w w') => rdecode_ok w' (hr.gr g) hl hn)
  have hdl : (l.drop 20).length ≤ 100000 := by rw [List.length_drop]; omega
  have hbt : ∀ x ∈ l.drop 20, x < 256 := fun x hx => hr.bytes x (List.mem_of_mem_drop hx)
  have hA := gN_lt hbt 0 2
  have hB := gN_lt hbt 2 2
  obtain ⟨F, hF⟩ : ∃ F, F = (flI (hdAt l).proto (gN (l.drop 20) 0 2) (gN (l.drop 20) 2 2)) := ⟨_, rfl⟩
  rw [← hF] at hq
  unfold flI at hF
  have HG0 := Lib.hid (fun v W (hv : Rb (fun _ => True) W v (l.drop 20)) => rat_any 0 2 W hv (by omega) (by omega) (by omega) hdl)
  have HG1 := Lib.hid (fun v W (hv : Rb (fun _ => True) W v (l.drop 20)) => rat_any 2 2 W hv (by omega) (by omega) (by omega) hdl)
  have d8 : decide (((l.drop 20).length : Int) < 8) = false := by rw [decide_eq_false_iff_not]; omega
  generalize gN (l.drop 20) 0 2 = A at *
  generalize gN (l.drop 20) 2 2 = B at *
  rw [if_neg h1] at hF
  have e0 : (A : Int) - 20000 = F := hF.symm
  have w0 : IntKind.i64.wrap F = F := by rw [IntWalk.i64_in _ (by omega)]
  have d1 : (((hdAt l).proto : Int) == 1) = false := by simpa using (by omega : ¬ ((hdAt l).proto : Int) = 1)
  clear hF hA hB HG1
  have HB := Lib.hid (fun W => rbuild_ok Q k W)
  rw [← hq] at HB
  have HC := Lib.hid hc
  have HL := Lib.hid (Pr.pk_len k).2
  have HLL := Lib.hid (fun (m : List Nat) (hm : m = l) => (by rw [hm]; omega : m.length ≤ 100000))
  clear hq hc k
  unfold prV at HB
  clear h1 h8 hdl hbt hl hn
  generalize hdAt l = h at *
  generalize l.drop 20 = d at *
  obtain ⟨av, cv, rfl, -, -⟩ := hr.form
  have HR := Lib.hid hr
  generalize l.length = N at *
  unfold Hd.p pkV at HD
  (try unfold prZ)
  (try unfold prV)
  clear hr
  go_enter Try.func39, Try.ntmps39
  go_upto_region 1 with fail
  have hR := CL.new w [.int .u32 0, .int .u32 0, .int .i64 0, .int .i64 0, .int .i64 0, .int .i64 0] 65 _ rfl
  have hG := (Gr.refl w).alloc (.cells #[.int .u32 0, .int .u32 0, .int .i64 0, .int .i64 0, .int .i64 0, .int .i64 0] 65)
  have hgz := Nat.le_refl w.heap.size
  simp only [List.toArray] at hR
  generalize w.alloc (.cells #[.int .u32 0, .int .u32 0, .int .i64 0, .int .i64 0, .int .i64 0, .int .i64 0] 65) = w1 at hR hG ⊢
  generalize hge : w.heap.size = g1 at hR ⊢
  rw [hge] at hgz
  replace hgz : w.heap.size ≤ g1 := by omega
  clear hge
  go_wp2_with fail
  refine (HD.out _ hG).mono ?_
  rintro e w2 ⟨v2, rfl, ho, hg⟩
  have hv := ho.rb.any
  obtain ⟨a2, c2, rfl, -, -⟩ := hv.form
  generalize d.length = M at *
  replace hR := hR.gr hg
  replace hG := hG.step hg
  clear hg ho
  have hP := CL.new w2 [.int .i64 h.tos, .int .i64 h.id, .int .i64 h.ttl, .int .i64 h.proto, .bool h.keep, .int .u32 h.src, .int .u32 h.dst, .slice a2 M c2] 85 _ rfl
  have hg3 := Gr.alloc (Gr.refl w2) (.cells #[.int .i64 h.tos, .int .i64 h.id, .int .i64 h.ttl, .int .i64 h.proto, .bool h.keep, .int .u32 h.src, .int .u32 h.dst, .slice a2 M c2] 85)
  simp only [List.toArray] at hP
  go_upto_region 2 with fail
  generalize w2.alloc (.cells #[.int .i64 h.tos, .int .i64 h.id, .int .i64 h.ttl, .int .i64 h.proto, .bool h.keep, .int .u32 h.src, .int .u32 h.dst, .slice a2 M c2] 85) = w3 at hP hg3 ⊢
  generalize w2.heap.size = gp at hP ⊢
  replace hR := hR.gr hg3
  replace hG := hG.step hg3
  replace hv := hv.gr hg3
  clear hg3
  obtain ⟨⟨q0, q1, q2, q3, q4, q5, q6, q7⟩, -⟩ := hP.eight
  have hQ := CL.new w3 [.int .u32 h.src, .int .u32 h.dst, .int .i64 h.proto, .int .i64 0, .int .i64 h.id, .int .i64 h.ttl] 65 _ rfl
  have hg3 := Gr.alloc (Gr.refl w3) (.cells #[.int .u32 h.src, .int .u32 h.dst, .int .i64 h.proto, .int .i64 0, .int .i64 h.id, .int .i64 h.ttl] 65)
  have hlq : w.heap.size ≤ w3.heap.size := Gr.size hG
  have hrq : g1 < w3.heap.size := hR.lt
  have hpq : gp < w3.heap.size := hP.lt
  simp only [List.toArray] at hQ
  go_upto_region 5 with fail
  generalize w3.alloc (.cells #[.int .u32 h.src, .int .u32 h.dst, .int .i64 h.proto, .int .i64 0, .int .i64 h.id, .int .i64 h.ttl] 65) = w4 at hQ hg3 ⊢
  have HV1 := Rb.imp hv (q := fun b => b ≠ w3.heap.size) (fun b hb _ => by omega)
  generalize w3.heap.size = gq at hQ hlq hrq hpq HV1 ⊢
  replace hR := hR.gr hg3
  replace hG := hG.step hg3
  have HV := Lib.hid (hv.gr hg3)
  have HV0 := Lib.hid (HV1.gr hg3)
  have hP := hP.gr hg3
  clear hg3 hv q0 q1 q2 q3 q4 q5 q6 q7 HV1
  obtain ⟨⟨q0, q1, q2, q3, q4, q5, q6, q7⟩, -⟩ := hP.eight
  obtain ⟨⟨y0, y1, y2, y3, y4, y5⟩, u0, u1, u2, u3, u4, u5⟩ := CL.six hQ
  go_wp2_with fail
  refine (HG0.out _ _ HV.out).mono ?_
  rintro e w5 ⟨rfl, rfl⟩
  go_upto_region 6 with fail
  clear q0 q1 q2 q3 q4 q5 q6 q7 y0 y1 y2 y3 y4 y5 u0 u1 u2 u3 u4 u5
  replace hQ := hQ.set 3 (.int .i64 F) (by simp)
  replace hR := hR.other (s := gq) (o := 3) (.int .i64 F) (by omega)
  replace hP := hP.other (s := gq) (o := 3) (.int .i64 F) (by omega)
  replace hG := hG.setCell (p := ⟨gq, 3, none⟩) hlq (.int .i64 F)
  simp only [List.set_cons_succ, List.set_cons_zero] at hQ
  generalize w4.setCell ⟨gq, 3, none⟩ (.int .i64 F) = w5 at hQ hR hP hG ⊢
  obtain ⟨⟨y0, y1, y2, y3, y4, y5⟩, -⟩ := CL.six hQ
  go_wp2_with fail
  clear y0 y1 y2 y3 y4 y5
  refine (HB.out _).mono ?_
  rintro e w7 ⟨v6, rfl, ho, hg⟩
  replace hR := hR.gr hg
  replace hG := hG.step hg
  replace hQ := hQ.gr hg
  have hv := ho.rb.any
  obtain ⟨a6, c6, rfl, -, -⟩ := hv.form
  have HE := Lib.hid (rweq_any w7 hv (HR.out.gr hG) (by have := HL.out; omega) (HLL.out _ rfl))
  rw [HC.out] at HE
  generalize Q.pk.length = K at *
  clear hg ho hv HB HR
  go_wp2_with fail
  refine HE.out.mono ?_
  rintro e w8 ⟨rfl, hg⟩
  replace hR := hR.gr hg
  replace hG := hG.step hg
  replace hQ := hQ.gr hg
  clear hg
  obtain ⟨⟨y0, y1, y2, y3, y4, y5⟩, -⟩ := CL.six hQ
  obtain ⟨⟨r0, r1, r2, r3, r4, r5⟩, s0, s1, s2, s3, s4, s5⟩ := CL.six hR
  go_wp2_with fail
  clear r0 r1 r2 r3 r4 r5 s0 s1 s2 s3 s4 s5 y0 y1 y2 y3 y4 y5
  have hcF := hR.fill [.int .u32 0, .int .u32 0, .int .i64 0, .int .i64 0, .int .i64 0, .int .i64 0] rfl
  have hgF := hG.fill hgz [.int .u32 0, .int .u32 0, .int .i64 0, .int .i64 0, .int .i64 0, .int .i64 0] 0
  simp only [fillC, Nat.reduceAdd] at hcF hgF
  generalize (((((w8.setCell ⟨g1, 0, none⟩ (.int .u32 0)).setCell ⟨g1, 1, none⟩ (.int .u32 0)).setCell ⟨g1, 2, none⟩ (.int .i64 0)).setCell ⟨g1, 3, none⟩ (.int .i64 0)).setCell ⟨g1, 4, none⟩ (.int .i64 0)).setCell ⟨g1, 5, none⟩ (.int .i64 0) = wF at hcF hgF ⊢
  obtain ⟨⟨c0, c1, c2, c3, c4, c5⟩, -⟩ := CL.six hcF
  exact bodyPost_ret (v := .tuple #[.agg #[.int .u32 0, .int .u32 0, .int .i64 0, .int .i64 0, .int .i64 0, .int .i64 0], .int .i64 17]) (by simp [results, Try.results39, go_sem, c0, c1, c2, c3, c4, c5]) rfl ⟨rfl, hgF⟩
set_option maxHeartbeats 2000000 in
theorem rRead_no1 {p : Nat → Prop} {v : Value} {l : List Nat} (w : World) (hr : Rb p w v l) (hl : l.length ≤ 90000) (hn : dcE l = 0) (h8 : ¬ (l.drop 20).length < 8) (h1 : (hdAt l).proto = 1) (hb : prbE (hdAt l).proto (flI (hdAt l).proto (gN (l.drop 20) 0 2) (gN (l.drop 20) 2 2)) (hdAt l).id (hdAt l).ttl ≠ 0) :
    Calls Try.prog 39 #[v] w fun e w' => e = .returned (.tuple #[prZ, .int .i64 17]) ∧ Gr w w' := by
  have HD := Lib.hid (fun w' (g : Gr w w') => rdecode_ok w' (hr.gr g) hl hn)
  have hdl : (l.drop 20).length ≤ 100000 := by rw [List.length_drop]; omega
  have hbt : ∀ x ∈ l.drop 20, x < 256 := fun x hx => hr.bytes x (List.mem_of_mem_drop hx)
  have hA := gN_lt hbt 0 2
  have hB := gN_lt hbt 2 2
  obtain ⟨F, hF⟩ : ∃ F, F = (flI (hdAt l).proto (gN (l.drop 20) 0 2) (gN (l.drop 20) 2 2)) := ⟨_, rfl⟩
  rw [← hF] at hb
  unfold flI at hF
  have HG0 := Lib.hid (fun v W (hv : Rb (fun _ => True) W v (l.drop 20)) => rat_any 0 2 W hv (by omega) (by omega) (by omega) hdl)
  have HG1 := Lib.hid (fun v W (hv : Rb (fun _ => True) W v (l.drop 20)) => rat_any 2 2 W hv (by omega) (by omega) (by omega) hdl)
  have d8 : decide (((l.drop 20).length : Int) < 8) = false := by rw [decide_eq_false_iff_not]; omega
  generalize gN (l.drop 20) 0 2 = A at *
  generalize gN (l.drop 20) 2 2 = B at *
  rw [if_pos h1] at hF
  obtain ⟨F0, hF0⟩ : ∃ F0, F0 = (A : Int) - 20000 := ⟨_, rfl⟩
  have e0 : (A : Int) - 20000 = F0 := hF0.symm
  have e1 : (B : Int) - 16384 = F := hF.symm
  have w0 : IntKind.i64.wrap F0 = F0 := by rw [IntWalk.i64_in _ (by omega)]
  have w1 : IntKind.i64.wrap F = F := by rw [IntWalk.i64_in _ (by omega)]
  have d1 : (((hdAt l).proto : Int) == 1) = true := by rw [h1]; rfl
  clear hF hF0 hA hB
  have HB := Lib.hid (fun W => rbuild_bad (hdAt l).src (hdAt l).dst (hdAt l).proto F (hdAt l).id (hdAt l).ttl W hb)
  generalize prbE (hdAt l).proto F (hdAt l).id (hdAt l).ttl = E at *
  have d2 : ((E : Int) != 0) = true := by rw [bne_iff_ne]; omega
  clear hb
  unfold prV at HB
  clear h1 h8 hdl hbt hl hn
  generalize hdAt l = h at *
  generalize l.drop 20 = d at *
  obtain ⟨av, cv, rfl, -, -⟩ := hr.form
  have HR := Lib.hid hr
  generalize l.length = N at *
  unfold Hd.p pkV at HD
  (try unfold prZ)
  (try unfold prV)
  clear hr
  go_enter Try.func39, Try.ntmps39
  go_upto_region 1 with fail
  have hR := CL.new w [.int .u32 0, .int .u32 0, .int .i64 0, .int .i64 0, .int .i64 0, .int .i64 0] 65 _ rfl
  have hG := (Gr.refl w).alloc (.cells #[.int .u32 0, .int .u32 0, .int .i64 0, .int .i64 0, .int .i64 0, .int .i64 0] 65)
  have hgz := Nat.le_refl w.heap.size
  simp only [List.toArray] at hR
  generalize w.alloc (.cells #[.int .u32 0, .int .u32 0, .int .i64 0, .int .i64 0, .int .i64 0, .int .i64 0] 65) = w1 at hR hG ⊢
  generalize hge : w.heap.size = g1 at hR ⊢
  rw [hge] at hgz
  replace hgz : w.heap.size ≤ g1 := by omega
  clear hge
  go_wp2_with fail
  refine (HD.out _ hG).mono ?_
  rintro e w2 ⟨v2, rfl, ho, hg⟩
  have hv := ho.rb.any
  obtain ⟨a2, c2, rfl, -, -⟩ := hv.form
  generalize d.length = M at *
  replace hR := hR.gr hg
  replace hG := hG.step hg
  clear hg ho
  have hP := CL.new w2 [.int .i64 h.tos, .int .i64 h.id, .int .i64 h.ttl, .int .i64 h.proto, .bool h.keep, .int .u32 h.src, .int .u32 h.dst, .slice a2 M c2] 85 _ rfl
  have hg3 := Gr.alloc (Gr.refl w2) (.cells #[.int .i64 h.tos, .int .i64 h.id, .int .i64 h.ttl, .int .i64 h.proto, .bool h.keep, .int .u32 h.src, .int .u32 h.dst, .slice a2 M c2] 85)
  simp only [List.toArray] at hP
  go_upto_region 2 with fail
  generalize w2.alloc (.cells #[.int .i64 h.tos, .int .i64 h.id, .int .i64 h.ttl, .int .i64 h.proto, .bool h.keep, .int .u32 h.src, .int .u32 h.dst, .slice a2 M c2] 85) = w3 at hP hg3 ⊢
  generalize w2.heap.size = gp at hP ⊢
  replace hR := hR.gr hg3
  replace hG := hG.step hg3
  replace hv := hv.gr hg3
  clear hg3
  obtain ⟨⟨q0, q1, q2, q3, q4, q5, q6, q7⟩, -⟩ := hP.eight
  have hQ := CL.new w3 [.int .u32 h.src, .int .u32 h.dst, .int .i64 h.proto, .int .i64 0, .int .i64 h.id, .int .i64 h.ttl] 65 _ rfl
  have hg3 := Gr.alloc (Gr.refl w3) (.cells #[.int .u32 h.src, .int .u32 h.dst, .int .i64 h.proto, .int .i64 0, .int .i64 h.id, .int .i64 h.ttl] 65)
  have hlq : w.heap.size ≤ w3.heap.size := Gr.size hG
  have hrq : g1 < w3.heap.size := hR.lt
  have hpq : gp < w3.heap.size := hP.lt
  simp only [List.toArray] at hQ
  go_upto_region 5 with fail
  generalize w3.alloc (.cells #[.int .u32 h.src, .int .u32 h.dst, .int .i64 h.proto, .int .i64 0, .int .i64 h.id, .int .i64 h.ttl] 65) = w4 at hQ hg3 ⊢
  have HV1 := Rb.imp hv (q := fun b => b ≠ w3.heap.size) (fun b hb _ => by omega)
  generalize w3.heap.size = gq at hQ hlq hrq hpq HV1 ⊢
  replace hR := hR.gr hg3
  replace hG := hG.step hg3
  have HV := Lib.hid (hv.gr hg3)
  have HV0 := Lib.hid (HV1.gr hg3)
  have hP := hP.gr hg3
  clear hg3 hv q0 q1 q2 q3 q4 q5 q6 q7 HV1
  obtain ⟨⟨q0, q1, q2, q3, q4, q5, q6, q7⟩, -⟩ := hP.eight
  obtain ⟨⟨y0, y1, y2, y3, y4, y5⟩, u0, u1, u2, u3, u4, u5⟩ := CL.six hQ
  go_wp2_with fail
  refine (HG0.out _ _ HV.out).mono ?_
  rintro e w5 ⟨rfl, rfl⟩
  go_upto_region 6 with fail
  clear q0 q1 q2 q3 q4 q5 q6 q7 y0 y1 y2 y3 y4 y5 u0 u1 u2 u3 u4 u5
  have hw4 : gq < w4.heap.size := hQ.lt
  have hxs := Ex.set (Ex.refl gq w4) 3 (.int .i64 F0)
  replace hQ := hQ.set 3 (.int .i64 F0) (by simp)
  replace hR := hR.other (s := gq) (o := 3) (.int .i64 F0) (by omega)
  replace hP := hP.other (s := gq) (o := 3) (.int .i64 F0) (by omega)
  replace hG := hG.setCell (p := ⟨gq, 3, none⟩) hlq (.int .i64 F0)
  simp only [List.set_cons_succ, List.set_cons_zero] at hQ
  have HV5 := Lib.hid (HV0.out.ex hxs (fun b hb => hb)).any
  clear hxs
  generalize w4.setCell ⟨gq, 3, none⟩ (.int .i64 F0) = w5 at hQ hR hP hG HV5 ⊢
  obtain ⟨⟨y0, y1, y2, y3, y4, y5⟩, u0, u1, u2, u3, u4, u5⟩ := CL.six hQ
  obtain ⟨⟨q0, q1, q2, q3, q4, q5, q6, q7⟩, -⟩ := hP.eight
  go_wp2_with fail
  refine (HG1.out _ _ HV5.out).mono ?_
  rintro e w6 ⟨rfl, rfl⟩
  go_upto_region 8 with fail
  clear q0 q1 q2 q3 q4 q5 q6 q7 y0 y1 y2 y3 y4 y5 u0 u1 u2 u3 u4 u5
  replace hQ := hQ.set 3 (.int .i64 F) (by simp)
  replace hR := hR.other (s := gq) (o := 3) (.int .i64 F) (by omega)
  replace hP := hP.other (s := gq) (o := 3) (.int .i64 F) (by omega)
  replace hG := hG.setCell (p := ⟨gq, 3, none⟩) hlq (.int .i64 F)
  simp only [List.set_cons_succ, List.set_cons_zero] at hQ
  generalize w5.setCell ⟨gq, 3, none⟩ (.int .i64 F) = w6 at hQ hR hP hG ⊢
  obtain ⟨⟨y0, y1, y2, y3, y4, y5⟩, -⟩ := CL.six hQ
  go_wp2_with fail
  clear y0 y1 y2 y3 y4 y5
  refine (HB.out _).mono ?_
  rintro e w7 ⟨rfl, hg⟩
  replace hR := hR.gr hg
  replace hG := hG.step hg
  clear hg
  obtain ⟨⟨r0, r1, r2, r3, r4, r5⟩, s0, s1, s2, s3, s4, s5⟩ := CL.six hR
  go_wp2_with fail
  clear r0 r1 r2 r3 r4 r5 s0 s1 s2 s3 s4 s5
  have hcF := hR.fill [.int .u32 0, .int .u32 0, .int .i64 0, .int .i64 0, .int .i64 0, .int .i64 0] rfl
  have hgF := hG.fill hgz [.int .u32 0, .int .u32 0, .int .i64 0, .int .i64 0, .int .i64 0, .int .i64 0] 0
  simp only [fillC, Nat.reduceAdd] at hcF hgF
  generalize (((((w7.setCell ⟨g1, 0, none⟩ (.int .u32 0)).setCell ⟨g1, 1, none⟩ (.int .u32 0)).setCell ⟨g1, 2, none⟩ (.int .i64 0)).setCell ⟨g1, 3, none⟩ (.int .i64 0)).setCell ⟨g1, 4, none⟩ (.int .i64 0)).setCell ⟨g1, 5, none⟩ (.int .i64 0) = wF at hcF hgF ⊢
  obtain ⟨⟨c0, c1, c2, c3, c4, c5⟩, -⟩ := CL.six hcF
  exact bodyPost_ret (v := .tuple #[.agg #[.int .u32 0, .int .u32 0, .int .i64 0, .int .i64 0, .int .i64 0, .int .i64 0], .int .i64 17]) (by simp [results, Try.results39, go_sem, c0, c1, c2, c3, c4, c5]) rfl ⟨rfl, hgF⟩
set_option maxHeartbeats 2000000 in
theorem rRead_yes1 {p : Nat → Prop} {v : Value} {l : List Nat} (w : World) (hr : Rb p w v l) (hl : l.length ≤ 90000) (hn : dcE l = 0) (h8 : ¬ (l.drop 20).length < 8) (h1 : (hdAt l).proto = 1) (Q : Pr) (k : Q.ok) (hq : prV (hdAt l).src (hdAt l).dst (hdAt l).proto (flI (hdAt l).proto (gN (l.drop 20) 0 2) (gN (l.drop 20) 2 2)) (hdAt l).id (hdAt l).ttl = Q.v) (hc : decide (Q.pk = l) = true) :
    Calls Try.prog 39 #[v] w fun e w' => e = .returned (.tuple #[prV (hdAt l).src (hdAt l).dst (hdAt l).proto (flI (hdAt l).proto (gN (l.drop 20) 0 2) (gN (l.drop 20) 2 2)) (hdAt l).id (hdAt l).ttl, .int .i64 0]) ∧ Gr w w' := by
  have HD := Lib.hid (fun w' (g : Gr w w') => rdecode_ok w' (hr.gr g) hl hn)
  have hdl : (l.drop 20).length ≤ 100000 := by rw [List.length_drop]; omega
  have hbt : ∀ x ∈ l.drop 20, x < 256 := fun x hx => hr.bytes x (List.mem_of_mem_drop hx)
  have hA := gN_lt hbt 0 2
  have hB := gN_lt hbt 2 2
  obtain ⟨F, hF⟩ : ∃ F, F = (flI (hdAt l).proto (gN (l.drop 20) 0 2) (gN (l.drop 20) 2 2)) := ⟨_, rfl⟩
  rw [← hF] at hq ⊢
  unfold flI at hF
  have HG0 := Lib.hid (fun v W (hv : Rb (fun _ => True) W v (l.drop 20)) => rat_any 0 2 W hv (by omega) (by omega) (by omega) hdl)
  have HG1 := Lib.hid (fun v W (hv : Rb (fun _ => True) W v (l.drop 20)) => rat_any 2 2 W hv (by omega) (by omega) (by omega) hdl)
  have d8 : decide (((l.drop 20).length : Int) < 8) = false := by rw [decide_eq_false_iff_not]; omega
  generalize gN (l.drop 20) 0 2 = A at *
  generalize gN (l.drop 20) 2 2 = B at *
  rw [if_pos h1] at hF
  obtain ⟨F0, hF0⟩ : ∃ F0, F0 = (A : Int) - 20000 := ⟨_, rfl⟩
  have e0 : (A : Int) - 20000 = F0 := hF0.symm
  have e1 : (B : Int) - 16384 = F := hF.symm
  have w0 : IntKind.i64.wrap F0 = F0 := by rw [IntWalk.i64_in _ (by omega)]
  have w1 : IntKind.i64.wrap F = F := by rw [IntWalk.i64_in _ (by omega)]
  have d1 : (((hdAt l).proto : Int) == 1) = true := by rw [h1]; rfl
  clear hF hF0 hA hB
  have HB := Lib.hid (fun W => rbuild_ok Q k W)
  rw [← hq] at HB
  have HC := Lib.hid hc
  have HL := Lib.hid (Pr.pk_len k).2
  have HLL := Lib.hid (fun (m : List Nat) (hm : m = l) => (by rw [hm]; omega : m.length ≤ 100000))
  clear hq hc k
  unfold prV at HB
  clear h1 h8 hdl hbt hl hn
  generalize hdAt l = h at *
  generalize l.drop 20 = d at *
  obtain ⟨av, cv, rfl, -, -⟩ := hr.form
  have HR := Lib.hid hr
  generalize l.length = N at *
  unfold Hd.p pkV at HD
  (try unfold prZ)
  (try unfold prV)
  clear hr
  go_enter Try.func39, Try.ntmps39
  go_upto_region 1 with fail
  have hR := CL.new w [.int .u32 0, .int .u32 0, .int .i64 0, .int .i64 0, .int .i64 0, .int .i64 0] 65 _ rfl
  have hG := (Gr.refl w).alloc (.cells #[.int .u32 0, .int .u32 0, .int .i64 0, .int .i64 0, .int .i64 0, .int .i64 0] 65)
  have hgz := Nat.le_refl w.heap.size
  simp only [List.toArray] at hR
  generalize w.alloc (.cells #[.int .u32 0, .int .u32 0, .int .i64 0, .int .i64 0, .int .i64 0, .int .i64 0] 65) = w1 at hR hG ⊢
  generalize hge : w.heap.size = g1 at hR ⊢
  rw [hge] at hgz
  replace hgz : w.heap.size ≤ g1 := by omega
  clear hge
  go_wp2_with fail
  refine (HD.out _ hG).mono ?_
  rintro e w2 ⟨v2, rfl, ho, hg⟩
  have hv := ho.rb.any
  obtain ⟨a2, c2, rfl, -, -⟩ := hv.form
  generalize d.length = M at *
  replace hR := hR.gr hg
  replace hG := hG.step hg
  clear hg ho
  have hP := CL.new w2 [.int .i64 h.tos, .int .i64 h.id, .int .i64 h.ttl, .int .i64 h.proto, .bool h.keep, .int .u32 h.src, .int .u32 h.dst, .slice a2 M c2] 85 _ rfl
  have hg3 := Gr.alloc (Gr.refl w2) (.cells #[.int .i64 h.tos, .int .i64 h.id, .int .i64 h.ttl, .int .i64 h.proto, .bool h.keep, .int .u32 h.src, .int .u32 h.dst, .slice a2 M c2] 85)
  simp only [List.toArray] at hP
  go_upto_region 2 with fail
  generalize w2.alloc (.cells #[.int .i64 h.tos, .int .i64 h.id, .int .i64 h.ttl, .int .i64 h.proto, .bool h.keep, .int .u32 h.src, .int .u32 h.dst, .slice a2 M c2] 85) = w3 at hP hg3 ⊢
  generalize w2.heap.size = gp at hP ⊢
  replace hR := hR.gr hg3
  replace hG := hG.step hg3
  replace hv := hv.gr hg3
  clear hg3
  obtain ⟨⟨q0, q1, q2, q3, q4, q5, q6, q7⟩, -⟩ := hP.eight
  have hQ := CL.new w3 [.int .u32 h.src, .int .u32 h.dst, .int .i64 h.proto, .int .i64 0, .int .i64 h.id, .int .i64 h.ttl] 65 _ rfl
  have hg3 := Gr.alloc (Gr.refl w3) (.cells #[.int .u32 h.src, .int .u32 h.dst, .int .i64 h.proto, .int .i64 0, .int .i64 h.id, .int .i64 h.ttl] 65)
  have hlq : w.heap.size ≤ w3.heap.size := Gr.size hG
  have hrq : g1 < w3.heap.size := hR.lt
  have hpq : gp < w3.heap.size := hP.lt
  simp only [List.toArray] at hQ
  go_upto_region 5 with fail
  generalize w3.alloc (.cells #[.int .u32 h.src, .int .u32 h.dst, .int .i64 h.proto, .int .i64 0, .int .i64 h.id, .int .i64 h.ttl] 65) = w4 at hQ hg3 ⊢
  have HV1 := Rb.imp hv (q := fun b => b ≠ w3.heap.size) (fun b hb _ => by omega)
  generalize w3.heap.size = gq at hQ hlq hrq hpq HV1 ⊢
  replace hR := hR.gr hg3
  replace hG := hG.step hg3
  have HV := Lib.hid (hv.gr hg3)
  have HV0 := Lib.hid (HV1.gr hg3)
  have hP := hP.gr hg3
  clear hg3 hv q0 q1 q2 q3 q4 q5 q6 q7 HV1
  obtain ⟨⟨q0, q1, q2, q3, q4, q5, q6, q7⟩, -⟩ := hP.eight
  obtain ⟨⟨y0, y1, y2, y3, y4, y5⟩, u0, u1, u2, u3, u4, u5⟩ := CL.six hQ
  go_wp2_with fail
  refine (HG0.out _ _ HV.out).mono ?_
  rintro e w5 ⟨rfl, rfl⟩
  go_upto_region 6 with fail
  clear q0 q1 q2 q3 q4 q5 q6 q7 y0 y1 y2 y3 y4 y5 u0 u1 u2 u3 u4 u5
  have hw4 : gq < w4.heap.size := hQ.lt
  have hxs := Ex.set (Ex.refl gq w4) 3 (.int .i64 F0)
  replace hQ := hQ.set 3 (.int .i64 F0) (by simp)
  replace hR := hR.other (s := gq) (o := 3) (.int .i64 F0) (by omega)
  replace hP := hP.other (s := gq) (o := 3) (.int .i64 F0) (by omega)
  replace hG := hG.setCell (p := ⟨gq, 3, none⟩) hlq (.int .i64 F0)
  simp only [List.set_cons_succ, List.set_cons_zero] at hQ
  have HV5 := Lib.hid (HV0.out.ex hxs (fun b hb => hb)).any
  clear hxs
  generalize w4.setCell ⟨gq, 3, none⟩ (.int .i64 F0) = w5 at hQ hR hP hG HV5 ⊢
  obtain ⟨⟨y0, y1, y2, y3, y4, y5⟩, u0, u1, u2, u3, u4, u5⟩ := CL.six hQ
  obtain ⟨⟨q0, q1, q2, q3, q4, q5, q6, q7⟩, -⟩ := hP.eight
  go_wp2_with fail
  refine (HG1.out _ _ HV5.out).mono ?_
  rintro e w6 ⟨rfl, rfl⟩
  go_upto_region 8 with fail
  clear q0 q1 q2 q3 q4 q5 q6 q7 y0 y1 y2 y3 y4 y5 u0 u1 u2 u3 u4 u5
  replace hQ := hQ.set 3 (.int .i64 F) (by simp)
  replace hR := hR.other (s := gq) (o := 3) (.int .i64 F) (by omega)
  replace hP := hP.other (s := gq) (o := 3) (.int .i64 F) (by omega)
  replace hG := hG.setCell (p := ⟨gq, 3, none⟩) hlq (.int .i64 F)
  simp only [List.set_cons_succ, List.set_cons_zero] at hQ
  generalize w5.setCell ⟨gq, 3, none⟩ (.int .i64 F) = w6 at hQ hR hP hG ⊢
  obtain ⟨⟨y0, y1, y2, y3, y4, y5⟩, -⟩ := CL.six hQ
  go_wp2_with fail
  clear y0 y1 y2 y3 y4 y5
  refine (HB.out _).mono ?_
  rintro e w7 ⟨v6, rfl, ho, hg⟩
  replace hR := hR.gr hg
  replace hG := hG.step hg
  replace hQ := hQ.gr hg
  have hv := ho.rb.any
  obtain ⟨a6, c6, rfl, -, -⟩ := hv.form
  have HE := Lib.hid (rweq_any w7 hv (HR.out.gr hG) (by have := HL.out; omega) (HLL.out _ rfl))
  rw [HC.out] at HE
  generalize Q.pk.length = K at *
  clear hg ho hv HB HR
  go_wp2_with fail
  refine HE.out.mono ?_
  rintro e w8 ⟨rfl, hg⟩
  replace hR := hR.gr hg
  replace hG := hG.step hg
  replace hQ := hQ.gr hg
  clear hg
  obtain ⟨⟨y0, y1, y2, y3, y4, y5⟩, -⟩ := CL.six hQ
  obtain ⟨⟨r0, r1, r2, r3, r4, r5⟩, s0, s1, s2, s3, s4, s5⟩ := CL.six hR
  go_wp2_with fail
  clear r0 r1 r2 r3 r4 r5 s0 s1 s2 s3 s4 s5 y0 y1 y2 y3 y4 y5
  have hcF := hR.fill [.int .u32 h.src, .int .u32 h.dst, .int .i64 h.proto, .int .i64 F, .int .i64 h.id, .int .i64 h.ttl] rfl
  have hgF := hG.fill hgz [.int .u32 h.src, .int .u32 h.dst, .int .i64 h.proto, .int .i64 F, .int .i64 h.id, .int .i64 h.ttl] 0
  simp only [fillC, Nat.reduceAdd] at hcF hgF
  generalize (((((w8.setCell ⟨g1, 0, none⟩ (.int .u32 h.src)).setCell ⟨g1, 1, none⟩ (.int .u32 h.dst)).setCell ⟨g1, 2, none⟩ (.int .i64 h.proto)).setCell ⟨g1, 3, none⟩ (.int .i64 F)).setCell ⟨g1, 4, none⟩ (.int .i64 h.id)).setCell ⟨g1, 5, none⟩ (.int .i64 h.ttl) = wF at hcF hgF ⊢
  obtain ⟨⟨c0, c1, c2, c3, c4, c5⟩, -⟩ := CL.six hcF
  exact bodyPost_ret (v := .tuple #[.agg #[.int .u32 h.src, .int .u32 h.dst, .int .i64 h.proto, .int .i64 F, .int .i64 h.id, .int .i64 h.ttl], .int .i64 0]) (by simp [results, Try.results39, go_sem, c0, c1, c2, c3, c4, c5]) rfl ⟨rfl, hgF⟩
set_option maxHeartbeats 2000000 in
theorem rRead_diff1 {p : Nat → Prop} {v : Value} {l : List Nat} (w : World) (hr : Rb p w v l) (hl : l.length ≤ 90000) (hn : dcE l = 0) (h8 : ¬ (l.drop 20).length < 8) (h1 : (hdAt l).proto = 1) (Q : Pr) (k : Q.ok) (hq : prV (hdAt l).src (hdAt l).dst (hdAt l).proto (flI (hdAt l).proto (gN (l.drop 20) 0 2) (gN (l.drop 20) 2 2)) (hdAt l).id (hdAt l).ttl = Q.v) (hc : decide (Q.pk = l) = false) :
    Calls Try.prog 39 #[v] w fun e w' => e = .returned (.tuple #[prZ, .int .i64 17]) ∧ Gr w w' := by
  have HD := Lib.hid (fun w' (g : Gr w w') => rdecode_ok w' (hr.gr g) hl hn)
  have hdl : (l.drop 20).length ≤ 100000 := by rw [List.length_drop]; omega
  have hbt : ∀ x ∈ l.drop 20, x < 256 := fun x hx => hr.bytes x (List.mem_of_mem_drop hx)
  have hA := gN_lt hbt 0 2
  have hB := gN_lt hbt 2 2
  obtain ⟨F, hF⟩ : ∃ F, F = (flI (hdAt l).proto (gN (l.drop 20) 0 2) (gN (l.drop 20) 2 2)) := ⟨_, rfl⟩
  rw [← hF] at hq
  unfold flI at hF
  have HG0 := Lib.hid (fun v W (hv : Rb (fun _ => True) W v (l.drop 20)) => rat_any 0 2 W hv (by omega) (by omega) (by omega) hdl)
  have HG1 := Lib.hid (fun v W (hv : Rb (fun _ => True) W v (l.drop 20)) => rat_any 2 2 W hv (by omega) (by omega) (by omega) hdl)
  have d8 : decide (((l.drop 20).length : Int) < 8) = false := by rw [decide_eq_false_iff_not]; omega
  generalize gN (l.drop 20) 0 2 = A at *
  generalize gN (l.drop 20) 2 2 = B at *
  rw [if_pos h1] at hF
  obtain ⟨F0, hF0⟩ : ∃ F0, F0 = (A : Int) - 20000 := ⟨_, rfl⟩
  have e0 : (A : Int) - 20000 = F0 := hF0.symm
  have e1 : (B : Int) - 16384 = F := hF.symm
  have w0 : IntKind.i64.wrap F0 = F0 := by rw [IntWalk.i64_in _ (by omega)]
  have w1 : IntKind.i64.wrap F = F := by rw [IntWalk.i64_in _ (by omega)]
  have d1 : (((hdAt l).proto : Int) == 1) = true := by rw [h1]; rfl
  clear hF hF0 hA hB
  have HB := Lib.hid (fun W => rbuild_ok Q k W)
  rw [← hq] at HB
  have HC := Lib.hid hc
  have HL := Lib.hid (Pr.pk_len k).2
  have HLL := Lib.hid (fun (m : List Nat) (hm : m = l) => (by rw [hm]; omega : m.length ≤ 100000))
  clear hq hc k
  unfold prV at HB
  clear h1 h8 hdl hbt hl hn
  generalize hdAt l = h at *
  generalize l.drop 20 = d at *
  obtain ⟨av, cv, rfl, -, -⟩ := hr.form
  have HR := Lib.hid hr
  generalize l.length = N at *
  unfold Hd.p pkV at HD
  (try unfold prZ)
  (try unfold prV)
  clear hr
  go_enter Try.func39, Try.ntmps39
  go_upto_region 1 with fail
  have hR := CL.new w [.int .u32 0, .int .u32 0, .int .i64 0, .int .i64 0, .int .i64 0, .int .i64 0] 65 _ rfl
  have hG := (Gr.refl w).alloc (.cells #[.int .u32 0, .int .u32 0, .int .i64 0, .int .i64 0, .int .i64 0, .int .i64 0] 65)
  have hgz := Nat.le_refl w.heap.size
  simp only [List.toArray] at hR
  generalize w.alloc (.cells #[.int .u32 0, .int .u32 0, .int .i64 0, .int .i64 0, .int .i64 0, .int .i64 0] 65) = w1 at hR hG ⊢
  generalize hge : w.heap.size = g1 at hR ⊢
  rw [hge] at hgz
  replace hgz : w.heap.size ≤ g1 := by omega
  clear hge
  go_wp2_with fail
  refine (HD.out _ hG).mono ?_
  rintro e w2 ⟨v2, rfl, ho, hg⟩
  have hv := ho.rb.any
  obtain ⟨a2, c2, rfl, -, -⟩ := hv.form
  generalize d.length = M at *
  replace hR := hR.gr hg
  replace hG := hG.step hg
  clear hg ho
  have hP := CL.new w2 [.int .i64 h.tos, .int .i64 h.id, .int .i64 h.ttl, .int .i64 h.proto, .bool h.keep, .int .u32 h.src, .int .u32 h.dst, .slice a2 M c2] 85 _ rfl
  have hg3 := Gr.alloc (Gr.refl w2) (.cells #[.int .i64 h.tos, .int .i64 h.id, .int .i64 h.ttl, .int .i64 h.proto, .bool h.keep, .int .u32 h.src, .int .u32 h.dst, .slice a2 M c2] 85)
  simp only [List.toArray] at hP
  go_upto_region 2 with fail
  generalize w2.alloc (.cells #[.int .i64 h.tos, .int .i64 h.id, .int .i64 h.ttl, .int .i64 h.proto, .bool h.keep, .int .u32 h.src, .int .u32 h.dst, .slice a2 M c2] 85) = w3 at hP hg3 ⊢
  generalize w2.heap.size = gp at hP ⊢
  replace hR := hR.gr hg3
  replace hG := hG.step hg3
  replace hv := hv.gr hg3
  clear hg3
  obtain ⟨⟨q0, q1, q2, q3, q4, q5, q6, q7⟩, -⟩ := hP.eight
  have hQ := CL.new w3 [.int .u32 h.src, .int .u32 h.dst, .int .i64 h.proto, .int .i64 0, .int .i64 h.id, .int .i64 h.ttl] 65 _ rfl
  have hg3 := Gr.alloc (Gr.refl w3) (.cells #[.int .u32 h.src, .int .u32 h.dst, .int .i64 h.proto, .int .i64 0, .int .i64 h.id, .int .i64 h.ttl] 65)
  have hlq : w.heap.size ≤ w3.heap.size := Gr.size hG
  have hrq : g1 < w3.heap.size := hR.lt
  have hpq : gp < w3.heap.size := hP.lt
  simp only [List.toArray] at hQ
  go_upto_region 5 with fail
  generalize w3.alloc (.cells #[.int .u32 h.src, .int .u32 h.dst, .int .i64 h.proto, .int .i64 0, .int .i64 h.id, .int .i64 h.ttl] 65) = w4 at hQ hg3 ⊢
  have HV1 := Rb.imp hv (q := fun b => b ≠ w3.heap.size) (fun b hb _ => by omega)
  generalize w3.heap.size = gq at hQ hlq hrq hpq HV1 ⊢
  replace hR := hR.gr hg3
  replace hG := hG.step hg3
  have HV := Lib.hid (hv.gr hg3)
  have HV0 := Lib.hid (HV1.gr hg3)
  have hP := hP.gr hg3
  clear hg3 hv q0 q1 q2 q3 q4 q5 q6 q7 HV1
  obtain ⟨⟨q0, q1, q2, q3, q4, q5, q6, q7⟩, -⟩ := hP.eight
  obtain ⟨⟨y0, y1, y2, y3, y4, y5⟩, u0, u1, u2, u3, u4, u5⟩ := CL.six hQ
  go_wp2_with fail
  refine (HG0.out _ _ HV.out).mono ?_
  rintro e w5 ⟨rfl, rfl⟩
  go_upto_region 6 with fail
  clear q0 q1 q2 q3 q4 q5 q6 q7 y0 y1 y2 y3 y4 y5 u0 u1 u2 u3 u4 u5
  have hw4 : gq < w4.heap.size := hQ.lt
  have hxs := Ex.set (Ex.refl gq w4) 3 (.int .i64 F0)
  replace hQ := hQ.set 3 (.int .i64 F0) (by simp)
  replace hR := hR.other (s := gq) (o := 3) (.int .i64 F0) (by omega)
  replace hP := hP.other (s := gq) (o := 3) (.int .i64 F0) (by omega)
  replace hG := hG.setCell (p := ⟨gq, 3, none⟩) hlq (.int .i64 F0)
  simp only [List.set_cons_succ, List.set_cons_zero] at hQ
  have HV5 := Lib.hid (HV0.out.ex hxs (fun b hb => hb)).any
  clear hxs
  generalize w4.setCell ⟨gq, 3, none⟩ (.int .i64 F0) = w5 at hQ hR hP hG HV5 ⊢
  obtain ⟨⟨y0, y1, y2, y3, y4, y5⟩, u0, u1, u2, u3, u4, u5⟩ := CL.six hQ
  obtain ⟨⟨q0, q1, q2, q3, q4, q5, q6, q7⟩, -⟩ := hP.eight
  go_wp2_with fail
  refine (HG1.out _ _ HV5.out).mono ?_
  rintro e w6 ⟨rfl, rfl⟩
  go_upto_region 8 with fail
  clear q0 q1 q2 q3 q4 q5 q6 q7 y0 y1 y2 y3 y4 y5 u0 u1 u2 u3 u4 u5
  replace hQ := hQ.set 3 (.int .i64 F) (by simp)
  replace hR := hR.other (s := gq) (o := 3) (.int .i64 F) (by omega)
  replace hP := hP.other (s := gq) (o := 3) (.int .i64 F) (by omega)
  replace hG := hG.setCell (p := ⟨gq, 3, none⟩) hlq (.int .i64 F)
  simp only [List.set_cons_succ, List.set_cons_zero] at hQ
  generalize w5.setCell ⟨gq, 3, none⟩ (.int .i64 F) = w6 at hQ hR hP hG ⊢
  obtain ⟨⟨y0, y1, y2, y3, y4, y5⟩, -⟩ := CL.six hQ
  go_wp2_with fail
  clear y0 y1 y2 y3 y4 y5
  refine (HB.out _).mono ?_
  rintro e w7 ⟨v6, rfl, ho, hg⟩
  replace hR := hR.gr hg
  replace hG := hG.step hg
  replace hQ := hQ.gr hg
  have hv := ho.rb.any
  obtain ⟨a6, c6, rfl, -, -⟩ := hv.form
  have HE := Lib.hid (rweq_any w7 hv (HR.out.gr hG) (by have := HL.out; omega) (HLL.out _ rfl))
  rw [HC.out] at HE
  generalize Q.pk.length = K at *
  clear hg ho hv HB HR
  go_wp2_with fail
  refine HE.out.mono ?_
  rintro e w8 ⟨rfl, hg⟩
  replace hR := hR.gr hg
  replace hG := hG.step hg
  replace hQ := hQ.gr hg
  clear hg
  obtain ⟨⟨y0, y1, y2, y3, y4, y5⟩, -⟩ := CL.six hQ
  obtain ⟨⟨r0, r1, r2, r3, r4, r5⟩, s0, s1, s2, s3, s4, s5⟩ := CL.six hR
  go_wp2_with fail
  clear r0 r1 r2 r3 r4 r5 s0 s1 s2 s3 s4 s5 y0 y1 y2 y3 y4 y5
  have hcF := hR.fill [.int .u32 0, .int .u32 0, .int .i64 0, .int .i64 0, .int .i64 0, .int .i64 0] rfl
  have hgF := hG.fill hgz [.int .u32 0, .int .u32 0, .int .i64 0, .int .i64 0, .int .i64 0, .int .i64 0] 0
  simp only [fillC, Nat.reduceAdd] at hcF hgF
  generalize (((((w8.setCell ⟨g1, 0, none⟩ (.int .u32 0)).setCell ⟨g1, 1, none⟩ (.int .u32 0)).setCell ⟨g1, 2, none⟩ (.int .i64 0)).setCell ⟨g1, 3, none⟩ (.int .i64 0)).setCell ⟨g1, 4, none⟩ (.int .i64 0)).setCell ⟨g1, 5, none⟩ (.int .i64 0) = wF at hcF hgF ⊢
  obtain ⟨⟨c0, c1, c2, c3, c4, c5⟩, -⟩ := CL.six hcF
  exact bodyPost_ret (v := .tuple #[.agg #[.int .u32 0, .int .u32 0, .int .i64 0, .int .i64 0, .int .i64 0, .int .i64 0], .int .i64 17]) (by simp [results, Try.results39, go_sem, c0, c1, c2, c3, c4, c5]) rfl ⟨rfl, hgF⟩
theorem rRead_ok {p : Nat → Prop} {v : Value} (P : Pr) (k : P.ok) (w : World) (hr : Rb p w v P.pk) :
    Calls Try.prog 39 #[v] w fun e w' => e = .returned (.tuple #[P.v, .int .i64 0]) ∧ Gr w w' := by
  have hl := (Pr.pk_len k).2
  have hd := Pr.data_at k
  have e8 : (P.pk.drop 20).length = P.data.length := by rw [(Pr.pk_dc k).2.2]
  have e : prV (hdAt P.pk).src (hdAt P.pk).dst (hdAt P.pk).proto (flI (hdAt P.pk).proto (gN (P.pk.drop 20) 0 2) (gN (P.pk.drop 20) 2 2)) (hdAt P.pk).id (hdAt P.pk).ttl = P.v := by
    rw [(Pr.pk_dc k).2.1, (Pr.pk_dc k).2.2]
    show prV P.src P.dst P.proto (flI P.proto (gN P.data 0 2) (gN P.data 2 2)) P.tag P.ttl = P.v
    rw [hd.2.2.1, hd.2.2.2, Pr.fl_at]
    rfl
  by_cases h1 : (hdAt P.pk).proto = 1
  · have := rRead_yes1 w hr (by omega) (Pr.pk_dc k).1 (by omega) h1 P k e (decide_eq_true rfl)
    rw [e] at this
    exact this
  · have := rRead_yes0 w hr (by omega) (Pr.pk_dc k).1 (by omega) h1 P k e (decide_eq_true rfl)
    rw [e] at this
    exact this
theorem rRead_bad {p : Nat → Prop} {v : Value} {l : List Nat} (w : World) (hr : Rb p w v l) (hl : l.length ≤ 90000) (hno : ¬ ∃ P : Pr, P.ok ∧ P.pk = l) :
    Calls Try.prog 39 #[v] w fun e w' => e = .returned (.tuple #[prZ, .int .i64 17]) ∧ Gr w w' := by
  by_cases hn : dcE l = 0
  · by_cases h8 : (l.drop 20).length < 8
    · exact rRead_short w hr hl hn h8
    · by_cases hb : prbE (hdAt l).proto (flI (hdAt l).proto (gN (l.drop 20) 0 2) (gN (l.drop 20) 2 2)) (hdAt l).id (hdAt l).ttl = 0
      · obtain ⟨Q, k, hq, -⟩ := pr_of (hdAt_ok hr.bytes).src (hdAt_ok hr.bytes).dst hb
        by_cases h1 : (hdAt l).proto = 1
        · exact rRead_diff1 w hr hl hn h8 h1 Q k hq (decide_eq_false fun h => hno ⟨Q, k, h⟩)
        · exact rRead_diff0 w hr hl hn h8 h1 Q k hq (decide_eq_false fun h => hno ⟨Q, k, h⟩)
      · by_cases h1 : (hdAt l).proto = 1
        · exact rRead_no1 w hr hl hn h8 h1 hb
        · exact rRead_no0 w hr hl hn h8 h1 hb
  · exact rRead_err w hr hl hn
end Go.Proofs.Ytlkhdbgknkjioaa
