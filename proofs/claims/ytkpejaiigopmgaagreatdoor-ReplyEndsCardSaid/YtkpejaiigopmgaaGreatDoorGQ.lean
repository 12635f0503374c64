/- Several texts in one. -/
import Derived.Test.YtkpejaiigopmgaaGreatDoorGN
import Derived.Test.YtkpejaiigopmgaaGreatDoorGL
import Derived.Test.YtkpejaiigopmgaaGreatDoorGO
import Derived.WalkKit
import Derived.WalkSpells
import Derived.WalkLawsBesides
import Derived.WalkSmall
import Derived.Handy
import Derived.BigQuiet
import Derived.Deep.QuietTactic
import Derived.Deep.RegionHeld3
import Derived.Deep.DeepFit
import Derived.Below
import Derived.Lib.Hide
import Derived.Lib.QuietBelow
import Derived.Test.YtkpejaiigopmgaaGreatDoorIeM
import Derived.Test.YtkpejaiigopmgaaGreatDoorGM
/- Probes of the document: balanced, data. -/
namespace Go.Proofs.YtkpejaiigopmgaaGreatDoor
open Go Go.RowKit Go.Sort
set_option maxRecDepth 100000
set_option linter.unusedVariables false
set_option linter.unusedSimpArgs false
def rbal (s want : Nat) : Nat := if oc (65535 - want + s) = 0 then 65535 else oc (65535 - want + s)
theorem rbal_le (s want : Nat) : rbal s want ≤ 65535 := by have := oc_le (65535 - want + s); unfold rbal; split <;> omega
theorem rbal_eq {s want : Nat} (hs : s ≤ 65535) (h1 : want ≤ 65535) : rbal s want = bal (if s = 0 then 65535 else s) want := by
  unfold rbal bal oc
  repeat' split
  all_goals first | omega | (split at * <;> omega) | (split <;> omega)
theorem rbal_pos {s want : Nat} (hs : s ≤ 65535) (h1 : want < 65535) : rbal s want = bal s want := by
  unfold rbal bal
  have := oc_pos (s := 65535 - want + s) (by omega)
  rw [if_neg (by omega), Nat.add_comm]
theorem rbalanced_any (s want : Nat) (w : World) (hs : s ≤ 65535) (hw : want ≤ 65535) (n : Nat) (hn : n = rbal s want) :
    Calls Tryz.prog 70 #[.int .i64 s, .int .i64 want] w fun e w' => e = .returned (.int .i64 n) ∧ w = w' := by
  obtain ⟨U, hU⟩ : ∃ U, U = 65535 - want := ⟨_, rfl⟩
  have eU : (65535 : Int) - (want : Int) = (U : Int) := by omega
  have wU : IntKind.i64.wrap (U : Int) = (U : Int) := by rw [IntWalk.i64_in _ (by omega)]
  have HA := Lib.hid (fun w => rwadd_nat U s w (by omega) hs)
  have HN := Lib.hid hn
  unfold rbal at HN
  rw [← hU] at HN
  generalize oc (U + s) = M at *
  by_cases h0 : M = 0
  · have d1 : ((M : Int) == 0) = true := by simpa using h0
    have HE := Lib.hid (show n = 65535 from HN.out.trans (if_pos h0))
    clear h0 hU hn HN
    go_enter Tryz.func70, Tryz.ntmps70
    go_wp2_with fail
    refine (HA.out _).mono ?_
    rintro e w1 ⟨rfl, rfl⟩
    go_wp2_with fail
    go_ret
    exact ⟨ret_int (by rw [HE.out]; rfl), rfl⟩
  · have d1 : ((M : Int) == 0) = false := by simpa using h0
    have HE := Lib.hid (show n = M from HN.out.trans (if_neg h0))
    clear h0 hU hn HN
    go_enter Tryz.func70, Tryz.ntmps70
    go_wp2_with fail
    refine (HA.out _).mono ?_
    rintro e w1 ⟨rfl, rfl⟩
    go_wp2_with fail
    go_ret
    exact ⟨ret_int (by rw [HE.out]), rfl⟩
theorem rdata_tcp (P : Pr) (k : P.ok) (w : World) (hp : P.proto = 6) :
    Calls Tryz.prog 34 #[P.v] w fun e w' => ∃ v', e = .returned v' ∧ OwB w.heap.size w' v' P.data ∧ Gr w w' := by
  have hd : P.data = tcpL P.src P.dst (20000 + P.flow) 80 P.tag 0 2 1024 [] := by
    rw [Pr.data_tcp hp]; rfl
  obtain ⟨W, hW⟩ : ∃ W, W = 20000 + P.flow := ⟨_, rfl⟩
  rw [← hW] at hd
  have HD := Lib.hid hd
  have HK := Lib.hid k
  have hf := k.flow
  have ht := k.tag
  have eW : (20000 : Int) + (P.flow : Int) = (W : Int) := by omega
  have wW : IntKind.i64.wrap (W : Int) = (W : Int) := by rw [IntWalk.i64_in _ (by omega)]
  have HT := Lib.hid (fun w' => rtcp_ok P.src P.dst W 80 P.tag 0 2 1024 w' (Rb.nil (fun _ => True) w') HK.out.src HK.out.dst (by omega) (by decide) (by omega) (by decide) (by decide) (by decide) (by simp))
  have d1 : ((P.proto : Int) == 1) = false := by rw [hp]; rfl
  have d2 : ((P.proto : Int) == 17) = false := by rw [hp]; rfl
  clear hp hd hf ht hW k
  have HC := Lib.hid (CL.new w P.vs 29 _ rfl)
  have hG := Gr.alloc (Gr.refl w) (.cells P.vs.toArray 29)
  unfold Pr.v prV
  unfold Pr.vs at HC hG
  go_enter Tryz.func34, Tryz.ntmps34
  go_upto_region 1 with fail
  simp only [List.toArray] at hG
  generalize w.alloc (.cells #[.int .u32 P.src, .int .u32 P.dst, .int .i64 P.proto, .int .i64 P.flow, .int .i64 P.tag, .int .i64 P.ttl] 29) = w1 at HC hG ⊢
  have hle : w.heap.size ≤ w.heap.size := Nat.le_refl _
  generalize w.heap.size = g at HC ⊢
  clear hle
  obtain ⟨⟨x0, x1, x2, x3, x4, x5⟩, -⟩ := CL.six HC.out
  go_wp2_with fail
  refine (HT.out _).mono ?_
  rintro e w2 ⟨v2, rfl, ho, hg⟩
  rw [← HD.out] at ho
  go_wp2_with fail
  go_ret
  exact ⟨_, rfl, ho.base (Gr.size hG), hG.step hg⟩
set_option maxHeartbeats 2000000 in
theorem rdata_icmp (P : Pr) (k : P.ok) (w : World) (hp : P.proto = 1) :
    Calls Tryz.prog 34 #[P.v] w fun e w' => ∃ v', e = .returned v' ∧ OwB w.heap.size w' v' P.data ∧ Gr w w' := by
  have hf := k.flow
  have ht := k.tag
  obtain ⟨W, hW⟩ : ∃ W, W = 16384 + P.flow := ⟨_, rfl⟩
  obtain ⟨S, hS0⟩ : ∃ S, S = gN (echoL false 21075 P.tag (bput 0 2)) 2 2 := ⟨_, rfl⟩
  have hS1 : S ≤ 65535 := by rw [hS0, ic_s]; exact s0_le _
  obtain ⟨M, hM⟩ : ∃ M, M = rbal S W := ⟨_, rfl⟩
  have hM1 : M ≤ 65535 := by rw [hM]; exact rbal_le _ _
  have HD := Lib.hid (show P.data = echoL false 21075 P.tag (bput M 2) by
    rw [Pr.data_icmp hp, hM, rbal_pos hS1 (by omega), hS0, ic_s, hW]; rfl)
  have HBA := Lib.hid (fun w => rbalanced_any S W w hS1 (by omega) M hM)
  have HPU := Lib.hid (fun w => rpush_any M 2 w (Rb.nil (fun _ => True) w) (by simp) (by omega) (by omega) (by show M < 65536; omega))
  have HE := Lib.hid (fun (v : Value) (d : List Nat) (w : World) (hv : Rb (fun _ => True) w v d) (hd : d.length = 2) => recho_ok false 21075 P.tag w hv (by decide) (by omega) (by omega))
  have HAT := Lib.hid (fun (v : Value) (w : World) (hv : Rb (fun _ => True) w v (echoL false 21075 P.tag (bput 0 2))) => rat_any 2 2 w hv (by omega) (by omega) (by rw [echo_len, bput_len]; omega) (by rw [echo_len, bput_len]; omega))
  rw [← hS0] at HAT
  have eW : (16384 : Int) + (P.flow : Int) = (W : Int) := by omega
  have wW : IntKind.i64.wrap (W : Int) = (W : Int) := by rw [IntWalk.i64_in _ (by omega)]
  have d1 : ((P.proto : Int) == 1) = true := by rw [hp]; rfl
  clear hp k hf ht hW hS0 hS1 hM hM1
  have HC := Lib.hid (CL.new w P.vs 29 _ rfl)
  have hG := Gr.alloc (Gr.refl w) (.cells P.vs.toArray 29)
  unfold Pr.v prV
  unfold Pr.vs at HC hG
  go_enter Tryz.func34, Tryz.ntmps34
  go_upto_region 1 with fail
  simp only [List.toArray] at hG
  generalize w.alloc (.cells #[.int .u32 P.src, .int .u32 P.dst, .int .i64 P.proto, .int .i64 P.flow, .int .i64 P.tag, .int .i64 P.ttl] 29) = w1 at HC hG ⊢
  have hle : w.heap.size ≤ w.heap.size := Nat.le_refl _
  generalize w.heap.size = g at HC ⊢
  clear hle
  obtain ⟨⟨x0, x1, x2, x3, x4, x5⟩, -⟩ := CL.six HC.out
  have hz := rb_zz w1
  have hE := CL.new (w1.alloc (.cells #[.int .u8 0, .int .u8 0] 5)) [.bool false, .int .i64 21075, .int .i64 P.tag, .slice (some ⟨w1.heap.size, 0, none⟩) 2 2] 74 (w1.heap.size + 1) (by simp)
  have hgn := ((Gr.refl w1).alloc (.cells #[.int .u8 0, .int .u8 0] 5)).alloc (.cells #[.bool false, .int .i64 21075, .int .i64 P.tag, .slice (some ⟨w1.heap.size, 0, none⟩) 2 2] 74)
  replace hz := hz.gr ((Gr.refl _).alloc (.cells #[.bool false, .int .i64 21075, .int .i64 P.tag, .slice (some ⟨w1.heap.size, 0, none⟩) 2 2] 74))
  have hge : w.heap.size ≤ w1.heap.size + 1 := by have := Gr.size hG; omega
  have hgg : g < w1.heap.size + 1 := by have := HC.out.lt; omega
  simp only [List.toArray] at hE
  go_upto_region 4 with fail
  generalize (w1.alloc (.cells #[.int .u8 0, .int .u8 0] 5)).alloc (.cells #[.bool false, .int .i64 21075, .int .i64 P.tag, .slice (some ⟨w1.heap.size, 0, none⟩) 2 2] 74) = w2 at hz hE hgn ⊢
  generalize w1.heap.size + 1 = ge at hE hge hgg ⊢
  generalize w1.heap.size = gz at hz hE ⊢
  replace HC := Lib.hid (HC.out.gr hgn)
  replace hG := hG.step hgn
  clear hgn x0 x1 x2 x3 x4 x5
  obtain ⟨⟨z0, z1, z2, z3⟩, -⟩ := hE.four
  go_wp2_with fail
  refine (HE.out _ _ _ hz (bput_len _ _)).mono ?_
  rintro e w3 ⟨v3, rfl, ho, hg⟩
  have HV := Lib.hid ho.rb.any
  obtain ⟨a3, c3, rfl, -, -⟩ := ho.rb.any.form
  rw [show (echoL false 21075 P.tag (bput 0 2)).length = 10 by rw [echo_len, bput_len]] at HV ⊢
  replace HC := Lib.hid (HC.out.gr hg)
  replace hG := hG.step hg
  replace hE := hE.gr hg
  clear hg ho hz z0 z1 z2 z3
  go_wp2_with fail
  have hx : Ex ge w3 w3.drew := Ex.drew (Ex.refl _ _)
  replace hG := hG.step (Gr.drew (Gr.refl w3))
  replace hE := hE.gr (Gr.drew (Gr.refl w3))
  have hS : Ex ge w3 w3.drew := hx
  clear hx
  refine region_plain (Ex ge w3) (by kernel_rfl) ?_
  have HV4 := HV.out.gr (Gr.drew (Gr.refl w3))
  have hge4 : ge < w3.drew.heap.size := hE.lt
  generalize w3.drew = w4 at hS hG hE HV4 hge4 ⊢
  refine take_at 0 (some 23) (v := ?vi0) rfl rfl (by kernel_rfl) (by kernel_rfl) (by kernel_rfl) (by rfl) ?yi0 hS ?ti0
  case yi0 =>
    intro w' hSw
    obtain - := hSw
    go_simp
    (try with_reducible rfl)
  simp only [Act.put, List.setIfInBounds_toArray, List.set_cons_zero, List.set_cons_succ]
  refine take_at 2 (some 25) (v := ?vi2) rfl rfl (by kernel_rfl) (by kernel_rfl) (by kernel_rfl) (by rfl) ?yi2 hS ?ti2
  case yi2 =>
    intro w' hSw
    obtain - := hSw
    go_simp
    (try with_reducible rfl)
  simp only [Act.put, List.setIfInBounds_toArray, List.set_cons_zero, List.set_cons_succ]
  refine take_at 3 (some 26) (v := ?vi3) rfl rfl (by kernel_rfl) (by kernel_rfl) (by kernel_rfl) (by rfl) ?yi3 hS ?ti3
  case yi3 =>
    intro w' hSw
    obtain ⟨⟨q0, q1, q2, q3, q4, q5⟩, -⟩ := CL.six (HC.out.ex hSw (Nat.ne_of_lt hgg))
    go_simp
    (try with_reducible rfl)
  simp only [Act.put, List.setIfInBounds_toArray, List.set_cons_zero, List.set_cons_succ]
  refine take_at 4 (some 27) (v := ?vi4) rfl rfl (by kernel_rfl) (by kernel_rfl) (by kernel_rfl) (by rfl) ?yi4 hS ?ti4
  case yi4 =>
    intro w' hSw
    obtain - := hSw
    go_simp
    (try with_reducible rfl)
  simp only [Act.put, List.setIfInBounds_toArray, List.set_cons_zero, List.set_cons_succ]
  refine next_at 1 rfl (by kernel_rfl) (by rfl) (fun K hK => ?_)
  go_simp
  refine (HAT.out _ w4 HV4).mono ?_
  rintro e w1a ⟨rfl, rfl⟩
  refine hK _ _ hS ?_
  clear hK K
  clear HV4
  refine next_at 5 rfl (by kernel_rfl) (by rfl) (fun K hK => ?_)
  go_simp
  refine (HBA.out _).mono ?_
  rintro e w5a ⟨rfl, rfl⟩
  refine hK _ _ hS ?_
  clear hK K
  refine next_at 6 rfl (by kernel_rfl) (by rfl) (fun K hK => ?_)
  go_simp
  refine (HPU.out _).mono ?_
  rintro e w6a ⟨v6, rfl, ho, hg⟩
  have hgl := ho.above
  have hv := ho.rb
  replace hG := hG.step hg
  replace hE := hE.gr hg
  replace hS := hS.trans (Ex.ofGr hg)
  obtain ⟨a6, c6, rfl, -, -⟩ := hv.form
  rw [show ([] ++ bput M 2 : List Nat).length = 2 by simp [bput_len]]
  have HV6 := Lib.hid (hv.imp (q := fun b => b ≠ ge) (fun b _ hb => by have := hge4; omega))
  rw [show ([] ++ bput M 2 : List Nat) = bput M 2 from rfl] at HV6
  clear hgl hv ho hg
  refine hK _ _ hS ?_
  clear hK K
  refine take_at 7 (some 30) (v := ?vi7) rfl rfl (by kernel_rfl) (by kernel_rfl) (by kernel_rfl) (by rfl) ?yi7 hS ?ti7
  case yi7 =>
    intro w' hSw
    obtain - := hSw
    go_simp
    (try with_reducible rfl)
  simp only [Act.put, List.setIfInBounds_toArray, List.set_cons_zero, List.set_cons_succ]
  have hES := hE.set 3 (.slice a6 2 c6) (by simp)
  have hSF := hS.set 3 (.slice a6 2 c6)
  have hGF := hG.setCell (p := ⟨ge, 3, none⟩) hge (.slice a6 2 c6)
  have HV7 := (HV6.out.ex (Ex.set (Ex.refl ge w6a) 3 (.slice a6 2 c6)) (fun b hb => hb)).any
  obtain ⟨⟨z0, z1, z2, z3⟩, u0, u1, u2, u3⟩ := hE.four
  refine next_at 8 rfl (by kernel_rfl) (by rfl) (fun K hK => ?_)
  go_simp
  refine hK _ _ hSF ?_
  clear hK K z0 z1 z2 z3 u0 u1 u2 u3
  simp only [List.set_cons_succ, List.set_cons_zero] at hES
  generalize w6a.setCell ⟨ge, 3, none⟩ (.slice a6 2 c6) = w7 at hES hSF hGF HV7 ⊢
  refine wpAnyH_done (by kernel_rfl) ?_ _
  refine qz_normal ?_
  obtain ⟨⟨z0, z1, z2, z3⟩, -⟩ := hES.four
  go_wp2_with fail
  refine (HE.out _ _ _ HV7 (bput_len _ _)).mono ?_
  rintro e w8 ⟨v8, rfl, ho, hg⟩
  go_wp2_with fail
  go_ret
  rw [← HD.out] at ho
  exact ⟨_, rfl, ho.base (Gr.size hGF), hGF.step hg⟩
end Go.Proofs.YtkpejaiigopmgaaGreatDoor
/- The document's Encode; what Encode answers to any packet. -/
namespace Go.Proofs.YtkpejaiigopmgaaGreatDoor
open Go Go.RowKit Go.Sort
set_option maxRecDepth 100000
set_option linter.unusedVariables false
theorem rencode_bad {tos id ttl proto : Int} (keep : Bool) (src dst : Int) (a : Option Addr) (n c : Nat) (w : World) (hn : ¬ ckOk tos id ttl proto) :
    Calls Tryz.prog 33 #[pkV tos id ttl proto keep src dst (.slice a n c)] w fun e w' => e = .returned (.tuple #[.slice none 0 0, .int .i64 1]) ∧ Gr w w' := by
  have HK := Lib.hid (fun w => rcheck_any tos id ttl proto keep src dst w)
  rw [ckE_no hn] at HK
  clear hn
  unfold pkV hdV at *
  go_enter Tryz.func33, Tryz.ntmps33
  go_wp2_with fail
  refine (HK.out _).mono ?_
  rintro e w1 ⟨rfl, hg⟩
  go_wp2_with fail
  go_ret2
  exact ⟨rfl, (Gr.alloc (Gr.refl w) _).step hg⟩
theorem rencode_long {tos id ttl proto : Int} (keep : Bool) (src dst : Int) (a : Option Addr) (n c : Nat) (w : World) (hn : ckOk tos id ttl proto) (hl : 1480 < n) (hm : n ≤ 100000) :
    Calls Tryz.prog 33 #[pkV tos id ttl proto keep src dst (.slice a n c)] w fun e w' => e = .returned (.tuple #[.slice none 0 0, .int .i64 5]) ∧ Gr w w' := by
  have HK := Lib.hid (fun w => rcheck_any tos id ttl proto keep src dst w)
  rw [ckE_yes hn] at HK
  clear hn
  obtain ⟨N, hN⟩ : ∃ N, N = n + 20 := ⟨_, rfl⟩
  have e20 : (n : Int) + 20 = (N : Int) := by omega
  have d1 : decide ((1500 : Int) < (N : Int)) = true := by rw [decide_eq_true_eq]; omega
  have hN2 : N ≤ 100020 := by omega
  clear hN
  have HC := Lib.hid (C8.new w tos id ttl proto keep src dst (.slice a n c) 55 _ rfl)
  unfold pkV hdV at *
  go_enter Tryz.func33, Tryz.ntmps33
  go_wp2_with fail
  refine (HK.out _).mono ?_
  rintro e w1 ⟨rfl, hg⟩
  have hC := HC.out.gr hg
  obtain ⟨q0, q1, q2, q3, q4, q5, q6, q7⟩ := hC
  go_wp2_with fail
  go_ret2
  exact ⟨rfl, (Gr.alloc (Gr.refl w) _).step hg⟩
set_option maxHeartbeats 400000 in
theorem rencode_ok {p : Nat → Prop} {v : Value} {d : List Nat} (h : Hd) (k : h.ok) (w : World) (hr : Rb p w v d) (hl : d.length ≤ 1480) :
    Calls Tryz.prog 33 #[h.p v] w fun e w' => ∃ v', e = .returned (.tuple #[v', .int .i64 0]) ∧ OwB w.heap.size w' v' (hbytes h (20 + d.length) ++ d) ∧ Gr w w' := by
  obtain ⟨a, cap, rfl, hcap, hmx⟩ := hr.form
  have HK := Lib.hid (fun w => rcheck_any h.tos h.id h.ttl h.proto h.keep h.src h.dst w)
  rw [ckE_yes (ckOk_of k)] at HK
  obtain ⟨N, hN⟩ : ∃ N, N = 20 + d.length := ⟨_, rfl⟩
  rw [← hN]
  have HHD := Lib.hid (fun w => rheader_any h k N (by omega) w)
  have HR := Lib.hid hr
  have HC := Lib.hid (C8.new w h.tos h.id h.ttl h.proto h.keep h.src h.dst (.slice a d.length cap) 55 _ rfl)
  have e20 : (d.length : Int) + 20 = (N : Int) := by omega
  have d1 : decide ((1500 : Int) < (N : Int)) = false := by rw [decide_eq_false_iff_not]; omega
  have KO := Lib.hid (hbytes_len h N)
  have HN := Lib.hid hN
  have eW : IntKind.i64.wrap (N : Int) = (N : Int) := by rw [IntWalk.i64_in _ (by omega)]
  clear hr k hN
  unfold Hd.p pkV Hd.v hdV at *
  go_enter Tryz.func33, Tryz.ntmps33
  go_wp2_with fail
  refine (HK.out _).mono ?_
  rintro e w1 ⟨rfl, hg⟩
  have HC := Lib.hid (HC.out.gr hg)
  obtain ⟨q0, q1, q2, q3, q4, q5, q6, q7⟩ := HC.out
  have hG := (Gr.alloc (Gr.refl w) _).step hg
  clear hg HK
  go_wp2_with fail
  clear q0 q1 q2 q3 q4 q5 q6 q7
  have hS : Gr w1 w1.drew := Gr.drew (Gr.refl _)
  refine region_plain (Gr w1) (by kernel_rfl) ?_
  refine take_at 0 (some 16) (v := ?v0) rfl rfl (by kernel_rfl) (by kernel_rfl) (by kernel_rfl) (by rfl) ?y0 hS ?t0
  case y0 =>
    intro w' hSw
    obtain ⟨q0, q1, q2, q3, q4, q5, q6, q7⟩ := HC.out.gr hSw
    go_simp
    (try with_reducible rfl)
  simp only [Act.put, List.setIfInBounds_toArray, List.set_cons_zero, List.set_cons_succ]
  refine take_at 1 (some 17) (v := ?v1) rfl rfl (by kernel_rfl) (by kernel_rfl) (by kernel_rfl) (by rfl) ?y1 hS ?t1
  case y1 =>
    intro w' hSw
    obtain ⟨q0, q1, q2, q3, q4, q5, q6, q7⟩ := HC.out.gr hSw
    go_simp
    (try with_reducible rfl)
  simp only [Act.put, List.setIfInBounds_toArray, List.set_cons_zero, List.set_cons_succ]
  refine take_at 2 (some 18) (v := ?v2) rfl rfl (by kernel_rfl) (by kernel_rfl) (by kernel_rfl) (by rfl) ?y2 hS ?t2
  case y2 =>
    intro w' hSw
    obtain ⟨q0, q1, q2, q3, q4, q5, q6, q7⟩ := HC.out.gr hSw
    go_simp
    (try with_reducible rfl)
  simp only [Act.put, List.setIfInBounds_toArray, List.set_cons_zero, List.set_cons_succ]
  refine take_at 3 (some 19) (v := ?v3) rfl rfl (by kernel_rfl) (by kernel_rfl) (by kernel_rfl) (by rfl) ?y3 hS ?t3
  case y3 =>
    intro w' hSw
    obtain ⟨q0, q1, q2, q3, q4, q5, q6, q7⟩ := HC.out.gr hSw
    go_simp
    (try with_reducible rfl)
  simp only [Act.put, List.setIfInBounds_toArray, List.set_cons_zero, List.set_cons_succ]
  refine take_at 4 (some 20) (v := ?v4) rfl rfl (by kernel_rfl) (by kernel_rfl) (by kernel_rfl) (by rfl) ?y4 hS ?t4
  case y4 =>
    intro w' hSw
    obtain ⟨q0, q1, q2, q3, q4, q5, q6, q7⟩ := HC.out.gr hSw
    go_simp
    (try with_reducible rfl)
  simp only [Act.put, List.setIfInBounds_toArray, List.set_cons_zero, List.set_cons_succ]
  refine take_at 5 (some 21) (v := ?v5) rfl rfl (by kernel_rfl) (by kernel_rfl) (by kernel_rfl) (by rfl) ?y5 hS ?t5
  case y5 =>
    intro w' hSw
    obtain ⟨q0, q1, q2, q3, q4, q5, q6, q7⟩ := HC.out.gr hSw
    go_simp
    (try with_reducible rfl)
  simp only [Act.put, List.setIfInBounds_toArray, List.set_cons_zero, List.set_cons_succ]
  refine take_at 7 (some 23) (v := ?v7) rfl rfl (by kernel_rfl) (by kernel_rfl) (by kernel_rfl) (by rfl) ?y7 hS ?t7
  case y7 =>
    intro w' hSw
    obtain ⟨q0, q1, q2, q3, q4, q5, q6, q7⟩ := HC.out.gr hSw
    go_simp
    (try with_reducible rfl)
  simp only [Act.put, List.setIfInBounds_toArray, List.set_cons_zero, List.set_cons_succ]
  refine take_at 8 (some 24) (v := ?v8) rfl rfl (by kernel_rfl) (by kernel_rfl) (by kernel_rfl) (by rfl) ?y8 hS ?t8
  case y8 =>
    intro w' hSw
    obtain ⟨q0, q1, q2, q3, q4, q5, q6, q7⟩ := HC.out.gr hSw
    go_simp
    (try with_reducible rfl)
  simp only [Act.put, List.setIfInBounds_toArray, List.set_cons_zero, List.set_cons_succ]
  refine next_at 6 rfl (by kernel_rfl) (by rfl) (fun K hK => ?_)
  go_simp
  refine (HHD.out _).mono ?_
  rintro e w2 ⟨vh, rfl, hvh, hg2⟩
  have hS2 := Gr.step (Gr.drew (Gr.refl w1)) hg2
  have HV := Lib.hid (hvh.base (b := w1.heap.size) (by simp))
  refine hK _ _ hS2 ?_
  clear hK K hvh hS
  have hS := hS2
  refine next_at 9 rfl (by kernel_rfl) (by rfl) (fun K hK => ?_)
  refine oper_app _ _ rfl rfl HV.out rfl (HR.out.gr (hG.step hS)) (by rw [KO.out]; omega) (Gr.size hS) ?_
  intro v4 w4 ho4 g4
  have hS4 := hS.grownNew g4 HV.out.above
  have HO4 := Lib.hid (ho4.base (b := w.heap.size) (Gr.size hG))
  have hG4 := hG.step hS4
  refine hK _ _ hS4 ?_
  simp only [Act.put, List.setIfInBounds_toArray]
  clear hK K ho4 hS hS2 g4 HV
  have hS := hS4
  refine next_at 10 rfl (by kernel_rfl) (by rfl) (fun K hK => ?_)
  go_simp
  refine hK _ _ hS ?_
  clear hK K
  refine next_at 11 rfl (by kernel_rfl) (by rfl) (fun K hK => ?_)
  go_simp
  refine hK _ _ hS ?_
  clear hK K
  refine wpAnyH_done (by kernel_rfl) ?_ _
  refine qz_normal ?_
  go_wp2_with fail
  go_ret2
  exact ⟨_, rfl, HO4.out, hG4⟩
/-- what Encode answers -/
def enE (tos id ttl proto : Int) (n : Nat) : Int := if ckOk tos id ttl proto then (if 1480 < n then 5 else 0) else 1
def enH (tos id ttl proto : Int) (keep : Bool) (src dst : Nat) : Hd := ⟨tos.toNat, id.toNat, ttl.toNat, proto.toNat, keep, src, dst⟩
def enL (tos id ttl proto : Int) (keep : Bool) (src dst : Nat) (d : List Nat) : List Nat := if ckOk tos id ttl proto ∧ d.length ≤ 1480 then hbytes (enH tos id ttl proto keep src dst) (20 + d.length) ++ d else []
theorem enL_len (tos id ttl proto : Int) (keep : Bool) (src dst : Nat) (d : List Nat) : (enL tos id ttl proto keep src dst d).length ≤ 1500 := by
  unfold enL; split
  · next h => rw [List.length_append, hbytes_len]; omega
  · simp
theorem enH_ok {tos id ttl proto : Int} (keep : Bool) {src dst : Nat} (h : ckOk tos id ttl proto) (h1 : src < 4294967296) (h2 : dst < 4294967296) : (enH tos id ttl proto keep src dst).ok := by
  unfold ckOk inB at h
  constructor <;> simp only [enH] <;> omega
theorem enH_p {tos id ttl proto : Int} (keep : Bool) (src dst : Nat) (v : Value) (h : ckOk tos id ttl proto) : (enH tos id ttl proto keep src dst).p v = pkV tos id ttl proto keep src dst v := by
  unfold ckOk inB at h
  unfold Hd.p enH
  simp only
  rw [Int.toNat_of_nonneg (by omega), Int.toNat_of_nonneg (by omega), Int.toNat_of_nonneg (by omega), Int.toNat_of_nonneg (by omega)]
def EnRes (w : World) (tos id ttl proto : Int) (keep : Bool) (src dst : Nat) (d : List Nat) (e : Ending) (w' : World) : Prop :=
  ∃ v', e = .returned (.tuple #[v', .int .i64 (enE tos id ttl proto d.length)]) ∧ OwB w.heap.size w' v' (enL tos id ttl proto keep src dst d) ∧ Gr w w'
theorem encode_res {p : Nat → Prop} {v : Value} {d : List Nat} (tos id ttl proto : Int) (keep : Bool) (src dst : Nat) (w : World) (hr : Rb p w v d) (hs : src < 4294967296) (hd : dst < 4294967296) (hl : d.length ≤ 100000) :
    Calls Tryz.prog 27 #[pkV tos id ttl proto keep src dst v] w (EnRes w tos id ttl proto keep src dst d) := by
  by_cases h1 : ckOk tos id ttl proto
  · by_cases h2 : 1480 < d.length
    · obtain ⟨a, c, rfl, -, -⟩ := hr.form
      refine (encode_long keep src dst a d.length c w h1 h2 (by omega)).mono ?_
      rintro e w' ⟨rfl, hg⟩
      refine ⟨_, by unfold enE; rw [if_pos h1, if_pos h2], ?_, hg⟩
      unfold enL; rw [if_neg (fun k => by have := k.2; omega)]
      exact OwB.nil _ _
    · have h := encode_ok (enH tos id ttl proto keep src dst) (enH_ok keep h1 hs hd) w hr (by omega)
      rw [enH_p keep src dst v h1] at h
      refine h.mono ?_
      rintro e w' ⟨v', rfl, ho, hg⟩
      refine ⟨_, by unfold enE; rw [if_pos h1, if_neg h2], ?_, hg⟩
      unfold enL; rw [if_pos ⟨h1, by omega⟩]
      exact ho
  · obtain ⟨a, c, rfl, -, -⟩ := hr.form
    refine (encode_bad keep src dst a d.length c w h1).mono ?_
    rintro e w' ⟨rfl, hg⟩
    refine ⟨_, by unfold enE; rw [if_neg h1], ?_, hg⟩
    unfold enL; rw [if_neg (fun k => h1 k.1)]
    exact OwB.nil _ _
theorem rencode_res {p : Nat → Prop} {v : Value} {d : List Nat} (tos id ttl proto : Int) (keep : Bool) (src dst : Nat) (w : World) (hr : Rb p w v d) (hs : src < 4294967296) (hd : dst < 4294967296) (hl : d.length ≤ 100000) :
    Calls Tryz.prog 33 #[pkV tos id ttl proto keep src dst v] w (EnRes w tos id ttl proto keep src dst d) := by
  by_cases h1 : ckOk tos id ttl proto
  · by_cases h2 : 1480 < d.length
    · obtain ⟨a, c, rfl, -, -⟩ := hr.form
      refine (rencode_long keep src dst a d.length c w h1 h2 (by omega)).mono ?_
      rintro e w' ⟨rfl, hg⟩
      refine ⟨_, by unfold enE; rw [if_pos h1, if_pos h2], ?_, hg⟩
      unfold enL; rw [if_neg (fun k => by have := k.2; omega)]
      exact OwB.nil _ _
    · have h := rencode_ok (enH tos id ttl proto keep src dst) (enH_ok keep h1 hs hd) w hr (by omega)
      rw [enH_p keep src dst v h1] at h
      refine h.mono ?_
      rintro e w' ⟨v', rfl, ho, hg⟩
      refine ⟨_, by unfold enE; rw [if_pos h1, if_neg h2], ?_, hg⟩
      unfold enL; rw [if_pos ⟨h1, by omega⟩]
      exact ho
  · obtain ⟨a, c, rfl, -, -⟩ := hr.form
    refine (rencode_bad keep src dst a d.length c w h1).mono ?_
    rintro e w' ⟨rfl, hg⟩
    refine ⟨_, by unfold enE; rw [if_neg h1], ?_, hg⟩
    unfold enL; rw [if_neg (fun k => h1 k.1)]
    exact OwB.nil _ _
end Go.Proofs.YtkpejaiigopmgaaGreatDoor
/- Probes of the document: data of datagrams, Build. -/
namespace Go.Proofs.YtkpejaiigopmgaaGreatDoor
open Go Go.RowKit Go.Sort
set_option maxRecDepth 100000
set_option linter.unusedVariables false
set_option linter.unusedSimpArgs false
theorem rb_ten (w : World) : Rb (fun _ => True) (w.alloc (.cells #[.int .u8 0, .int .u8 10, .int .u8 0, .int .u8 0, .int .u8 0, .int .u8 0] 5)) (.slice (some ⟨w.heap.size, 0, none⟩) 6 6) [0, 10, 0, 0, 0, 0] := by
  have h : OwB w.heap.size (w.alloc (.cells (cellsB [0, 10, 0, 0, 0, 0]).toArray 5)) (.slice (some ⟨w.heap.size, 0, none⟩) 6 6) [0, 10, 0, 0, 0, 0] :=
    ⟨World.ownsRow_lit w (cellsB [0, 10, 0, 0, 0, 0]).toArray 6 (Nat.le_refl _) (by unfold maxLen; decide) (by simp [cellsB_len]), by decide⟩
  exact h.rb.any
theorem udZ_put (f : Nat) : ([] ++ bput (20000 + f) 2) ++ bput 33434 2 ++ [0, 10, 0, 0, 0, 0] = udZ f 0 := by
  unfold udZ udpA
  rw [show bputs 2 [20000 + f, 33434, 8 + 2] = bput (20000 + f) 2 ++ (bput 33434 2 ++ bput 10 2) by simp [bputs]]
  rw [List.nil_append, List.append_assoc, List.append_assoc, List.append_assoc, List.append_assoc]
  rfl
set_option maxHeartbeats 2000000 in
theorem rdata_udp (P : Pr) (k : P.ok) (w : World) (hp : P.proto = 17) :
    Calls Tryz.prog 34 #[P.v] w fun e w' => ∃ v', e = .returned v' ∧ OwB w.heap.size w' v' P.data ∧ Gr w w' := by
  have hf := k.flow
  have ht := k.tag
  obtain ⟨W, hW⟩ : ∃ W, W = P.tag + 1 := ⟨_, rfl⟩
  obtain ⟨S, hS0⟩ : ∃ S, S = sP P.src P.dst 17 (udZ P.flow 0) := ⟨_, rfl⟩
  have hS1 : S ≤ 65535 := by rw [hS0]; exact s0_le _
  obtain ⟨M, hM⟩ : ∃ M, M = rbal S W := ⟨_, rfl⟩
  have hM1 : M ≤ 65535 := by rw [hM]; exact rbal_le _ _
  have HD := Lib.hid (show P.data = udpL P.src P.dst (20000 + P.flow) 33434 (bput M 2) by
    rw [Pr.data_udp hp, hM, rbal_eq hS1 (by omega), hS0, hW]; rfl)
  have HBA := Lib.hid (fun w => rbalanced_any S W w hS1 (by omega) M hM)
  have HPU := Lib.hid (fun w => rpush_any M 2 w (Rb.nil (fun _ => True) w) (by simp) (by omega) (by omega) (by show M < 65536; omega))
  have HE := Lib.hid (fun (v : Value) (w : World) (hv : Rb (fun _ => True) w v (bput M 2)) => rudp_ok P.src P.dst (20000 + P.flow) 33434 w hv k.src k.dst (by omega) (by decide) (by rw [bput_len]; omega))
  have HPS := Lib.hid (fun (v : Value) (w : World) (hv : Rb (fun _ => True) w v (udZ P.flow 0)) => r6pseudo_any P.src P.dst 17 w hv (by rw [udZ_len]; omega) k.src k.dst)
  rw [show pcE P.src P.dst 17 (udZ P.flow 0) = S from hS0.symm ▸ rfl] at HPS
  have HU := Lib.hid (udZ_put P.flow)
  rw [← HD.out] at HE
  obtain ⟨SP, hSP⟩ : ∃ SP, SP = 20000 + P.flow := ⟨_, rfl⟩
  rw [← hSP] at HE HU
  have hSP2 : SP < 65536 := by omega
  have eS : (20000 : Int) + (P.flow : Int) = (SP : Int) := by omega
  have wS : IntKind.i64.wrap (SP : Int) = (SP : Int) := by rw [IntWalk.i64_in _ (by omega)]
  have eW : (P.tag : Int) + 1 = (W : Int) := by omega
  have wW : IntKind.i64.wrap (W : Int) = (W : Int) := by rw [IntWalk.i64_in _ (by omega)]
  have d1 : ((P.proto : Int) == 1) = false := by rw [hp]; rfl
  have d2 : ((P.proto : Int) == 17) = true := by rw [hp]; rfl
  clear hp k hf ht hW hS0 hS1 hM hM1 hSP
  have HC := Lib.hid (CL.new w P.vs 29 _ rfl)
  have hG := Gr.alloc (Gr.refl w) (.cells P.vs.toArray 29)
  unfold Pr.v prV
  unfold Pr.vs at HC hG
  go_enter Tryz.func34, Tryz.ntmps34
  go_upto_region 1 with fail
  simp only [List.toArray] at hG
  generalize w.alloc (.cells #[.int .u32 P.src, .int .u32 P.dst, .int .i64 P.proto, .int .i64 P.flow, .int .i64 P.tag, .int .i64 P.ttl] 29) = w1 at HC hG ⊢
  have hle : w.heap.size ≤ w.heap.size := Nat.le_refl _
  generalize w.heap.size = g at HC ⊢
  clear hle
  obtain ⟨⟨x0, x1, x2, x3, x4, x5⟩, -⟩ := CL.six HC.out
  go_wp2_with fail
  refine (rpush_any SP 2 w1 (Rb.nil (fun _ => True) w1) (by simp) (by omega) (by omega) (by show SP < 65536; omega)).mono ?_
  rintro e w2 ⟨v2, rfl, ho2, hg2⟩
  have HO2 := Lib.hid ho2.rb.any
  obtain ⟨a2, c2, rfl, -, -⟩ := ho2.rb.any.form
  rw [show ([] ++ bput SP 2 : List Nat).length = 2 by simp [bput_len]] at HO2 ⊢
  clear ho2
  go_wp2_with fail
  refine (rpush_any 33434 2 w2 HO2.out (by simp [bput_len]) (by omega) (by omega) (by decide)).mono ?_
  rintro e w3 ⟨v3, rfl, ho3, hg3⟩
  replace ho3 := ho3.base (Gr.size hg2)
  replace hg2 := hg2.step hg3
  have HO3 := Lib.hid ho3
  obtain ⟨a3, c3, rfl, -, -⟩ := ho3.rb.any.form
  rw [show ([] ++ bput SP 2 ++ bput 33434 2 : List Nat).length = 4 by simp [bput_len]] at HO3 ⊢
  clear ho3 hg3 HO2
  have hgs := Gr.size hg2
  go_upto_region 12 with (at_builtin; refine wpList_app (base := w1.heap.size) rfl (.tmp 45) (.tmp 46) rfl rfl (HO3.out.gr (Gr.alloc (Gr.refl _) _)) rfl (rb_ten w3) (by simp [bput_len]) (by simp; omega) ?_; intro v4 w4 ho4 g4; have hg4 : Gr w1 w4 := (hg2.alloc _).grownNew g4 HO3.out.above; have HO4 := Lib.hid ho4; clear ho4 g4)
  rw [HU.out] at HO4
  obtain ⟨a4, c4, rfl, -, -⟩ := HO4.out.rb.any.form
  rw [udZ_len] at HO4 ⊢
  replace HC := Lib.hid (HC.out.gr hg4)
  replace hG := hG.step hg4
  have HV := Lib.hid HO4.out.rb.any
  clear hg2 hgs hg4 HO3 HO4 x0 x1 x2 x3 x4 x5
  have hE := CL.new w4 [.int .i64 SP, .int .i64 33434, .slice none 0 0] 60 _ rfl
  have hgn := Gr.alloc (Gr.refl w4) (.cells #[.int .i64 SP, .int .i64 33434, .slice none 0 0] 60)
  have hge : w.heap.size ≤ w4.heap.size := Gr.size hG
  have hgg : g < w4.heap.size := HC.out.lt
  simp only [List.toArray] at hE
  obtain ⟨⟨x0, x1, x2, x3, x4, x5⟩, -⟩ := CL.six HC.out
  go_upto_region 13 with fail
  generalize w4.alloc (.cells #[.int .i64 SP, .int .i64 33434, .slice none 0 0] 60) = w5 at hE hgn ⊢
  generalize w4.heap.size = ge at hE hge hgg ⊢
  replace HC := Lib.hid (HC.out.gr hgn)
  replace hG := hG.step hgn
  replace HV := Lib.hid (HV.out.gr hgn)
  clear hgn x0 x1 x2 x3 x4 x5
  have hS : Ex ge w5 w5.drew := Ex.drew (Ex.refl _ _)
  replace hG := hG.step (Gr.drew (Gr.refl w5))
  replace hE := hE.gr (Gr.drew (Gr.refl w5))
  have HV4 := HV.out.gr (Gr.drew (Gr.refl w5))
  have hge4 : ge < w5.drew.heap.size := hE.lt
  refine region_plain (Ex ge w5) (by kernel_rfl) ?_
  generalize w5.drew = w6 at hS hG hE HV4 hge4 ⊢
  refine take_at 0 (some 52) (v := ?vu0) rfl rfl (by kernel_rfl) (by kernel_rfl) (by kernel_rfl) (by rfl) ?yu0 hS ?tu0
  case yu0 =>
    intro w' hSw
    obtain - := hSw
    go_simp
    (try with_reducible rfl)
  simp only [Act.put, List.setIfInBounds_toArray, List.set_cons_zero, List.set_cons_succ]
  refine take_at 1 (some 53) (v := ?vu1) rfl rfl (by kernel_rfl) (by kernel_rfl) (by kernel_rfl) (by rfl) ?yu1 hS ?tu1
  case yu1 =>
    intro w' hSw
    obtain ⟨⟨q0, q1, q2, q3, q4, q5⟩, -⟩ := CL.six (HC.out.ex hSw (Nat.ne_of_lt hgg))
    go_simp
    (try with_reducible rfl)
  simp only [Act.put, List.setIfInBounds_toArray, List.set_cons_zero, List.set_cons_succ]
  refine take_at 2 (some 54) (v := ?vu2) rfl rfl (by kernel_rfl) (by kernel_rfl) (by kernel_rfl) (by rfl) ?yu2 hS ?tu2
  case yu2 =>
    intro w' hSw
    obtain - := hSw
    go_simp
    (try with_reducible rfl)
  simp only [Act.put, List.setIfInBounds_toArray, List.set_cons_zero, List.set_cons_succ]
  refine take_at 3 (some 55) (v := ?vu3) rfl rfl (by kernel_rfl) (by kernel_rfl) (by kernel_rfl) (by rfl) ?yu3 hS ?tu3
  case yu3 =>
    intro w' hSw
    obtain ⟨⟨q0, q1, q2, q3, q4, q5⟩, -⟩ := CL.six (HC.out.ex hSw (Nat.ne_of_lt hgg))
    go_simp
    (try with_reducible rfl)
  simp only [Act.put, List.setIfInBounds_toArray, List.set_cons_zero, List.set_cons_succ]
  refine take_at 4 (some 56) (v := ?vu4) rfl rfl (by kernel_rfl) (by kernel_rfl) (by kernel_rfl) (by rfl) ?yu4 hS ?tu4
  case yu4 =>
    intro w' hSw
    obtain - := hSw
    go_simp
    (try with_reducible rfl)
  simp only [Act.put, List.setIfInBounds_toArray, List.set_cons_zero, List.set_cons_succ]
  refine take_at 6 (some 58) (v := ?vu6) rfl rfl (by kernel_rfl) (by kernel_rfl) (by kernel_rfl) (by rfl) ?yu6 hS ?tu6
  case yu6 =>
    intro w' hSw
    obtain - := hSw
    go_simp
    (try with_reducible rfl)
  simp only [Act.put, List.setIfInBounds_toArray, List.set_cons_zero, List.set_cons_succ]
  refine take_at 7 (some 59) (v := ?vu7) rfl rfl (by kernel_rfl) (by kernel_rfl) (by kernel_rfl) (by rfl) ?yu7 hS ?tu7
  case yu7 =>
    intro w' hSw
    obtain ⟨⟨q0, q1, q2, q3, q4, q5⟩, -⟩ := CL.six (HC.out.ex hSw (Nat.ne_of_lt hgg))
    go_simp
    (try with_reducible rfl)
  simp only [Act.put, List.setIfInBounds_toArray, List.set_cons_zero, List.set_cons_succ]
  refine take_at 8 (some 60) (v := ?vu8) rfl rfl (by kernel_rfl) (by kernel_rfl) (by kernel_rfl) (by rfl) ?yu8 hS ?tu8
  case yu8 =>
    intro w' hSw
    obtain - := hSw
    go_simp
    (try with_reducible rfl)
  simp only [Act.put, List.setIfInBounds_toArray, List.set_cons_zero, List.set_cons_succ]
  refine next_at 5 rfl (by kernel_rfl) (by rfl) (fun K hK => ?_)
  go_simp
  refine (HPS.out _ _ HV4).mono ?_
  rintro e w5a ⟨rfl, hg⟩
  have hge5 := Nat.lt_of_lt_of_le hge4 (Gr.size hg)
  replace hG := hG.step hg
  replace hE := hE.gr hg
  replace hS := hS.trans (Ex.ofGr hg)
  clear hg HV4 hge4
  refine hK _ _ hS ?_
  clear hK K
  refine next_at 9 rfl (by kernel_rfl) (by rfl) (fun K hK => ?_)
  go_simp
  refine (HBA.out _).mono ?_
  rintro e w9a ⟨rfl, rfl⟩
  refine hK _ _ hS ?_
  clear hK K
  refine next_at 10 rfl (by kernel_rfl) (by rfl) (fun K hK => ?_)
  go_simp
  refine (HPU.out _).mono ?_
  rintro e w10a ⟨v6, rfl, ho, hg⟩
  have hv := ho.rb
  replace hG := hG.step hg
  replace hE := hE.gr hg
  replace hS := hS.trans (Ex.ofGr hg)
  obtain ⟨a6, c6, rfl, -, -⟩ := hv.form
  rw [show ([] ++ bput M 2 : List Nat).length = 2 by simp [bput_len]]
  have HV6 := Lib.hid (hv.imp (q := fun b => b ≠ ge) (fun b _ hb => by have := hge5; omega))
  rw [show ([] ++ bput M 2 : List Nat) = bput M 2 from rfl, bput_len] at HV6
  clear hv ho hg
  refine hK _ _ hS ?_
  clear hK K
  refine take_at 11 (some 63) (v := ?vu11) rfl rfl (by kernel_rfl) (by kernel_rfl) (by kernel_rfl) (by rfl) ?yu11 hS ?tu11
  case yu11 =>
    intro w' hSw
    obtain - := hSw
    go_simp
    (try with_reducible rfl)
  simp only [Act.put, List.setIfInBounds_toArray, List.set_cons_zero, List.set_cons_succ]
  have hES := hE.set 2 (.slice a6 2 c6) (by simp)
  have hSF := hS.set 2 (.slice a6 2 c6)
  have hGF := hG.setCell (p := ⟨ge, 2, none⟩) hge (.slice a6 2 c6)
  have HV7 := (HV6.out.ex (Ex.set (Ex.refl ge w10a) 2 (.slice a6 2 c6)) (fun b hb => hb)).any
  obtain ⟨⟨z0, z1, z2⟩, u0, u1, u2⟩ := hE.three
  refine next_at 12 rfl (by kernel_rfl) (by rfl) (fun K hK => ?_)
  go_simp
  refine hK _ _ hSF ?_
  clear hK K z0 z1 z2 u0 u1 u2
  simp only [List.set_cons_succ, List.set_cons_zero] at hES
  generalize w10a.setCell ⟨ge, 2, none⟩ (.slice a6 2 c6) = w7 at hES hSF hGF HV7 ⊢
  refine wpAnyH_done (by kernel_rfl) ?_ _
  refine qz_normal ?_
  obtain ⟨⟨z0, z1, z2⟩, -⟩ := hES.three
  obtain ⟨⟨x0, x1, x2, x3, x4, x5⟩, -⟩ := CL.six (HC.out.ex hSF (Nat.ne_of_lt hgg))
  go_wp2_with fail
  refine (HE.out _ _ HV7).mono ?_
  rintro e w8 ⟨v8, rfl, ho, hg⟩
  go_wp2_with fail
  go_ret
  exact ⟨_, rfl, ho.base (Gr.size hGF), hGF.step hg⟩
theorem rdata_any (P : Pr) (k : P.ok) (w : World) :
    Calls Tryz.prog 34 #[P.v] w fun e w' => ∃ v', e = .returned v' ∧ OwB w.heap.size w' v' P.data ∧ Gr w w' := by
  rcases k.proto with h | h | h
  · exact rdata_icmp P k w h
  · exact rdata_udp P k w h
  · exact rdata_tcp P k w h
theorem rencode_enc {p : Nat → Prop} {v : Value} {d : List Nat} (h : Hd) (k : h.ok) (w : World) (hr : Rb p w v d) (hl : d.length ≤ 1480) :
    Calls Tryz.prog 33 #[h.p v] w fun e w' => ∃ v', e = .returned (.tuple #[v', .int .i64 0]) ∧ OwB w.heap.size w' v' (enc h d) ∧ Gr w w' := rencode_ok h k w hr hl
theorem rbuild_bad (s d pr fl tg tt : Int) (w : World) (h : prbE pr fl tg tt ≠ 0) :
    Calls Tryz.prog 14 #[prV s d pr fl tg tt] w fun e w' => e = .returned (.tuple #[.slice none 0 0, .int .i64 (prbE pr fl tg tt : Nat)]) ∧ Gr w w' := by
  have HK := Lib.hid (fun w => rchk_any s d pr fl tg tt w)
  generalize prbE pr fl tg tt = E at *
  have d1 : ((E : Int) != 0) = true := by rw [bne_iff_ne]; omega
  clear h
  unfold prV at *
  go_enter Tryz.func14, Tryz.ntmps14
  go_wp2_with fail
  refine (HK.out _).mono ?_
  rintro e w1 ⟨rfl, hg⟩
  go_wp2_with fail
  go_ret2
  exact ⟨rfl, (Gr.alloc (Gr.refl w) _).step hg⟩
set_option maxHeartbeats 1000000 in
theorem rbuild_ok (P : Pr) (k : P.ok) (w : World) :
    Calls Tryz.prog 14 #[P.v] w fun e w' => ∃ v', e = .returned (.tuple #[v', .int .i64 0]) ∧ OwB w.heap.size w' v' P.pk ∧ Gr w w' := by
  have HK := Lib.hid (fun w => rchk_any P.src P.dst P.proto P.flow P.tag P.ttl w)
  rw [Pr.e_ok k] at HK
  have HD := Lib.hid (fun w => rdata_any P k w)
  have HE := Lib.hid (fun (v : Value) (w : World) (hv : Rb (fun _ => True) w v P.data) => rencode_enc P.hd (Pr.hd_ok k) w hv (by have := (Pr.data_at k).2.1; omega))
  have HC := Lib.hid (CL.new w P.vs 29 _ rfl)
  have hG := Gr.alloc (Gr.refl w) (.cells P.vs.toArray 29)
  clear k
  unfold Pr.v prV at *
  unfold Pr.vs at HC hG
  unfold Pr.hd Hd.p pkV at HE
  simp only at HE
  go_enter Tryz.func14, Tryz.ntmps14
  go_upto_region 1 with fail
  simp only [List.toArray] at hG
  generalize w.alloc (.cells #[.int .u32 P.src, .int .u32 P.dst, .int .i64 P.proto, .int .i64 P.flow, .int .i64 P.tag, .int .i64 P.ttl] 29) = w1 at HC hG ⊢
  generalize w.heap.size = g at HC ⊢
  obtain ⟨⟨x0, x1, x2, x3, x4, x5⟩, -⟩ := CL.six HC.out
  go_wp2_with fail
  refine (HK.out _).mono ?_
  rintro e w2 ⟨rfl, hg⟩
  have HC2 := Lib.hid (HC.out.gr hg)
  replace hG := hG.step hg
  clear x0 x1 x2 x3 x4 x5 HC hg HK
  go_wp2_with fail
  have hS : Gr w2 w2.drew := Gr.drew (Gr.refl _)
  refine region_plain (Gr w2) (by kernel_rfl) ?_
  generalize w2.drew = w4 at hS ⊢
  refine take_at 0 (some 10) (v := ?vb0) rfl rfl (by kernel_rfl) (by kernel_rfl) (by kernel_rfl) (by rfl) ?yb0 hS ?tb0
  case yb0 =>
    intro w' hSw
    obtain - := hSw
    go_simp
    (try with_reducible rfl)
  simp only [Act.put, List.setIfInBounds_toArray, List.set_cons_zero, List.set_cons_succ]
  refine take_at 1 (some 11) (v := ?vb1) rfl rfl (by kernel_rfl) (by kernel_rfl) (by kernel_rfl) (by rfl) ?yb1 hS ?tb1
  case yb1 =>
    intro w' hSw
    obtain ⟨⟨q0, q1, q2, q3, q4, q5⟩, -⟩ := CL.six (HC2.out.gr hSw)
    go_simp
    (try with_reducible rfl)
  simp only [Act.put, List.setIfInBounds_toArray, List.set_cons_zero, List.set_cons_succ]
  refine take_at 2 (some 12) (v := ?vb2) rfl rfl (by kernel_rfl) (by kernel_rfl) (by kernel_rfl) (by rfl) ?yb2 hS ?tb2
  case yb2 =>
    intro w' hSw
    obtain - := hSw
    go_simp
    (try with_reducible rfl)
  simp only [Act.put, List.setIfInBounds_toArray, List.set_cons_zero, List.set_cons_succ]
  refine take_at 3 (some 13) (v := ?vb3) rfl rfl (by kernel_rfl) (by kernel_rfl) (by kernel_rfl) (by rfl) ?yb3 hS ?tb3
  case yb3 =>
    intro w' hSw
    obtain ⟨⟨q0, q1, q2, q3, q4, q5⟩, -⟩ := CL.six (HC2.out.gr hSw)
    go_simp
    (try with_reducible rfl)
  simp only [Act.put, List.setIfInBounds_toArray, List.set_cons_zero, List.set_cons_succ]
  refine take_at 4 (some 14) (v := ?vb4) rfl rfl (by kernel_rfl) (by kernel_rfl) (by kernel_rfl) (by rfl) ?yb4 hS ?tb4
  case yb4 =>
    intro w' hSw
    obtain - := hSw
    go_simp
    (try with_reducible rfl)
  simp only [Act.put, List.setIfInBounds_toArray, List.set_cons_zero, List.set_cons_succ]
  refine take_at 5 (some 15) (v := ?vb5) rfl rfl (by kernel_rfl) (by kernel_rfl) (by kernel_rfl) (by rfl) ?yb5 hS ?tb5
  case yb5 =>
    intro w' hSw
    obtain ⟨⟨q0, q1, q2, q3, q4, q5⟩, -⟩ := CL.six (HC2.out.gr hSw)
    go_simp
    (try with_reducible rfl)
  simp only [Act.put, List.setIfInBounds_toArray, List.set_cons_zero, List.set_cons_succ]
  refine take_at 6 (some 16) (v := ?vb6) rfl rfl (by kernel_rfl) (by kernel_rfl) (by kernel_rfl) (by rfl) ?yb6 hS ?tb6
  case yb6 =>
    intro w' hSw
    obtain - := hSw
    go_simp
    (try with_reducible rfl)
  simp only [Act.put, List.setIfInBounds_toArray, List.set_cons_zero, List.set_cons_succ]
  refine take_at 7 (some 17) (v := ?vb7) rfl rfl (by kernel_rfl) (by kernel_rfl) (by kernel_rfl) (by rfl) ?yb7 hS ?tb7
  case yb7 =>
    intro w' hSw
    obtain ⟨⟨q0, q1, q2, q3, q4, q5⟩, -⟩ := CL.six (HC2.out.gr hSw)
    go_simp
    (try with_reducible rfl)
  simp only [Act.put, List.setIfInBounds_toArray, List.set_cons_zero, List.set_cons_succ]
  refine take_at 8 (some 18) (v := ?vb8) rfl rfl (by kernel_rfl) (by kernel_rfl) (by kernel_rfl) (by rfl) ?yb8 hS ?tb8
  case yb8 =>
    intro w' hSw
    obtain - := hSw
    go_simp
    (try with_reducible rfl)
  simp only [Act.put, List.setIfInBounds_toArray, List.set_cons_zero, List.set_cons_succ]
  refine take_at 9 (some 19) (v := ?vb9) rfl rfl (by kernel_rfl) (by kernel_rfl) (by kernel_rfl) (by rfl) ?yb9 hS ?tb9
  case yb9 =>
    intro w' hSw
    obtain ⟨⟨q0, q1, q2, q3, q4, q5⟩, -⟩ := CL.six (HC2.out.gr hSw)
    go_simp
    (try with_reducible rfl)
  simp only [Act.put, List.setIfInBounds_toArray, List.set_cons_zero, List.set_cons_succ]
  refine take_at 10 (some 20) (v := ?vb10) rfl rfl (by kernel_rfl) (by kernel_rfl) (by kernel_rfl) (by rfl) ?yb10 hS ?tb10
  case yb10 =>
    intro w' hSw
    obtain - := hSw
    go_simp
    (try with_reducible rfl)
  simp only [Act.put, List.setIfInBounds_toArray, List.set_cons_zero, List.set_cons_succ]
  refine take_at 11 (some 21) (v := ?vb11) rfl rfl (by kernel_rfl) (by kernel_rfl) (by kernel_rfl) (by rfl) ?yb11 hS ?tb11
  case yb11 =>
    intro w' hSw
    obtain ⟨⟨q0, q1, q2, q3, q4, q5⟩, -⟩ := CL.six (HC2.out.gr hSw)
    go_simp
    (try with_reducible rfl)
  simp only [Act.put, List.setIfInBounds_toArray, List.set_cons_zero, List.set_cons_succ]
  refine next_at 12 rfl (by kernel_rfl) (by rfl) (fun K hK => ?_)
  go_simp
  refine (HD.out _).mono ?_
  rintro e w5 ⟨v5, rfl, ho, hg⟩
  have hr := ho.rb.any
  obtain ⟨a5, c5, rfl, -, -⟩ := hr.form
  generalize P.data.length = N at hr ⊢
  have HX := Lib.hid (HE.out _ _ hr)
  replace hS := hS.step hg
  refine hK _ _ hS ?_
  clear hK K ho hg hr
  refine next_at 13 rfl (by kernel_rfl) (by rfl) (fun K hK => ?_)
  go_simp
  refine hK _ _ hS ?_
  clear hK K
  refine next_at 14 rfl (by kernel_rfl) (by rfl) (fun K hK => ?_)
  go_simp
  refine HX.out.mono ?_
  rintro e w6 ⟨v6, rfl, ho, hg⟩
  replace ho := ho.base (Gr.size (hG.step hS))
  replace hS := hS.step hg
  refine hK _ _ hS ?_
  clear hK K hg HX
  refine take_at 15 (some 25) (v := ?vb15) rfl rfl (by kernel_rfl) (by kernel_rfl) (by kernel_rfl) (by rfl) ?yb15 hS ?tb15
  case yb15 =>
    intro w' hSw
    obtain - := hSw
    go_simp
    (try with_reducible rfl)
  simp only [Act.put, List.setIfInBounds_toArray, List.set_cons_zero, List.set_cons_succ]
  refine take_at 16 (some 26) (v := ?vb16) rfl rfl (by kernel_rfl) (by kernel_rfl) (by kernel_rfl) (by rfl) ?yb16 hS ?tb16
  case yb16 =>
    intro w' hSw
    obtain - := hSw
    go_simp
    (try with_reducible rfl)
  simp only [Act.put, List.setIfInBounds_toArray, List.set_cons_zero, List.set_cons_succ]
  refine next_at 17 rfl (by kernel_rfl) (by rfl) (fun K hK => ?_)
  go_simp
  refine hK _ _ hS ?_
  clear hK K
  refine next_at 18 rfl (by kernel_rfl) (by rfl) (fun K hK => ?_)
  go_simp
  refine hK _ _ hS ?_
  clear hK K
  refine wpAnyH_done (by kernel_rfl) ?_ _
  refine qz_normal ?_
  have hz := hG.step hS
  go_wp2_with fail
  go_ret2
  exact ⟨_, rfl, ho, hz⟩
end Go.Proofs.YtkpejaiigopmgaaGreatDoor
