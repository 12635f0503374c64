/- Probes of the document: balanced, data. -/
import Derived.Test.YtkpejaiigopmgaaDoorUdM
import Derived.Test.YtkpejaiigopmgaaDoorGL
import Derived.Test.YtkpejaiigopmgaaDoorKoM
import Derived.Test.YtkpejaiigopmgaaDoorKpM
import Derived.WalkKit
import Derived.WalkSpells
import Derived.WalkLawsBesides
import Derived.WalkSmall
import Derived.Handy
import Derived.BigQuiet
import Derived.Deep.QuietTactic
import Derived.Deep.RegionHeld3
import Derived.Deep.DeepFit
import Derived.Below
import Derived.Lib.Hide
import Derived.Lib.QuietBelow
namespace Go.Proofs.YtkpejaiigopmgaaDoor
open Go Go.RowKit Go.Sort
set_option maxRecDepth 100000
set_option linter.unusedVariables false
set_option linter.unusedSimpArgs false
def rbal (s want : Nat) : Nat := if oc (65535 - want + s) = 0 then 65535 else oc (65535 - want + s)
theorem rbal_le (s want : Nat) : rbal s want ≤ 65535 := by have := oc_le (65535 - want + s); unfold rbal; split <;> omega
theorem rbal_eq {s want : Nat} (hs : s ≤ 65535) (h1 : want ≤ 65535) : rbal s want = bal (if s = 0 then 65535 else s) want := by
  unfold rbal bal oc
  repeat' split
  all_goals first | omega | (split at * <;> omega) | (split <;> omega)
theorem rbal_pos {s want : Nat} (hs : s ≤ 65535) (h1 : want < 65535) : rbal s want = bal s want := by
  unfold rbal bal
  have := oc_pos (s := 65535 - want + s) (by omega)
  rw [if_neg (by omega), Nat.add_comm]
theorem rbalanced_any (s want : Nat) (w : World) (hs : s ≤ 65535) (hw : want ≤ 65535) (n : Nat) (hn : n = rbal s want) :
    Calls Tryd.prog 68 #[.int .i64 s, .int .i64 want] w fun e w' => e = .returned (.int .i64 n) ∧ w = w' := by
  obtain ⟨U, hU⟩ : ∃ U, U = 65535 - want := ⟨_, rfl⟩
  have eU : (65535 : Int) - (want : Int) = (U : Int) := by omega
  have wU : IntKind.i64.wrap (U : Int) = (U : Int) := by rw [IntWalk.i64_in _ (by omega)]
  have HA := Lib.hid (fun w => rwadd_nat U s w (by omega) hs)
  have HN := Lib.hid hn
  unfold rbal at HN
  rw [← hU] at HN
  generalize oc (U + s) = M at *
  by_cases h0 : M = 0
  · have d1 : ((M : Int) == 0) = true := by simpa using h0
    have HE := Lib.hid (show n = 65535 from HN.out.trans (if_pos h0))
    clear h0 hU hn HN
    go_enter Tryd.func68, Tryd.ntmps68
    go_wp2_with fail
    refine (HA.out _).mono ?_
    rintro e w1 ⟨rfl, rfl⟩
    go_wp2_with fail
    go_ret
    exact ⟨ret_int (by rw [HE.out]; rfl), rfl⟩
  · have d1 : ((M : Int) == 0) = false := by simpa using h0
    have HE := Lib.hid (show n = M from HN.out.trans (if_neg h0))
    clear h0 hU hn HN
    go_enter Tryd.func68, Tryd.ntmps68
    go_wp2_with fail
    refine (HA.out _).mono ?_
    rintro e w1 ⟨rfl, rfl⟩
    go_wp2_with fail
    go_ret
    exact ⟨ret_int (by rw [HE.out]), rfl⟩
theorem rdata_tcp (P : Pr) (k : P.ok) (w : World) (hp : P.proto = 6) :
    Calls Tryd.prog 33 #[P.v] w fun e w' => ∃ v', e = .returned v' ∧ OwB w.heap.size w' v' P.data ∧ Gr w w' := by
  have hd : P.data = tcpL P.src P.dst (20000 + P.flow) 80 P.tag 0 2 1024 [] := by
    rw [Pr.data_tcp hp]; rfl
  obtain ⟨W, hW⟩ : ∃ W, W = 20000 + P.flow := ⟨_, rfl⟩
  rw [← hW] at hd
  have HD := Lib.hid hd
  have HK := Lib.hid k
  have hf := k.flow
  have ht := k.tag
  have eW : (20000 : Int) + (P.flow : Int) = (W : Int) := by omega
  have wW : IntKind.i64.wrap (W : Int) = (W : Int) := by rw [IntWalk.i64_in _ (by omega)]
  have HT := Lib.hid (fun w' => rtcp_ok P.src P.dst W 80 P.tag 0 2 1024 w' (Rb.nil (fun _ => True) w') HK.out.src HK.out.dst (by omega) (by decide) (by omega) (by decide) (by decide) (by decide) (by simp))
  have d1 : ((P.proto : Int) == 1) = false := by rw [hp]; rfl
  have d2 : ((P.proto : Int) == 17) = false := by rw [hp]; rfl
  clear hp hd hf ht hW k
  have HC := Lib.hid (CL.new w P.vs 30 _ rfl)
  have hG := Gr.alloc (Gr.refl w) (.cells P.vs.toArray 30)
  unfold Pr.v prV
  unfold Pr.vs at HC hG
  go_enter Tryd.func33, Tryd.ntmps33
  go_upto_region 1 with fail
  simp only [List.toArray] at hG
  generalize w.alloc (.cells #[.int .u32 P.src, .int .u32 P.dst, .int .i64 P.proto, .int .i64 P.flow, .int .i64 P.tag, .int .i64 P.ttl] 30) = w1 at HC hG ⊢
  have hle : w.heap.size ≤ w.heap.size := Nat.le_refl _
  generalize w.heap.size = g at HC ⊢
  clear hle
  obtain ⟨⟨x0, x1, x2, x3, x4, x5⟩, -⟩ := CL.six HC.out
  go_wp2_with fail
  refine (HT.out _).mono ?_
  rintro e w2 ⟨v2, rfl, ho, hg⟩
  rw [← HD.out] at ho
  go_wp2_with fail
  go_ret
  exact ⟨_, rfl, ho.base (Gr.size hG), hG.step hg⟩
set_option maxHeartbeats 2000000 in
theorem rdata_icmp (P : Pr) (k : P.ok) (w : World) (hp : P.proto = 1) :
    Calls Tryd.prog 33 #[P.v] w fun e w' => ∃ v', e = .returned v' ∧ OwB w.heap.size w' v' P.data ∧ Gr w w' := by
  have hf := k.flow
  have ht := k.tag
  obtain ⟨W, hW⟩ : ∃ W, W = 16384 + P.flow := ⟨_, rfl⟩
  obtain ⟨S, hS0⟩ : ∃ S, S = gN (echoL false 21075 P.tag (bput 0 2)) 2 2 := ⟨_, rfl⟩
  have hS1 : S ≤ 65535 := by rw [hS0, ic_s]; exact s0_le _
  obtain ⟨M, hM⟩ : ∃ M, M = rbal S W := ⟨_, rfl⟩
  have hM1 : M ≤ 65535 := by rw [hM]; exact rbal_le _ _
  have HD := Lib.hid (show P.data = echoL false 21075 P.tag (bput M 2) by
    rw [Pr.data_icmp hp, hM, rbal_pos hS1 (by omega), hS0, ic_s, hW]; rfl)
  have HBA := Lib.hid (fun w => rbalanced_any S W w hS1 (by omega) M hM)
  have HPU := Lib.hid (fun w => rpush_any M 2 w (Rb.nil (fun _ => True) w) (by simp) (by omega) (by omega) (by show M < 65536; omega))
  have HE := Lib.hid (fun (v : Value) (d : List Nat) (w : World) (hv : Rb (fun _ => True) w v d) (hd : d.length = 2) => recho_ok false 21075 P.tag w hv (by decide) (by omega) (by omega))
  have HAT := Lib.hid (fun (v : Value) (w : World) (hv : Rb (fun _ => True) w v (echoL false 21075 P.tag (bput 0 2))) => rat_any 2 2 w hv (by omega) (by omega) (by rw [echo_len, bput_len]; omega) (by rw [echo_len, bput_len]; omega))
  rw [← hS0] at HAT
  have eW : (16384 : Int) + (P.flow : Int) = (W : Int) := by omega
  have wW : IntKind.i64.wrap (W : Int) = (W : Int) := by rw [IntWalk.i64_in _ (by omega)]
  have d1 : ((P.proto : Int) == 1) = true := by rw [hp]; rfl
  clear hp k hf ht hW hS0 hS1 hM hM1
  have HC := Lib.hid (CL.new w P.vs 30 _ rfl)
  have hG := Gr.alloc (Gr.refl w) (.cells P.vs.toArray 30)
  unfold Pr.v prV
  unfold Pr.vs at HC hG
  go_enter Tryd.func33, Tryd.ntmps33
  go_upto_region 1 with fail
  simp only [List.toArray] at hG
  generalize w.alloc (.cells #[.int .u32 P.src, .int .u32 P.dst, .int .i64 P.proto, .int .i64 P.flow, .int .i64 P.tag, .int .i64 P.ttl] 30) = w1 at HC hG ⊢
  have hle : w.heap.size ≤ w.heap.size := Nat.le_refl _
  generalize w.heap.size = g at HC ⊢
  clear hle
  obtain ⟨⟨x0, x1, x2, x3, x4, x5⟩, -⟩ := CL.six HC.out
  have hz := rb_zz w1
  have hE := CL.new (w1.alloc (.cells #[.int .u8 0, .int .u8 0] 5)) [.bool false, .int .i64 21075, .int .i64 P.tag, .slice (some ⟨w1.heap.size, 0, none⟩) 2 2] 79 (w1.heap.size + 1) (by simp)
  have hgn := ((Gr.refl w1).alloc (.cells #[.int .u8 0, .int .u8 0] 5)).alloc (.cells #[.bool false, .int .i64 21075, .int .i64 P.tag, .slice (some ⟨w1.heap.size, 0, none⟩) 2 2] 79)
  replace hz := hz.gr ((Gr.refl _).alloc (.cells #[.bool false, .int .i64 21075, .int .i64 P.tag, .slice (some ⟨w1.heap.size, 0, none⟩) 2 2] 79))
  have hge : w.heap.size ≤ w1.heap.size + 1 := by have := Gr.size hG; omega
  have hgg : g < w1.heap.size + 1 := by have := HC.out.lt; omega
  simp only [List.toArray] at hE
  go_upto_region 4 with fail
  generalize (w1.alloc (.cells #[.int .u8 0, .int .u8 0] 5)).alloc (.cells #[.bool false, .int .i64 21075, .int .i64 P.tag, .slice (some ⟨w1.heap.size, 0, none⟩) 2 2] 79) = w2 at hz hE hgn ⊢
  generalize w1.heap.size + 1 = ge at hE hge hgg ⊢
  generalize w1.heap.size = gz at hz hE ⊢
  replace HC := Lib.hid (HC.out.gr hgn)
  replace hG := hG.step hgn
  clear hgn x0 x1 x2 x3 x4 x5
  obtain ⟨⟨z0, z1, z2, z3⟩, -⟩ := hE.four
  go_wp2_with fail
  refine (HE.out _ _ _ hz (bput_len _ _)).mono ?_
  rintro e w3 ⟨v3, rfl, ho, hg⟩
  have HV := Lib.hid ho.rb.any
  obtain ⟨a3, c3, rfl, -, -⟩ := ho.rb.any.form
  rw [show (echoL false 21075 P.tag (bput 0 2)).length = 10 by rw [echo_len, bput_len]] at HV ⊢
  replace HC := Lib.hid (HC.out.gr hg)
  replace hG := hG.step hg
  replace hE := hE.gr hg
  clear hg ho hz z0 z1 z2 z3
  go_wp2_with fail
  have hx : Ex ge w3 w3.drew := Ex.drew (Ex.refl _ _)
  replace hG := hG.step (Gr.drew (Gr.refl w3))
  replace hE := hE.gr (Gr.drew (Gr.refl w3))
  have hS : Ex ge w3 w3.drew := hx
  clear hx
  refine region_plain (Ex ge w3) (by kernel_rfl) ?_
  have HV4 := HV.out.gr (Gr.drew (Gr.refl w3))
  have hge4 : ge < w3.drew.heap.size := hE.lt
  generalize w3.drew = w4 at hS hG hE HV4 hge4 ⊢
  refine take_at 0 (some 23) (v := ?vi0) rfl rfl (by kernel_rfl) (by kernel_rfl) (by kernel_rfl) (by rfl) ?yi0 hS ?ti0
  case yi0 =>
    intro w' hSw
    obtain - := hSw
    go_simp
    (try with_reducible rfl)
  simp only [Act.put, List.setIfInBounds_toArray, List.set_cons_zero, List.set_cons_succ]
  refine take_at 2 (some 25) (v := ?vi2) rfl rfl (by kernel_rfl) (by kernel_rfl) (by kernel_rfl) (by rfl) ?yi2 hS ?ti2
  case yi2 =>
    intro w' hSw
    obtain - := hSw
    go_simp
    (try with_reducible rfl)
  simp only [Act.put, List.setIfInBounds_toArray, List.set_cons_zero, List.set_cons_succ]
  refine take_at 3 (some 26) (v := ?vi3) rfl rfl (by kernel_rfl) (by kernel_rfl) (by kernel_rfl) (by rfl) ?yi3 hS ?ti3
  case yi3 =>
    intro w' hSw
    obtain ⟨⟨q0, q1, q2, q3, q4, q5⟩, -⟩ := CL.six (HC.out.ex hSw (Nat.ne_of_lt hgg))
    go_simp
    (try with_reducible rfl)
  simp only [Act.put, List.setIfInBounds_toArray, List.set_cons_zero, List.set_cons_succ]
  refine take_at 4 (some 27) (v := ?vi4) rfl rfl (by kernel_rfl) (by kernel_rfl) (by kernel_rfl) (by rfl) ?yi4 hS ?ti4
  case yi4 =>
    intro w' hSw
    obtain - := hSw
    go_simp
    (try with_reducible rfl)
  simp only [Act.put, List.setIfInBounds_toArray, List.set_cons_zero, List.set_cons_succ]
  refine next_at 1 rfl (by kernel_rfl) (by rfl) (fun K hK => ?_)
  go_simp
  refine (HAT.out _ w4 HV4).mono ?_
  rintro e w1a ⟨rfl, rfl⟩
  refine hK _ _ hS ?_
  clear hK K
  clear HV4
  refine next_at 5 rfl (by kernel_rfl) (by rfl) (fun K hK => ?_)
  go_simp
  refine (HBA.out _).mono ?_
  rintro e w5a ⟨rfl, rfl⟩
  refine hK _ _ hS ?_
  clear hK K
  refine next_at 6 rfl (by kernel_rfl) (by rfl) (fun K hK => ?_)
  go_simp
  refine (HPU.out _).mono ?_
  rintro e w6a ⟨v6, rfl, ho, hg⟩
  have hgl := ho.above
  have hv := ho.rb
  replace hG := hG.step hg
  replace hE := hE.gr hg
  replace hS := hS.trans (Ex.ofGr hg)
  obtain ⟨a6, c6, rfl, -, -⟩ := hv.form
  rw [show ([] ++ bput M 2 : List Nat).length = 2 by simp [bput_len]]
  have HV6 := Lib.hid (hv.imp (q := fun b => b ≠ ge) (fun b _ hb => by have := hge4; omega))
  rw [show ([] ++ bput M 2 : List Nat) = bput M 2 from rfl] at HV6
  clear hgl hv ho hg
  refine hK _ _ hS ?_
  clear hK K
  refine take_at 7 (some 30) (v := ?vi7) rfl rfl (by kernel_rfl) (by kernel_rfl) (by kernel_rfl) (by rfl) ?yi7 hS ?ti7
  case yi7 =>
    intro w' hSw
    obtain - := hSw
    go_simp
    (try with_reducible rfl)
  simp only [Act.put, List.setIfInBounds_toArray, List.set_cons_zero, List.set_cons_succ]
  have hES := hE.set 3 (.slice a6 2 c6) (by simp)
  have hSF := hS.set 3 (.slice a6 2 c6)
  have hGF := hG.setCell (p := ⟨ge, 3, none⟩) hge (.slice a6 2 c6)
  have HV7 := (HV6.out.ex (Ex.set (Ex.refl ge w6a) 3 (.slice a6 2 c6)) (fun b hb => hb)).any
  obtain ⟨⟨z0, z1, z2, z3⟩, u0, u1, u2, u3⟩ := hE.four
  refine next_at 8 rfl (by kernel_rfl) (by rfl) (fun K hK => ?_)
  go_simp
  refine hK _ _ hSF ?_
  clear hK K z0 z1 z2 z3 u0 u1 u2 u3
  simp only [List.set_cons_succ, List.set_cons_zero] at hES
  generalize w6a.setCell ⟨ge, 3, none⟩ (.slice a6 2 c6) = w7 at hES hSF hGF HV7 ⊢
  refine wpAnyH_done (by kernel_rfl) ?_ _
  refine qz_normal ?_
  obtain ⟨⟨z0, z1, z2, z3⟩, -⟩ := hES.four
  go_wp2_with fail
  refine (HE.out _ _ _ HV7 (bput_len _ _)).mono ?_
  rintro e w8 ⟨v8, rfl, ho, hg⟩
  go_wp2_with fail
  go_ret
  rw [← HD.out] at ho
  exact ⟨_, rfl, ho.base (Gr.size hGF), hGF.step hg⟩
end Go.Proofs.YtkpejaiigopmgaaDoor
