/- Probes: the data that balances a checksum, and the packet of a probe. -/
import Derived.Test.YtkpejaiigopmgaaDoorUcM
import Derived.WalkKit
import Derived.WalkSpells
import Derived.WalkLawsBesides
import Derived.WalkSmall
import Derived.Handy
import Derived.BigQuiet
import Derived.Deep.QuietTactic
import Derived.Deep.RegionHeld3
import Derived.Deep.DeepFit
import Derived.Below
import Derived.Lib.Hide
import Derived.Lib.QuietBelow
namespace Go.Proofs.YtkpejaiigopmgaaDoor
open Go Go.RowKit Go.Sort
set_option maxRecDepth 100000
set_option linter.unusedVariables false
set_option linter.unusedSimpArgs false
def Pr.vs (p : Pr) : List Value := [.int .u32 p.src, .int .u32 p.dst, .int .i64 p.proto, .int .i64 p.flow, .int .i64 p.tag, .int .i64 p.ttl]
theorem rb_zz (w : World) : Rb (fun _ => True) (w.alloc (.cells #[.int .u8 0, .int .u8 0] 5)) (.slice (some ⟨w.heap.size, 0, none⟩) 2 2) (bput 0 2) := by
  have h : OwB w.heap.size (w.alloc (.cells (cellsB (bput 0 2)).toArray 5)) (.slice (some ⟨w.heap.size, 0, none⟩) (bput 0 2).length (bput 0 2).length) (bput 0 2) :=
    ⟨World.ownsRow_lit w (cellsB (bput 0 2)).toArray (bput 0 2).length (Nat.le_refl _) (by unfold maxLen; decide) (by simp [cellsB_len]), bput_lt _ _⟩
  exact h.rb.any
theorem dat_echo {p : Nat → Prop} {v : Value} {d : List Nat} (g : Nat) (P : Pr) (w : World) (hC : CL w g P.vs) (k : P.ok) (hr : Rb p w v d) (hl : d.length = 2) :
    Calls Tryd.prog 40 #[v, .pointer (some ⟨g, 0, none⟩)] w fun e w' => ∃ v', e = .returned v' ∧ OwB w.heap.size w' v' (echoL false 21075 P.tag d) ∧ Gr w w' := by
  have HE := Lib.hid (echo_ok false 21075 P.tag w hr (by decide) (by have := k.tag; omega) (by omega))
  obtain ⟨⟨x0, x1, x2, x3, x4, x5⟩, -⟩ := CL.six hC
  obtain ⟨av, cv, rfl, -, -⟩ := hr.form
  clear hr hl k hC
  go_enter Tryd.func40, Tryd.ntmps40
  go_wp2_with fail
  refine HE.out.mono ?_
  rintro e w1 ⟨v1, rfl, ho, hg⟩
  go_wp2_with fail
  go_ret
  exact ⟨_, rfl, ho, hg⟩
theorem dat_udp {p : Nat → Prop} {v : Value} {d : List Nat} (g : Nat) (P : Pr) (w : World) (hC : CL w g P.vs) (k : P.ok) (hr : Rb p w v d) (hl : d.length = 2) :
    Calls Tryd.prog 42 #[v, .pointer (some ⟨g, 0, none⟩)] w fun e w' => ∃ v', e = .returned v' ∧ OwB w.heap.size w' v' (udpL P.src P.dst (20000 + P.flow) 33434 d) ∧ Gr w w' := by
  obtain ⟨S, hS⟩ : ∃ S, S = 20000 + P.flow := ⟨_, rfl⟩
  rw [← hS]
  have hf := k.flow
  have HE := Lib.hid (udp_ok P.src P.dst S 33434 w hr k.src k.dst (by omega) (by decide) (by omega))
  have eS : (20000 : Int) + (P.flow : Int) = (S : Int) := by omega
  have eW : IntKind.i64.wrap (S : Int) = (S : Int) := by rw [IntWalk.i64_in _ (by omega)]
  obtain ⟨⟨x0, x1, x2, x3, x4, x5⟩, -⟩ := CL.six hC
  obtain ⟨av, cv, rfl, -, -⟩ := hr.form
  clear hr hl k hC hS hf
  go_enter Tryd.func42, Tryd.ntmps42
  go_wp2_with fail
  refine HE.out.mono ?_
  rintro e w1 ⟨v1, rfl, ho, hg⟩
  go_wp2_with fail
  go_ret
  exact ⟨_, rfl, ho, hg⟩
set_option maxHeartbeats 1000000 in
theorem bal_echo (g : Nat) (P : Pr) (w : World) (hC : CL w g P.vs) (k : P.ok) (W : Nat) (hW : W ≤ 65535) :
    Calls Tryd.prog 39 #[.int .i64 2, .int .i64 W, .func (.func 40) #[] #[.pointer (some ⟨g, 0, none⟩)]] w fun e w' => ∃ v', e = .returned v' ∧ OwB w.heap.size w' v' ((echoL false 21075 P.tag) (bput (bal (gN ((echoL false 21075 P.tag) (bput 0 2)) 2 2) W) 2)) ∧ Gr w w' := by
  have HC := Lib.hid hC
  have HK := Lib.hid k
  obtain ⟨U, hU⟩ : ∃ U, U = 65535 - W := ⟨_, rfl⟩
  have eU : (65535 : Int) - (W : Int) = (U : Int) := by omega
  have hU2 : U ≤ 65535 := by omega
  have eWU : IntKind.i64.wrap (U : Int) = (U : Int) := by rw [IntWalk.i64_in _ (by omega)]
  have HU := Lib.hid hU
  have hg0 := Gr.alloc (Gr.refl w) (.cells #[.int .u8 0, .int .u8 0] 5)
  have hz := rb_zz w
  clear hC k hU hW
  go_enter Tryd.func39, Tryd.ntmps39
  go_wp2_with fail
  refine (dat_echo g P _ (HC.out.gr hg0) HK.out hz (by rw [bput_len])).mono ?_
  rintro e w1 ⟨v1, rfl, ho, hg⟩
  replace hg := hg0.step hg
  obtain ⟨l, hl⟩ : ∃ l, l = (echoL false 21075 P.tag) (bput 0 2) := ⟨_, rfl⟩
  rw [← hl] at ho
  have hll : 10 ≤ l.length := by rw [hl, echo_len, bput_len]; decide
  have HR := Lib.hid ho.rb.any
  have hB := gN_lt ho.rb.bytes 2 2
  obtain ⟨a1, c1, rfl, -, -⟩ := ho.rb.form
  have HG := Lib.hid (get_yes 2 2 w1 HR.out (by omega) (by omega) (by omega))
  have HE : Hid (gN l 2 2 = bnum ((l.drop 2).take 2)) := Lib.hid rfl
  rw [← HE.out] at HG
  obtain ⟨B, hBB⟩ : ∃ B, B = gN l 2 2 := ⟨_, rfl⟩
  rw [← hBB] at HG hB
  have HB := Lib.hid (hBB.trans (by rw [hl]) : B = gN ((echoL false 21075 P.tag) (bput 0 2)) 2 2)
  clear hBB
  clear HR ho hl hz hg0 HE hll
  go_wp2_with fail
  refine HG.out.mono ?_
  rintro e w2 ⟨rfl, rfl⟩
  have HA := Lib.hid (wadd_any B U w1)
  rw [adR_nat (show B ≤ 65535 by omega) hU2] at HA
  obtain ⟨M, hM⟩ : ∃ M, M = bal B W := ⟨_, rfl⟩
  rw [show oc (B + U) = M by rw [hM, HU.out]; rfl] at HA
  have hM2 : M ≤ 65535 := by rw [hM]; exact bal_le _ _
  have HM := Lib.hid hM
  clear HG hM hB
  go_wp2_with fail
  refine HA.out.mono ?_
  rintro e w2 ⟨rfl, rfl⟩
  clear HA
  go_wp2_with fail
  refine (put_own M 2 w1 (Rb.nil (fun _ => True) _) (by simp) (by omega) (by omega) (by show M < 65536; omega)).mono ?_
  rintro e w3 ⟨v3, rfl, ho, hg3⟩
  replace hg := hg.step hg3
  have hr := ho.rb.any
  obtain ⟨a3, c3, rfl, -, -⟩ := hr.form
  rw [show ([] ++ bput M 2 : List Nat) = bput M 2 from rfl] at hr
  have HX := Lib.hid (dat_echo g P w3 (HC.out.gr hg) HK.out hr (bput_len _ _))
  clear ho hg3 hr
  go_wp2_with fail
  refine HX.out.mono ?_
  rintro e w4 ⟨v4, rfl, ho, hg4⟩
  replace ho := ho.base (Gr.size hg)
  replace hg := hg.step hg4
  clear HX hg4
  go_wp2_with fail
  go_ret
  rw [HM.out, HB.out] at ho
  exact ⟨_, rfl, ho, hg⟩
set_option maxHeartbeats 1000000 in
theorem bal_udp (g : Nat) (P : Pr) (w : World) (hC : CL w g P.vs) (k : P.ok) (W : Nat) (hW : W ≤ 65535) :
    Calls Tryd.prog 39 #[.int .i64 6, .int .i64 W, .func (.func 42) #[] #[.pointer (some ⟨g, 0, none⟩)]] w fun e w' => ∃ v', e = .returned v' ∧ OwB w.heap.size w' v' ((udpL P.src P.dst (20000 + P.flow) 33434) (bput (bal (gN ((udpL P.src P.dst (20000 + P.flow) 33434) (bput 0 2)) 6 2) W) 2)) ∧ Gr w w' := by
  have HC := Lib.hid hC
  have HK := Lib.hid k
  obtain ⟨U, hU⟩ : ∃ U, U = 65535 - W := ⟨_, rfl⟩
  have eU : (65535 : Int) - (W : Int) = (U : Int) := by omega
  have hU2 : U ≤ 65535 := by omega
  have eWU : IntKind.i64.wrap (U : Int) = (U : Int) := by rw [IntWalk.i64_in _ (by omega)]
  have HU := Lib.hid hU
  have hg0 := Gr.alloc (Gr.refl w) (.cells #[.int .u8 0, .int .u8 0] 5)
  have hz := rb_zz w
  clear hC k hU hW
  go_enter Tryd.func39, Tryd.ntmps39
  go_wp2_with fail
  refine (dat_udp g P _ (HC.out.gr hg0) HK.out hz (by rw [bput_len])).mono ?_
  rintro e w1 ⟨v1, rfl, ho, hg⟩
  replace hg := hg0.step hg
  obtain ⟨l, hl⟩ : ∃ l, l = (udpL P.src P.dst (20000 + P.flow) 33434) (bput 0 2) := ⟨_, rfl⟩
  rw [← hl] at ho
  have hll : 10 ≤ l.length := by rw [hl, udp_len, bput_len]; decide
  have HR := Lib.hid ho.rb.any
  have hB := gN_lt ho.rb.bytes 6 2
  obtain ⟨a1, c1, rfl, -, -⟩ := ho.rb.form
  have HG := Lib.hid (get_yes 6 2 w1 HR.out (by omega) (by omega) (by omega))
  have HE : Hid (gN l 6 2 = bnum ((l.drop 6).take 2)) := Lib.hid rfl
  rw [← HE.out] at HG
  obtain ⟨B, hBB⟩ : ∃ B, B = gN l 6 2 := ⟨_, rfl⟩
  rw [← hBB] at HG hB
  have HB := Lib.hid (hBB.trans (by rw [hl]) : B = gN ((udpL P.src P.dst (20000 + P.flow) 33434) (bput 0 2)) 6 2)
  clear hBB
  clear HR ho hl hz hg0 HE hll
  go_wp2_with fail
  refine HG.out.mono ?_
  rintro e w2 ⟨rfl, rfl⟩
  have HA := Lib.hid (wadd_any B U w1)
  rw [adR_nat (show B ≤ 65535 by omega) hU2] at HA
  obtain ⟨M, hM⟩ : ∃ M, M = bal B W := ⟨_, rfl⟩
  rw [show oc (B + U) = M by rw [hM, HU.out]; rfl] at HA
  have hM2 : M ≤ 65535 := by rw [hM]; exact bal_le _ _
  have HM := Lib.hid hM
  clear HG hM hB
  go_wp2_with fail
  refine HA.out.mono ?_
  rintro e w2 ⟨rfl, rfl⟩
  clear HA
  go_wp2_with fail
  refine (put_own M 2 w1 (Rb.nil (fun _ => True) _) (by simp) (by omega) (by omega) (by show M < 65536; omega)).mono ?_
  rintro e w3 ⟨v3, rfl, ho, hg3⟩
  replace hg := hg.step hg3
  have hr := ho.rb.any
  obtain ⟨a3, c3, rfl, -, -⟩ := hr.form
  rw [show ([] ++ bput M 2 : List Nat) = bput M 2 from rfl] at hr
  have HX := Lib.hid (dat_udp g P w3 (HC.out.gr hg) HK.out hr (bput_len _ _))
  clear ho hg3 hr
  go_wp2_with fail
  refine HX.out.mono ?_
  rintro e w4 ⟨v4, rfl, ho, hg4⟩
  replace ho := ho.base (Gr.size hg)
  replace hg := hg.step hg4
  clear HX hg4
  go_wp2_with fail
  go_ret
  rw [HM.out, HB.out] at ho
  exact ⟨_, rfl, ho, hg⟩
end Go.Proofs.YtkpejaiigopmgaaDoor
