/- The document's Encode; what Encode answers to any packet. -/
import Derived.Test.YtcpaphehhjnemaaIe
import Derived.Test.YtcpaphehhjnemaaJh
import Derived.Test.YtcpaphehhjnemaaTa
import Derived.WalkKit
import Derived.WalkSpells
import Derived.WalkLawsBesides
import Derived.WalkSmall
import Derived.Handy
import Derived.BigQuiet
import Derived.Deep.QuietTactic
import Derived.Deep.RegionHeld3
import Derived.Deep.DeepFit
import Derived.Below
import Derived.Lib.Hide
import Derived.Lib.QuietBelow
namespace Go.Proofs.Ytcpaphehhjnemaa
open Go Go.RowKit Go.Sort
set_option maxRecDepth 100000
set_option linter.unusedVariables false
theorem rencode_bad {tos id ttl proto : Int} (keep : Bool) (src dst : Int) (a : Option Addr) (n c : Nat) (w : World) (hn : ¬ ckOk tos id ttl proto) :
    Calls Try.prog 9 #[pkV tos id ttl proto keep src dst (.slice a n c)] w fun e w' => e = .returned (.tuple #[.slice none 0 0, .int .i64 1]) ∧ Gr w w' := by
  have HK := Lib.hid (fun w => rcheck_any tos id ttl proto keep src dst w)
  rw [ckE_no hn] at HK
  clear hn
  unfold pkV hdV at *
  go_enter Try.func9, Try.ntmps9
  go_wp2_with fail
  refine (HK.out _).mono ?_
  rintro e w1 ⟨rfl, hg⟩
  go_wp2_with fail
  go_ret2
  exact ⟨rfl, (Gr.alloc (Gr.refl w) _).step hg⟩
theorem rencode_long {tos id ttl proto : Int} (keep : Bool) (src dst : Int) (a : Option Addr) (n c : Nat) (w : World) (hn : ckOk tos id ttl proto) (hl : 1480 < n) (hm : n ≤ 100000) :
    Calls Try.prog 9 #[pkV tos id ttl proto keep src dst (.slice a n c)] w fun e w' => e = .returned (.tuple #[.slice none 0 0, .int .i64 5]) ∧ Gr w w' := by
  have HK := Lib.hid (fun w => rcheck_any tos id ttl proto keep src dst w)
  rw [ckE_yes hn] at HK
  clear hn
  obtain ⟨N, hN⟩ : ∃ N, N = n + 20 := ⟨_, rfl⟩
  have e20 : (n : Int) + 20 = (N : Int) := by omega
  have d1 : decide ((1500 : Int) < (N : Int)) = true := by rw [decide_eq_true_eq]; omega
  have hN2 : N ≤ 100020 := by omega
  clear hN
  have HC := Lib.hid (C8.new w tos id ttl proto keep src dst (.slice a n c) 29 _ rfl)
  unfold pkV hdV at *
  go_enter Try.func9, Try.ntmps9
  go_wp2_with fail
  refine (HK.out _).mono ?_
  rintro e w1 ⟨rfl, hg⟩
  have hC := HC.out.gr hg
  obtain ⟨q0, q1, q2, q3, q4, q5, q6, q7⟩ := hC
  go_wp2_with fail
  go_ret2
  exact ⟨rfl, (Gr.alloc (Gr.refl w) _).step hg⟩
set_option maxHeartbeats 400000 in
theorem rencode_ok {p : Nat → Prop} {v : Value} {d : List Nat} (h : Hd) (k : h.ok) (w : World) (hr : Rb p w v d) (hl : d.length ≤ 1480) :
    Calls Try.prog 9 #[h.p v] w fun e w' => ∃ v', e = .returned (.tuple #[v', .int .i64 0]) ∧ OwB w.heap.size w' v' (hbytes h (20 + d.length) ++ d) ∧ Gr w w' := by
  obtain ⟨a, cap, rfl, hcap, hmx⟩ := hr.form
  have HK := Lib.hid (fun w => rcheck_any h.tos h.id h.ttl h.proto h.keep h.src h.dst w)
  rw [ckE_yes (ckOk_of k)] at HK
  obtain ⟨N, hN⟩ : ∃ N, N = 20 + d.length := ⟨_, rfl⟩
  rw [← hN]
  have HHD := Lib.hid (fun w => rheader_any h k N (by omega) w)
  have HR := Lib.hid hr
  have HC := Lib.hid (C8.new w h.tos h.id h.ttl h.proto h.keep h.src h.dst (.slice a d.length cap) 29 _ rfl)
  have e20 : (d.length : Int) + 20 = (N : Int) := by omega
  have d1 : decide ((1500 : Int) < (N : Int)) = false := by rw [decide_eq_false_iff_not]; omega
  have KO := Lib.hid (hbytes_len h N)
  have HN := Lib.hid hN
  have eW : IntKind.i64.wrap (N : Int) = (N : Int) := by rw [IntWalk.i64_in _ (by omega)]
  clear hr k hN
  unfold Hd.p pkV Hd.v hdV at *
  go_enter Try.func9, Try.ntmps9
  go_wp2_with fail
  refine (HK.out _).mono ?_
  rintro e w1 ⟨rfl, hg⟩
  have HC := Lib.hid (HC.out.gr hg)
  obtain ⟨q0, q1, q2, q3, q4, q5, q6, q7⟩ := HC.out
  have hG := (Gr.alloc (Gr.refl w) _).step hg
  clear hg HK
  go_wp2_with fail
  clear q0 q1 q2 q3 q4 q5 q6 q7
  have hS : Gr w1 w1.drew := Gr.drew (Gr.refl _)
  refine region_plain (Gr w1) (by kernel_rfl) ?_
  refine take_at 0 (some 16) (v := ?v0) rfl rfl (by kernel_rfl) (by kernel_rfl) (by kernel_rfl) (by rfl) ?y0 hS ?t0
  case y0 =>
    intro w' hSw
    obtain ⟨q0, q1, q2, q3, q4, q5, q6, q7⟩ := HC.out.gr hSw
    go_simp
    (try with_reducible rfl)
  simp only [Act.put, List.setIfInBounds_toArray, List.set_cons_zero, List.set_cons_succ]
  refine take_at 1 (some 17) (v := ?v1) rfl rfl (by kernel_rfl) (by kernel_rfl) (by kernel_rfl) (by rfl) ?y1 hS ?t1
  case y1 =>
    intro w' hSw
    obtain ⟨q0, q1, q2, q3, q4, q5, q6, q7⟩ := HC.out.gr hSw
    go_simp
    (try with_reducible rfl)
  simp only [Act.put, List.setIfInBounds_toArray, List.set_cons_zero, List.set_cons_succ]
  refine take_at 2 (some 18) (v := ?v2) rfl rfl (by kernel_rfl) (by kernel_rfl) (by kernel_rfl) (by rfl) ?y2 hS ?t2
  case y2 =>
    intro w' hSw
    obtain ⟨q0, q1, q2, q3, q4, q5, q6, q7⟩ := HC.out.gr hSw
    go_simp
    (try with_reducible rfl)
  simp only [Act.put, List.setIfInBounds_toArray, List.set_cons_zero, List.set_cons_succ]
  refine take_at 3 (some 19) (v := ?v3) rfl rfl (by kernel_rfl) (by kernel_rfl) (by kernel_rfl) (by rfl) ?y3 hS ?t3
  case y3 =>
    intro w' hSw
    obtain ⟨q0, q1, q2, q3, q4, q5, q6, q7⟩ := HC.out.gr hSw
    go_simp
    (try with_reducible rfl)
  simp only [Act.put, List.setIfInBounds_toArray, List.set_cons_zero, List.set_cons_succ]
  refine take_at 4 (some 20) (v := ?v4) rfl rfl (by kernel_rfl) (by kernel_rfl) (by kernel_rfl) (by rfl) ?y4 hS ?t4
  case y4 =>
    intro w' hSw
    obtain ⟨q0, q1, q2, q3, q4, q5, q6, q7⟩ := HC.out.gr hSw
    go_simp
    (try with_reducible rfl)
  simp only [Act.put, List.setIfInBounds_toArray, List.set_cons_zero, List.set_cons_succ]
  refine take_at 5 (some 21) (v := ?v5) rfl rfl (by kernel_rfl) (by kernel_rfl) (by kernel_rfl) (by rfl) ?y5 hS ?t5
  case y5 =>
    intro w' hSw
    obtain ⟨q0, q1, q2, q3, q4, q5, q6, q7⟩ := HC.out.gr hSw
    go_simp
    (try with_reducible rfl)
  simp only [Act.put, List.setIfInBounds_toArray, List.set_cons_zero, List.set_cons_succ]
  refine take_at 7 (some 23) (v := ?v7) rfl rfl (by kernel_rfl) (by kernel_rfl) (by kernel_rfl) (by rfl) ?y7 hS ?t7
  case y7 =>
    intro w' hSw
    obtain ⟨q0, q1, q2, q3, q4, q5, q6, q7⟩ := HC.out.gr hSw
    go_simp
    (try with_reducible rfl)
  simp only [Act.put, List.setIfInBounds_toArray, List.set_cons_zero, List.set_cons_succ]
  refine take_at 8 (some 24) (v := ?v8) rfl rfl (by kernel_rfl) (by kernel_rfl) (by kernel_rfl) (by rfl) ?y8 hS ?t8
  case y8 =>
    intro w' hSw
    obtain ⟨q0, q1, q2, q3, q4, q5, q6, q7⟩ := HC.out.gr hSw
    go_simp
    (try with_reducible rfl)
  simp only [Act.put, List.setIfInBounds_toArray, List.set_cons_zero, List.set_cons_succ]
  refine next_at 6 rfl (by kernel_rfl) (by rfl) (fun K hK => ?_)
  go_simp
  refine (HHD.out _).mono ?_
  rintro e w2 ⟨vh, rfl, hvh, hg2⟩
  have hS2 := Gr.step (Gr.drew (Gr.refl w1)) hg2
  have HV := Lib.hid (hvh.base (b := w1.heap.size) (by simp))
  refine hK _ _ hS2 ?_
  clear hK K hvh hS
  have hS := hS2
  refine next_at 9 rfl (by kernel_rfl) (by rfl) (fun K hK => ?_)
  refine oper_app _ _ rfl rfl HV.out rfl (HR.out.gr (hG.step hS)) (by rw [KO.out]; omega) (Gr.size hS) ?_
  intro v4 w4 ho4 g4
  have hS4 := hS.grownNew g4 HV.out.above
  have HO4 := Lib.hid (ho4.base (b := w.heap.size) (Gr.size hG))
  have hG4 := hG.step hS4
  refine hK _ _ hS4 ?_
  simp only [Act.put, List.setIfInBounds_toArray]
  clear hK K ho4 hS hS2 g4 HV
  have hS := hS4
  refine next_at 10 rfl (by kernel_rfl) (by rfl) (fun K hK => ?_)
  go_simp
  refine hK _ _ hS ?_
  clear hK K
  refine next_at 11 rfl (by kernel_rfl) (by rfl) (fun K hK => ?_)
  go_simp
  refine hK _ _ hS ?_
  clear hK K
  refine wpAnyH_done (by kernel_rfl) ?_ _
  refine qz_normal ?_
  go_wp2_with fail
  go_ret2
  exact ⟨_, rfl, HO4.out, hG4⟩
/-- what Encode answers -/
def enE (tos id ttl proto : Int) (n : Nat) : Int := if ckOk tos id ttl proto then (if 1480 < n then 5 else 0) else 1
def enH (tos id ttl proto : Int) (keep : Bool) (src dst : Nat) : Hd := ⟨tos.toNat, id.toNat, ttl.toNat, proto.toNat, keep, src, dst⟩
def enL (tos id ttl proto : Int) (keep : Bool) (src dst : Nat) (d : List Nat) : List Nat := if ckOk tos id ttl proto ∧ d.length ≤ 1480 then hbytes (enH tos id ttl proto keep src dst) (20 + d.length) ++ d else []
theorem enL_len (tos id ttl proto : Int) (keep : Bool) (src dst : Nat) (d : List Nat) : (enL tos id ttl proto keep src dst d).length ≤ 1500 := by
  unfold enL; split
  · next h => rw [List.length_append, hbytes_len]; omega
  · simp
theorem enH_ok {tos id ttl proto : Int} (keep : Bool) {src dst : Nat} (h : ckOk tos id ttl proto) (h1 : src < 4294967296) (h2 : dst < 4294967296) : (enH tos id ttl proto keep src dst).ok := by
  unfold ckOk inB at h
  constructor <;> simp only [enH] <;> omega
theorem enH_p {tos id ttl proto : Int} (keep : Bool) (src dst : Nat) (v : Value) (h : ckOk tos id ttl proto) : (enH tos id ttl proto keep src dst).p v = pkV tos id ttl proto keep src dst v := by
  unfold ckOk inB at h
  unfold Hd.p enH
  simp only
  rw [Int.toNat_of_nonneg (by omega), Int.toNat_of_nonneg (by omega), Int.toNat_of_nonneg (by omega), Int.toNat_of_nonneg (by omega)]
def EnRes (w : World) (tos id ttl proto : Int) (keep : Bool) (src dst : Nat) (d : List Nat) (e : Ending) (w' : World) : Prop :=
  ∃ v', e = .returned (.tuple #[v', .int .i64 (enE tos id ttl proto d.length)]) ∧ OwB w.heap.size w' v' (enL tos id ttl proto keep src dst d) ∧ Gr w w'
theorem encode_res {p : Nat → Prop} {v : Value} {d : List Nat} (tos id ttl proto : Int) (keep : Bool) (src dst : Nat) (w : World) (hr : Rb p w v d) (hs : src < 4294967296) (hd : dst < 4294967296) (hl : d.length ≤ 100000) :
    Calls Try.prog 8 #[pkV tos id ttl proto keep src dst v] w (EnRes w tos id ttl proto keep src dst d) := by
  by_cases h1 : ckOk tos id ttl proto
  · by_cases h2 : 1480 < d.length
    · obtain ⟨a, c, rfl, -, -⟩ := hr.form
      refine (encode_long keep src dst a d.length c w h1 h2 (by omega)).mono ?_
      rintro e w' ⟨rfl, hg⟩
      refine ⟨_, by unfold enE; rw [if_pos h1, if_pos h2], ?_, hg⟩
      unfold enL; rw [if_neg (fun k => by have := k.2; omega)]
      exact OwB.nil _ _
    · have h := encode_ok (enH tos id ttl proto keep src dst) (enH_ok keep h1 hs hd) w hr (by omega)
      rw [enH_p keep src dst v h1] at h
      refine h.mono ?_
      rintro e w' ⟨v', rfl, ho, hg⟩
      refine ⟨_, by unfold enE; rw [if_pos h1, if_neg h2], ?_, hg⟩
      unfold enL; rw [if_pos ⟨h1, by omega⟩]
      exact ho
  · obtain ⟨a, c, rfl, -, -⟩ := hr.form
    refine (encode_bad keep src dst a d.length c w h1).mono ?_
    rintro e w' ⟨rfl, hg⟩
    refine ⟨_, by unfold enE; rw [if_neg h1], ?_, hg⟩
    unfold enL; rw [if_neg (fun k => h1 k.1)]
    exact OwB.nil _ _
theorem rencode_res {p : Nat → Prop} {v : Value} {d : List Nat} (tos id ttl proto : Int) (keep : Bool) (src dst : Nat) (w : World) (hr : Rb p w v d) (hs : src < 4294967296) (hd : dst < 4294967296) (hl : d.length ≤ 100000) :
    Calls Try.prog 9 #[pkV tos id ttl proto keep src dst v] w (EnRes w tos id ttl proto keep src dst d) := by
  by_cases h1 : ckOk tos id ttl proto
  · by_cases h2 : 1480 < d.length
    · obtain ⟨a, c, rfl, -, -⟩ := hr.form
      refine (rencode_long keep src dst a d.length c w h1 h2 (by omega)).mono ?_
      rintro e w' ⟨rfl, hg⟩
      refine ⟨_, by unfold enE; rw [if_pos h1, if_pos h2], ?_, hg⟩
      unfold enL; rw [if_neg (fun k => by have := k.2; omega)]
      exact OwB.nil _ _
    · have h := rencode_ok (enH tos id ttl proto keep src dst) (enH_ok keep h1 hs hd) w hr (by omega)
      rw [enH_p keep src dst v h1] at h
      refine h.mono ?_
      rintro e w' ⟨v', rfl, ho, hg⟩
      refine ⟨_, by unfold enE; rw [if_pos h1, if_neg h2], ?_, hg⟩
      unfold enL; rw [if_pos ⟨h1, by omega⟩]
      exact ho
  · obtain ⟨a, c, rfl, -, -⟩ := hr.form
    refine (rencode_bad keep src dst a d.length c w h1).mono ?_
    rintro e w' ⟨rfl, hg⟩
    refine ⟨_, by unfold enE; rw [if_neg h1], ?_, hg⟩
    unfold enL; rw [if_neg (fun k => h1 k.1)]
    exact OwB.nil _ _
end Go.Proofs.Ytcpaphehhjnemaa
