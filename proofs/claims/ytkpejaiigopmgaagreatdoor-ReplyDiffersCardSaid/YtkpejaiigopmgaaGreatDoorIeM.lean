/- The package ipv4: Encode. -/
import Derived.Test.YtkpejaiigopmgaaGreatDoorIhM
import Derived.Test.YtkpejaiigopmgaaGreatDoorGD
import Derived.WalkKit
import Derived.WalkSpells
import Derived.WalkLawsBesides
import Derived.WalkSmall
import Derived.Handy
import Derived.BigQuiet
import Derived.Deep.QuietTactic
import Derived.Deep.RegionHeld3
import Derived.Deep.DeepFit
import Derived.Below
import Derived.Lib.Hide
import Derived.Lib.QuietBelow
namespace Go.Proofs.YtkpejaiigopmgaaGreatDoor
open Go Go.RowKit Go.Sort
set_option maxRecDepth 100000
set_option linter.unusedVariables false
/-- a packet as a value -/
def pkV (tos id ttl proto : Int) (keep : Bool) (src dst : Int) (v : Value) : Value := .agg #[.int .i64 tos, .int .i64 id, .int .i64 ttl, .int .i64 proto, .bool keep, .int .u32 src, .int .u32 dst, v]
def Hd.p (h : Hd) (v : Value) : Value := pkV h.tos h.id h.ttl h.proto h.keep h.src h.dst v
/-- a packet in a block -/
def C8 (w : World) (g : Nat) (tos id ttl proto : Int) (keep : Bool) (src dst : Int) (v : Value) : Prop :=
  w.cell? ⟨g, 0, none⟩ = some (.int .i64 tos) ∧ w.cell? ⟨g, 1, none⟩ = some (.int .i64 id) ∧ w.cell? ⟨g, 2, none⟩ = some (.int .i64 ttl) ∧ w.cell? ⟨g, 3, none⟩ = some (.int .i64 proto) ∧
  w.cell? ⟨g, 4, none⟩ = some (.bool keep) ∧ w.cell? ⟨g, 5, none⟩ = some (.int .u32 src) ∧ w.cell? ⟨g, 6, none⟩ = some (.int .u32 dst) ∧ w.cell? ⟨g, 7, none⟩ = some v
theorem C8.gr {w w' : World} {g : Nat} {a b c d : Int} {e : Bool} {f i : Int} {v : Value} (h : C8 w g a b c d e f i v) (k : Gr w w') : C8 w' g a b c d e f i v := by
  obtain ⟨h0, h1, h2, h3, h4, h5, h6, h7⟩ := h
  have hl := World.block_lt_of_cell? _ _ h0
  have hc := (Gr.cells k).1
  exact ⟨by rw [hc _ _ hl]; exact h0, by rw [hc _ _ hl]; exact h1, by rw [hc _ _ hl]; exact h2, by rw [hc _ _ hl]; exact h3, by rw [hc _ _ hl]; exact h4, by rw [hc _ _ hl]; exact h5, by rw [hc _ _ hl]; exact h6, by rw [hc _ _ hl]; exact h7⟩
theorem C8.new (w : World) (a b c d : Int) (e : Bool) (f i : Int) (v : Value) (T : TypeId) (g : Nat) (hg : g = w.heap.size) : C8 (w.alloc (.cells #[.int .i64 a, .int .i64 b, .int .i64 c, .int .i64 d, .bool e, .int .u32 f, .int .u32 i, v] T)) g a b c d e f i v := by
  subst hg
  exact ⟨by simp, by simp, by simp, by simp, by simp, by simp, by simp, by simp⟩
theorem encode_bad {tos id ttl proto : Int} (keep : Bool) (src dst : Int) (a : Option Addr) (n c : Nat) (w : World) (hn : ¬ ckOk tos id ttl proto) :
    Calls Tryz.prog 27 #[pkV tos id ttl proto keep src dst (.slice a n c)] w fun e w' => e = .returned (.tuple #[.slice none 0 0, .int .i64 1]) ∧ Gr w w' := by
  have HK := Lib.hid (fun w => check_any tos id ttl proto keep src dst w)
  rw [ckE_no hn] at HK
  clear hn
  unfold pkV hdV at *
  go_enter Tryz.func27, Tryz.ntmps27
  go_wp2_with fail
  refine (HK.out _).mono ?_
  rintro e w1 ⟨rfl, hg⟩
  go_wp2_with fail
  go_ret2
  exact ⟨rfl, (Gr.alloc (Gr.refl w) _).step hg⟩
theorem encode_long {tos id ttl proto : Int} (keep : Bool) (src dst : Int) (a : Option Addr) (n c : Nat) (w : World) (hn : ckOk tos id ttl proto) (hl : 1480 < n) (hm : n ≤ 9223372036854775807) :
    Calls Tryz.prog 27 #[pkV tos id ttl proto keep src dst (.slice a n c)] w fun e w' => e = .returned (.tuple #[.slice none 0 0, .int .i64 5]) ∧ Gr w w' := by
  have HK := Lib.hid (fun w => check_any tos id ttl proto keep src dst w)
  rw [ckE_yes hn] at HK
  clear hn
  have d1 : decide ((1480 : Int) < (n : Int)) = true := by rw [decide_eq_true_eq]; omega
  have HC := Lib.hid (C8.new w tos id ttl proto keep src dst (.slice a n c) 55 _ rfl)
  unfold pkV hdV at *
  go_enter Tryz.func27, Tryz.ntmps27
  go_wp2_with fail
  refine (HK.out _).mono ?_
  rintro e w1 ⟨rfl, hg⟩
  have hC := HC.out.gr hg
  obtain ⟨q0, q1, q2, q3, q4, q5, q6, q7⟩ := hC
  go_wp2_with fail
  go_ret2
  exact ⟨rfl, (Gr.alloc (Gr.refl w) _).step hg⟩
theorem ckOk_of {h : Hd} (k : h.ok) : ckOk h.tos h.id h.ttl h.proto := by
  have := k.tos; have := k.id; have := k.ttl; have := k.proto
  unfold ckOk inB; omega
set_option maxHeartbeats 400000 in
theorem encode_ok {p : Nat → Prop} {v : Value} {d : List Nat} (h : Hd) (k : h.ok) (w : World) (hr : Rb p w v d) (hl : d.length ≤ 1480) :
    Calls Tryz.prog 27 #[h.p v] w fun e w' => ∃ v', e = .returned (.tuple #[v', .int .i64 0]) ∧ OwB w.heap.size w' v' (hbytes h (20 + d.length) ++ d) ∧ Gr w w' := by
  obtain ⟨a, cap, rfl, hcap, hmx⟩ := hr.form
  have HK := Lib.hid (fun w => check_any h.tos h.id h.ttl h.proto h.keep h.src h.dst w)
  rw [ckE_yes (ckOk_of k)] at HK
  obtain ⟨N, hN⟩ : ∃ N, N = 20 + d.length := ⟨_, rfl⟩
  rw [← hN]
  have HHD := Lib.hid (fun w => header_any h k N (by omega) w)
  have HR := Lib.hid hr
  have d1 : decide ((1480 : Int) < (d.length : Int)) = false := by rw [decide_eq_false_iff_not]; omega
  have HC := Lib.hid (C8.new w h.tos h.id h.ttl h.proto h.keep h.src h.dst (.slice a d.length cap) 55 _ rfl)
  have e20 : (20 : Int) + (d.length : Int) = (N : Int) := by omega
  have KO := Lib.hid (hbytes_len h N)
  have HN := Lib.hid hN
  have eW : IntKind.i64.wrap (N : Int) = (N : Int) := by rw [IntWalk.i64_in _ (by omega)]
  clear hr k hN
  unfold Hd.p pkV Hd.v hdV at *
  go_enter Tryz.func27, Tryz.ntmps27
  go_wp2_with fail
  refine (HK.out _).mono ?_
  rintro e w1 ⟨rfl, hg⟩
  have HC := Lib.hid (HC.out.gr hg)
  obtain ⟨q0, q1, q2, q3, q4, q5, q6, q7⟩ := HC.out
  have hG := (Gr.alloc (Gr.refl w) _).step hg
  clear hg HK
  go_wp2_with fail
  clear q0 q1 q2 q3 q4 q5 q6 q7
  have hS : Gr w1 w1.drew := Gr.drew (Gr.refl _)
  refine region_plain (Gr w1) (by kernel_rfl) ?_
  refine take_at 0 (some 15) (v := ?v0) rfl rfl (by kernel_rfl) (by kernel_rfl) (by kernel_rfl) (by rfl) ?y0 hS ?t0
  case y0 =>
    intro w' hSw
    obtain ⟨q0, q1, q2, q3, q4, q5, q6, q7⟩ := HC.out.gr hSw
    go_simp
    (try with_reducible rfl)
  simp only [Act.put, List.setIfInBounds_toArray, List.set_cons_zero, List.set_cons_succ]
  refine take_at 1 (some 16) (v := ?v1) rfl rfl (by kernel_rfl) (by kernel_rfl) (by kernel_rfl) (by rfl) ?y1 hS ?t1
  case y1 =>
    intro w' hSw
    obtain ⟨q0, q1, q2, q3, q4, q5, q6, q7⟩ := HC.out.gr hSw
    go_simp
    (try with_reducible rfl)
  simp only [Act.put, List.setIfInBounds_toArray, List.set_cons_zero, List.set_cons_succ]
  refine take_at 2 (some 17) (v := ?v2) rfl rfl (by kernel_rfl) (by kernel_rfl) (by kernel_rfl) (by rfl) ?y2 hS ?t2
  case y2 =>
    intro w' hSw
    obtain ⟨q0, q1, q2, q3, q4, q5, q6, q7⟩ := HC.out.gr hSw
    go_simp
    (try with_reducible rfl)
  simp only [Act.put, List.setIfInBounds_toArray, List.set_cons_zero, List.set_cons_succ]
  refine take_at 3 (some 18) (v := ?v3) rfl rfl (by kernel_rfl) (by kernel_rfl) (by kernel_rfl) (by rfl) ?y3 hS ?t3
  case y3 =>
    intro w' hSw
    obtain ⟨q0, q1, q2, q3, q4, q5, q6, q7⟩ := HC.out.gr hSw
    go_simp
    (try with_reducible rfl)
  simp only [Act.put, List.setIfInBounds_toArray, List.set_cons_zero, List.set_cons_succ]
  refine take_at 4 (some 19) (v := ?v4) rfl rfl (by kernel_rfl) (by kernel_rfl) (by kernel_rfl) (by rfl) ?y4 hS ?t4
  case y4 =>
    intro w' hSw
    obtain ⟨q0, q1, q2, q3, q4, q5, q6, q7⟩ := HC.out.gr hSw
    go_simp
    (try with_reducible rfl)
  simp only [Act.put, List.setIfInBounds_toArray, List.set_cons_zero, List.set_cons_succ]
  refine take_at 5 (some 20) (v := ?v5) rfl rfl (by kernel_rfl) (by kernel_rfl) (by kernel_rfl) (by rfl) ?y5 hS ?t5
  case y5 =>
    intro w' hSw
    obtain ⟨q0, q1, q2, q3, q4, q5, q6, q7⟩ := HC.out.gr hSw
    go_simp
    (try with_reducible rfl)
  simp only [Act.put, List.setIfInBounds_toArray, List.set_cons_zero, List.set_cons_succ]
  refine take_at 7 (some 22) (v := ?v7) rfl rfl (by kernel_rfl) (by kernel_rfl) (by kernel_rfl) (by rfl) ?y7 hS ?t7
  case y7 =>
    intro w' hSw
    obtain ⟨q0, q1, q2, q3, q4, q5, q6, q7⟩ := HC.out.gr hSw
    go_simp
    (try with_reducible rfl)
  simp only [Act.put, List.setIfInBounds_toArray, List.set_cons_zero, List.set_cons_succ]
  refine take_at 8 (some 23) (v := ?v8) rfl rfl (by kernel_rfl) (by kernel_rfl) (by kernel_rfl) (by rfl) ?y8 hS ?t8
  case y8 =>
    intro w' hSw
    obtain ⟨q0, q1, q2, q3, q4, q5, q6, q7⟩ := HC.out.gr hSw
    go_simp
    (try with_reducible rfl)
  simp only [Act.put, List.setIfInBounds_toArray, List.set_cons_zero, List.set_cons_succ]
  refine next_at 6 rfl (by kernel_rfl) (by rfl) (fun K hK => ?_)
  go_simp
  refine (HHD.out _).mono ?_
  rintro e w2 ⟨vh, rfl, hvh, hg2⟩
  have hS2 := Gr.step (Gr.drew (Gr.refl w1)) hg2
  have hsz := Gr.size hG
  have HV := Lib.hid (hvh.rb)
  obtain ⟨gh, ch, rfl, -, -, -⟩ := hvh.form (by rw [KO.out]; omega)
  rw [KO.out] at HV ⊢
  refine hK _ _ hS2 ?_
  clear hK K hvh hS
  have hS := hS2
  refine next_at 9 rfl (by kernel_rfl) (by rfl) (fun K hK => ?_)
  go_simp
  have hS3 := hS.alloc (.cells #[.slice (some ⟨gh, 0, none⟩) 20 ch, .slice a d.length cap] 22)
  refine hK _ _ hS3 ?_
  clear hK K
  have hcc := two_cells w2 (.slice (some ⟨gh, 0, none⟩) 20 ch) (.slice a d.length cap) 22
  have HCC := Lib.hid (concat_two (p := fun _ => True) (q := fun _ => True) (v1 := .slice (some ⟨gh, 0, none⟩) 20 ch) (v2 := .slice a d.length cap) (l1 := hbytes h N) (l2 := d) w2.heap.size 2 (w2.alloc (.cells #[.slice (some ⟨gh, 0, none⟩) 20 ch, .slice a d.length cap] 22)) (HV.out.any.gr (Gr.alloc (Gr.refl _) _)) (HR.out.any.gr (hG.step hS3)) (by rw [KO.out]; omega) (by omega) (by rw [KO.out]; omega) (by simp) (by simp))
  refine next_at 10 rfl (by kernel_rfl) (by rfl) (fun K hK => ?_)
  go_simp
  refine HCC.out.mono ?_
  rintro e w4 ⟨v4, rfl, ho4, hg4⟩
  have HO4 := Lib.hid (ho4.base (b := w.heap.size) (by have := Gr.size hS; simp; omega))
  have hS4 := Gr.step hS3 hg4
  have hG4 := hG.step hS4
  refine hK _ _ hS4 ?_
  clear hK K HCC hcc ho4 hS hS2 hS3 hg4 HV
  have hS := hS4
  refine next_at 11 rfl (by kernel_rfl) (by rfl) (fun K hK => ?_)
  go_simp
  refine hK _ _ hS ?_
  clear hK K
  refine next_at 12 rfl (by kernel_rfl) (by rfl) (fun K hK => ?_)
  go_simp
  refine hK _ _ hS ?_
  clear hK K
  refine wpAnyH_done (by kernel_rfl) ?_ _
  refine qz_normal ?_
  go_wp2_with fail
  go_ret2
  exact ⟨_, rfl, HO4.out, hG4⟩
end Go.Proofs.YtkpejaiigopmgaaGreatDoor
