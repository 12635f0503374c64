/- Several texts in one. -/
import Derived.Test.YtkpejaiigopmgaaGreatDoorGL
import Derived.Test.YtkpejaiigopmgaaGreatDoorIhM
import Derived.Test.YtkpejaiigopmgaaGreatDoorGD
import Derived.Test.YtkpejaiigopmgaaGreatDoorGC
import Derived.WalkKit
import Derived.WalkSpells
import Derived.WalkLawsBesides
import Derived.WalkSmall
import Derived.Handy
import Derived.BigQuiet
import Derived.Deep.QuietTactic
import Derived.Deep.RegionHeld3
import Derived.Deep.DeepFit
import Derived.Below
import Derived.Lib.Hide
import Derived.Lib.QuietBelow
import Derived.Test.YtkpejaiigopmgaaGreatDoorIkM
import Derived.Test.YtkpejaiigopmgaaGreatDoorGE
/- The document's header. -/
namespace Go.Proofs.YtkpejaiigopmgaaGreatDoor
open Go Go.RowKit Go.Sort
set_option maxRecDepth 100000
set_option linter.unusedVariables false
def rhB (h : Hd) (n : Nat) : List Nat := [] ++ bput 69 1 ++ bput h.tos 1 ++ bput n 2 ++ bput h.id 2 ++ bput h.fl 2 ++ bput h.ttl 1 ++ bput h.proto 1
def rhT (h : Hd) : List Nat := [] ++ bput h.src 4 ++ bput h.dst 4
theorem rh_fin {h : Hd} (k : h.ok) (n s : Nat) : rhB h n ++ bput s 2 ++ rhT h = hraw h n s := by
  have := k.tos; have := k.ttl; have := k.proto
  simp only [rhB, rhT, bput, hraw, List.cons_append, List.nil_append, Nat.pow_zero, Nat.div_one]
  rw [Nat.mod_eq_of_lt (show h.tos < 256 by omega), Nat.mod_eq_of_lt (show h.ttl < 256 by omega), Nat.mod_eq_of_lt (show h.proto < 256 by omega)]
theorem rh_raw {h : Hd} (k : h.ok) (n : Nat) : rhB h n ++ ([0, 0] ++ rhT h) = hraw h n 0 := by
  rw [← rh_fin k n 0, List.append_assoc]; rfl
theorem rhB_len (h : Hd) (n : Nat) : (rhB h n).length = 10 := by simp [rhB, bput_len]
theorem rhT_len (h : Hd) : (rhT h).length = 8 := by simp [rhT, bput_len]
theorem owb_zeros (w : World) : OwB w.heap.size (w.alloc (.cells #[.int .u8 0, .int .u8 0] 5)) (.slice (some ⟨w.heap.size, 0, none⟩) 2 2) [0, 0] := by
  have h := World.ownsRow_lit (base := w.heap.size) (e := 5) (size := 1) w #[.int .u8 0, .int .u8 0] 2 (Nat.le_refl _) (by unfold maxLen; omega) (by simp)
  exact ⟨h, fun y hy => by simp at hy; omega⟩
set_option maxHeartbeats 1000000 in
theorem rheader_any (h : Hd) (k : h.ok) (n : Nat) (hn : n < 65536) (w : World) :
    Calls Tryz.prog 68 #[h.v, .int .i64 n] w fun e w' => ∃ v', e = .returned v' ∧ OwB w.heap.size w' v' (hbytes h n) ∧ Gr w w' := by
  have k1 := k.src
  have k2 := k.dst
  have k3 := k.tos
  have k4 := k.id
  have k5 := k.ttl
  have k6 := k.proto
  have K := Lib.hid k
  clear k
  cases hk : h.keep with
  | false =>
    have hC := CL.new w [.int .i64 h.tos, .int .i64 h.id, .int .i64 h.ttl, .int .i64 h.proto, .bool false, .int .u32 h.src, .int .u32 h.dst] 52 _ rfl
    have hG := Gr.alloc (Gr.refl w) (.cells #[.int .i64 h.tos, .int .i64 h.id, .int .i64 h.ttl, .int .i64 h.proto, .bool false, .int .u32 h.src, .int .u32 h.dst] 52)
    have HFL := Lib.hid (show h.fl = 0 by unfold Hd.fl; rw [hk]; rfl)
    unfold Hd.v hdV
    rw [hk]
    clear hk
    obtain ⟨l0, hl0⟩ : ∃ l : List Nat, l = [] := ⟨_, rfl⟩
    have hlen : l0.length = 0 := by rw [hl0]; rfl
    have HN := Lib.hid (fun w : World => (by rw [hl0]; exact Rb.nil _ _ : Rb (fun _ => True) w (.slice none 0 0) l0))
    go_enter Tryz.func68, Tryz.ntmps68
    obtain ⟨⟨x0, x1, x2, x3, x4, x5, x6⟩, -⟩ := hC.seven
    go_wp2_with fail
    clear x0 x1 x2 x3 x4 x5 x6
    refine (rpush_any 69 1 _ (HN.out _) (by rw [hlen]; omega) (by omega) (by omega) (by decide)).mono ?_
    rintro e w1 ⟨v1, rfl, ho, hg⟩
    have hG := hG.step hg
    have hC := hC.gr hg
    have hlen1 : (l0 ++ bput 69 1).length = 1 := by rw [List.length_append, bput_len, hlen]
    obtain ⟨l1, hl1⟩ : ∃ l', l' = l0 ++ bput 69 1 := ⟨_, rfl⟩
    rw [← hl1] at ho hlen1
    have HO := Lib.hid ho
    obtain ⟨a1, c1, rfl, -, -⟩ := ho.rb.form
    clear hlen hg ho
    have hlen := hlen1
    clear hlen1
    rw [hlen] at HO ⊢
    obtain ⟨⟨x0, x1, x2, x3, x4, x5, x6⟩, -⟩ := hC.seven
    go_wp2_with fail
    clear x0 x1 x2 x3 x4 x5 x6
    refine (rpush_any h.tos 1 _ HO.out.rb (by rw [hlen]; omega) (by omega) (by omega) (by show h.tos < 256; omega)).mono ?_
    rintro e w1 ⟨v1, rfl, ho, hg⟩
    have hG := hG.step hg
    have hC := hC.gr hg
    have hlen1 : (l1 ++ bput h.tos 1).length = 2 := by rw [List.length_append, bput_len, hlen]
    obtain ⟨l2, hl2⟩ : ∃ l', l' = l1 ++ bput h.tos 1 := ⟨_, rfl⟩
    rw [← hl2] at ho hlen1
    have HO := Lib.hid ho
    obtain ⟨a1, c1, rfl, -, -⟩ := ho.rb.form
    clear hlen hg ho
    have hlen := hlen1
    clear hlen1
    rw [hlen] at HO ⊢
    obtain ⟨⟨x0, x1, x2, x3, x4, x5, x6⟩, -⟩ := hC.seven
    go_wp2_with fail
    clear x0 x1 x2 x3 x4 x5 x6
    refine (rpush_any n 2 _ HO.out.rb (by rw [hlen]; omega) (by omega) (by omega) (hn)).mono ?_
    rintro e w1 ⟨v1, rfl, ho, hg⟩
    have hG := hG.step hg
    have hC := hC.gr hg
    have hlen1 : (l2 ++ bput n 2).length = 4 := by rw [List.length_append, bput_len, hlen]
    obtain ⟨l3, hl3⟩ : ∃ l', l' = l2 ++ bput n 2 := ⟨_, rfl⟩
    rw [← hl3] at ho hlen1
    have HO := Lib.hid ho
    obtain ⟨a1, c1, rfl, -, -⟩ := ho.rb.form
    clear hlen hg ho
    have hlen := hlen1
    clear hlen1
    rw [hlen] at HO ⊢
    obtain ⟨⟨x0, x1, x2, x3, x4, x5, x6⟩, -⟩ := hC.seven
    go_wp2_with fail
    clear x0 x1 x2 x3 x4 x5 x6
    refine (rpush_any h.id 2 _ HO.out.rb (by rw [hlen]; omega) (by omega) (by omega) (by show h.id < 65536; omega)).mono ?_
    rintro e w1 ⟨v1, rfl, ho, hg⟩
    have hG := hG.step hg
    have hC := hC.gr hg
    have hlen1 : (l3 ++ bput h.id 2).length = 6 := by rw [List.length_append, bput_len, hlen]
    obtain ⟨l4, hl4⟩ : ∃ l', l' = l3 ++ bput h.id 2 := ⟨_, rfl⟩
    rw [← hl4] at ho hlen1
    have HO := Lib.hid ho
    obtain ⟨a1, c1, rfl, -, -⟩ := ho.rb.form
    clear hlen hg ho
    have hlen := hlen1
    clear hlen1
    rw [hlen] at HO ⊢
    obtain ⟨⟨x0, x1, x2, x3, x4, x5, x6⟩, -⟩ := hC.seven
    go_wp2_with fail
    clear x0 x1 x2 x3 x4 x5 x6
    refine (rpush_any 0 2 _ HO.out.rb (by rw [hlen]; omega) (by omega) (by omega) (by decide)).mono ?_
    rintro e w1 ⟨v1, rfl, ho, hg⟩
    have hG := hG.step hg
    have hC := hC.gr hg
    have hlen1 : (l4 ++ bput 0 2).length = 8 := by rw [List.length_append, bput_len, hlen]
    obtain ⟨l5, hl5⟩ : ∃ l', l' = l4 ++ bput 0 2 := ⟨_, rfl⟩
    rw [← hl5] at ho hlen1
    have HO := Lib.hid ho
    obtain ⟨a1, c1, rfl, -, -⟩ := ho.rb.form
    clear hlen hg ho
    have hlen := hlen1
    clear hlen1
    rw [hlen] at HO ⊢
    obtain ⟨⟨x0, x1, x2, x3, x4, x5, x6⟩, -⟩ := hC.seven
    go_wp2_with fail
    clear x0 x1 x2 x3 x4 x5 x6
    refine (rpush_any h.ttl 1 _ HO.out.rb (by rw [hlen]; omega) (by omega) (by omega) (by show h.ttl < 256; omega)).mono ?_
    rintro e w1 ⟨v1, rfl, ho, hg⟩
    have hG := hG.step hg
    have hC := hC.gr hg
    have hlen1 : (l5 ++ bput h.ttl 1).length = 9 := by rw [List.length_append, bput_len, hlen]
    obtain ⟨l6, hl6⟩ : ∃ l', l' = l5 ++ bput h.ttl 1 := ⟨_, rfl⟩
    rw [← hl6] at ho hlen1
    have HO := Lib.hid ho
    obtain ⟨a1, c1, rfl, -, -⟩ := ho.rb.form
    clear hlen hg ho
    have hlen := hlen1
    clear hlen1
    rw [hlen] at HO ⊢
    obtain ⟨⟨x0, x1, x2, x3, x4, x5, x6⟩, -⟩ := hC.seven
    go_wp2_with fail
    clear x0 x1 x2 x3 x4 x5 x6
    have hbase0 := Gr.size hG
    refine (rpush_any h.proto 1 _ HO.out.rb (by rw [hlen]; omega) (by omega) (by omega) (by show h.proto < 256; omega)).mono ?_
    rintro e w1 ⟨v1, rfl, ho, hg⟩
    have hG := hG.step hg
    have hC := hC.gr hg
    have hlen1 : (l6 ++ bput h.proto 1).length = 10 := by rw [List.length_append, bput_len, hlen]
    obtain ⟨l7, hl7⟩ : ∃ l', l' = l6 ++ bput h.proto 1 := ⟨_, rfl⟩
    rw [← hl7] at ho hlen1
    have HO := Lib.hid ho
    obtain ⟨a1, c1, rfl, -, -⟩ := ho.rb.form
    clear hlen hg ho
    have hlen := hlen1
    clear hlen1
    rw [hlen] at HO ⊢
    go_wp2_with fail
    have HB7 : Hid (l7 = rhB h n) := Lib.hid (by rw [hl7, hl6, hl5, hl4, hl3, hl2, hl1, hl0, ← HFL.out]; rfl)
    rw [HB7.out] at HO
    clear hl0 hl1 hl2 hl3 hl4 hl5 hl6 hl7 hlen HN
    have HC := Lib.hid hC
    have HOB := Lib.hid (HO.out.base hbase0)
    clear hC
    have eW1 : IntKind.i64.wrap (h.src : Int) = (h.src : Int) := by rw [IntWalk.i64_in _ (by omega)]
    have eW2 : IntKind.i64.wrap (h.dst : Int) = (h.dst : Int) := by rw [IntWalk.i64_in _ (by omega)]
    have hS : Gr w1 w1.drew := Gr.drew (Gr.refl _)
    refine region_plain (Gr w1) (by kernel_rfl) ?_
    refine take_at 0 (some 34) (v := ?vfalse0) rfl rfl (by kernel_rfl) (by kernel_rfl) (by kernel_rfl) (by rfl) ?yfalse0 hS ?tfalse0
    case yfalse0 =>
      intro w' hSw
      obtain ⟨⟨q0, q1, q2, q3, q4, q5, q6⟩, -⟩ := (HC.out.gr hSw).seven
      go_simp
      (try with_reducible rfl)
    simp only [Act.put, List.setIfInBounds_toArray, List.set_cons_zero, List.set_cons_succ]
    refine take_at 1 (some 35) (v := ?vfalse1) rfl rfl (by kernel_rfl) (by kernel_rfl) (by kernel_rfl) (by rfl) ?yfalse1 hS ?tfalse1
    case yfalse1 =>
      intro w' hSw
      obtain ⟨⟨q0, q1, q2, q3, q4, q5, q6⟩, -⟩ := (HC.out.gr hSw).seven
      go_simp
      (try with_reducible rfl)
    simp only [Act.put, List.setIfInBounds_toArray, List.set_cons_zero, List.set_cons_succ]
    refine take_at 2 (some 36) (v := ?vfalse2) rfl rfl (by kernel_rfl) (by kernel_rfl) (by kernel_rfl) (by rfl) ?yfalse2 hS ?tfalse2
    case yfalse2 =>
      intro w' hSw
      obtain ⟨⟨q0, q1, q2, q3, q4, q5, q6⟩, -⟩ := (HC.out.gr hSw).seven
      go_simp
      (try with_reducible rfl)
    simp only [Act.put, List.setIfInBounds_toArray, List.set_cons_zero, List.set_cons_succ]
    refine take_at 4 (some 38) (v := ?vfalse4) rfl rfl (by kernel_rfl) (by kernel_rfl) (by kernel_rfl) (by rfl) ?yfalse4 hS ?tfalse4
    case yfalse4 =>
      intro w' hSw
      obtain ⟨⟨q0, q1, q2, q3, q4, q5, q6⟩, -⟩ := (HC.out.gr hSw).seven
      go_simp
      (try with_reducible rfl)
    simp only [Act.put, List.setIfInBounds_toArray, List.set_cons_zero, List.set_cons_succ]
    refine take_at 5 (some 39) (v := ?vfalse5) rfl rfl (by kernel_rfl) (by kernel_rfl) (by kernel_rfl) (by rfl) ?yfalse5 hS ?tfalse5
    case yfalse5 =>
      intro w' hSw
      obtain ⟨⟨q0, q1, q2, q3, q4, q5, q6⟩, -⟩ := (HC.out.gr hSw).seven
      go_simp
      (try with_reducible rfl)
    simp only [Act.put, List.setIfInBounds_toArray, List.set_cons_zero, List.set_cons_succ]
    refine take_at 6 (some 40) (v := ?vfalse6) rfl rfl (by kernel_rfl) (by kernel_rfl) (by kernel_rfl) (by rfl) ?yfalse6 hS ?tfalse6
    case yfalse6 =>
      intro w' hSw
      obtain ⟨⟨q0, q1, q2, q3, q4, q5, q6⟩, -⟩ := (HC.out.gr hSw).seven
      go_simp
      (try with_reducible rfl)
    simp only [Act.put, List.setIfInBounds_toArray, List.set_cons_zero, List.set_cons_succ]
    refine next_at 3 rfl (by kernel_rfl) (by rfl) (fun K hK => ?_)
    go_simp
    refine (rpush_any h.src 4 _ (Rb.nil (fun _ => True) _) (by simp) (by omega) (by omega) (by show h.src < 4294967296; omega)).mono ?_
    rintro e w2 ⟨v2, rfl, ho2, hg2⟩
    have hS2 := Gr.step hS hg2
    have HS2 := Lib.hid ho2.rb
    obtain ⟨a2, c2, rfl, -, -⟩ := ho2.rb.form
    refine hK _ _ hS2 ?_
    clear hK K hS ho2 hg2
    have hS := hS2
    clear hS2
    refine next_at 7 rfl (by kernel_rfl) (by rfl) (fun K hK => ?_)
    go_simp
    refine (rpush_any h.dst 4 _ HS2.out (by rw [List.length_append, bput_len]; simp) (by omega) (by omega) (by show h.dst < 4294967296; omega)).mono ?_
    rintro e w3 ⟨v3, rfl, ho3, hg3⟩
    have hS3 := Gr.step hS hg3
    have hT : Rb (fun _ => True) w3 v3 (rhT h) := ho3.rb.any
    refine hK _ _ hS3 ?_
    clear hK K hS ho3 hg3 HS2
    have hS := hS3
    clear hS3
    obtain ⟨a3, c3, rfl, -, -⟩ := hT.form
    rw [rhT_len] at hT ⊢
    have HT := Lib.hid hT
    clear hT
    refine next_at 8 rfl (by kernel_rfl) (by rfl) (fun K hK => ?_)
    go_simp
    refine hK _ _ hS ?_
    clear hK K
    refine wpAnyH_done (by kernel_rfl) ?_ _
    refine qz_normal ?_
    have hG3 := hG.step hS
    have HO3 := Lib.hid (HOB.out.gr hS)
    have HLB := Lib.hid (rhB_len h n)
    have HLT := Lib.hid (rhT_len h)
    clear hS
    go_wp2_with (first
      | (at_builtin
         refine wpList_app (base := w3.heap.size) rfl (.const (.slice none 0 0)) (.tmp 42) rfl rfl (OwB.nil _ _) rfl HO3.out.rb (by rw [HLB.out]; simp) (Nat.le_refl _) ?_
         intro v4 w4 ho4 g4
         have hg4 : Gr w3 w4 := Gr.grownNew (Gr.refl _) g4 (fun _ h => by cases h)
         rw [List.nil_append] at ho4
         have HO4 := Lib.hid ho4
         clear ho4 g4)
      | (at_builtin
         refine wpList_app (base := w4.heap.size) rfl (.tmp 44) (.tmp 45) rfl rfl (owb_zeros w4) rfl ((HT.out.gr hg4).gr (Gr.alloc (Gr.refl _) _)) (by rw [HLT.out]; simp) (by simp) ?_
         intro v5 w5 ho5 g5
         have hg5 : Gr w4 w5 := (Gr.alloc (Gr.refl w4) _).grownNew g5 (fun k hk => by cases hk; exact Nat.le_refl _)
         have HO5 := Lib.hid ho5
         clear ho5 g5)
      | (at_builtin
         refine wpList_app (base := w3.heap.size) rfl (.tmp 43) (.tmp 46) rfl rfl (HO4.out.gr hg5) rfl HO5.out.rb (by rw [HLB.out, List.length_append, HLT.out]; simp) (Nat.le_trans (Gr.size hg4) (Gr.size hg5)) ?_
         intro v6 w6 ho6 g6
         have hg6 : Gr w3 w6 := (hg4.step hg5).grownNew g6 HO4.out.above
         have HO6 := Lib.hid ho6
         clear ho6 g6))
    have hrw := HO6.out.rb
    rw [rh_raw K.out] at hrw
    have HCK := Lib.hid (rwchk_any w6 hrw (by rw [hraw_len]; omega))
    have e2 : (65535 : Int) - ((oc (wsum false (hraw h n 0)) : Nat) : Int) = ((hsum h n : Nat) : Int) := by have := oc_le (wsum false (hraw h n 0)); unfold hsum; omega
    rw [e2] at HCK
    have hSm := hsum_le h n
    clear e2 hrw
    refine HCK.out.mono ?_
    rintro e w7 ⟨rfl, rfl⟩
    have HFIN : Hid (rhB h n ++ bput (hsum h n) 2 ++ rhT h = hbytes h n) := Lib.hid (rh_fin K.out n _)
    generalize hsum h n = S at *
    have hsz3 := Gr.size hG3
    go_wp2_with (first
      | (at_builtin
         refine wpList_app (base := w6.heap.size) rfl (.tmp 51) (.tmp 52) rfl rfl ho7 rfl ((HT.out.gr hg6).gr hg7) (by rw [HLT.out, List.length_append, HLB.out, bput_len]; omega) (Gr.size hg7) ?_
         intro v8 w8 ho8 g8
         have hg8 : Gr w6 w8 := hg7.grownNew g8 ho7.above
         have HO8 := Lib.hid ho8
         clear ho8 g8)
      | (go_at_call 69
         refine (rpush_any S 2 _ (HO3.out.rb.gr hg6) (by rw [HLB.out]; omega) (by omega) (by omega) (by show S < 65536; omega)).mono ?_
         rintro e w7 ⟨v7, rfl, ho7, hg7⟩))
    go_ret
    have hf := HO8.out.base (b := w.heap.size) (by have := Gr.size hg6; omega)
    rw [HFIN.out] at hf
    exact ⟨_, rfl, hf, (hG3.step hg6).step hg8⟩
  | true =>
    have hC := CL.new w [.int .i64 h.tos, .int .i64 h.id, .int .i64 h.ttl, .int .i64 h.proto, .bool true, .int .u32 h.src, .int .u32 h.dst] 52 _ rfl
    have hG := Gr.alloc (Gr.refl w) (.cells #[.int .i64 h.tos, .int .i64 h.id, .int .i64 h.ttl, .int .i64 h.proto, .bool true, .int .u32 h.src, .int .u32 h.dst] 52)
    have HFL := Lib.hid (show h.fl = 16384 by unfold Hd.fl; rw [hk]; rfl)
    unfold Hd.v hdV
    rw [hk]
    clear hk
    obtain ⟨l0, hl0⟩ : ∃ l : List Nat, l = [] := ⟨_, rfl⟩
    have hlen : l0.length = 0 := by rw [hl0]; rfl
    have HN := Lib.hid (fun w : World => (by rw [hl0]; exact Rb.nil _ _ : Rb (fun _ => True) w (.slice none 0 0) l0))
    go_enter Tryz.func68, Tryz.ntmps68
    obtain ⟨⟨x0, x1, x2, x3, x4, x5, x6⟩, -⟩ := hC.seven
    go_wp2_with fail
    clear x0 x1 x2 x3 x4 x5 x6
    refine (rpush_any 69 1 _ (HN.out _) (by rw [hlen]; omega) (by omega) (by omega) (by decide)).mono ?_
    rintro e w1 ⟨v1, rfl, ho, hg⟩
    have hG := hG.step hg
    have hC := hC.gr hg
    have hlen1 : (l0 ++ bput 69 1).length = 1 := by rw [List.length_append, bput_len, hlen]
    obtain ⟨l1, hl1⟩ : ∃ l', l' = l0 ++ bput 69 1 := ⟨_, rfl⟩
    rw [← hl1] at ho hlen1
    have HO := Lib.hid ho
    obtain ⟨a1, c1, rfl, -, -⟩ := ho.rb.form
    clear hlen hg ho
    have hlen := hlen1
    clear hlen1
    rw [hlen] at HO ⊢
    obtain ⟨⟨x0, x1, x2, x3, x4, x5, x6⟩, -⟩ := hC.seven
    go_wp2_with fail
    clear x0 x1 x2 x3 x4 x5 x6
    refine (rpush_any h.tos 1 _ HO.out.rb (by rw [hlen]; omega) (by omega) (by omega) (by show h.tos < 256; omega)).mono ?_
    rintro e w1 ⟨v1, rfl, ho, hg⟩
    have hG := hG.step hg
    have hC := hC.gr hg
    have hlen1 : (l1 ++ bput h.tos 1).length = 2 := by rw [List.length_append, bput_len, hlen]
    obtain ⟨l2, hl2⟩ : ∃ l', l' = l1 ++ bput h.tos 1 := ⟨_, rfl⟩
    rw [← hl2] at ho hlen1
    have HO := Lib.hid ho
    obtain ⟨a1, c1, rfl, -, -⟩ := ho.rb.form
    clear hlen hg ho
    have hlen := hlen1
    clear hlen1
    rw [hlen] at HO ⊢
    obtain ⟨⟨x0, x1, x2, x3, x4, x5, x6⟩, -⟩ := hC.seven
    go_wp2_with fail
    clear x0 x1 x2 x3 x4 x5 x6
    refine (rpush_any n 2 _ HO.out.rb (by rw [hlen]; omega) (by omega) (by omega) (hn)).mono ?_
    rintro e w1 ⟨v1, rfl, ho, hg⟩
    have hG := hG.step hg
    have hC := hC.gr hg
    have hlen1 : (l2 ++ bput n 2).length = 4 := by rw [List.length_append, bput_len, hlen]
    obtain ⟨l3, hl3⟩ : ∃ l', l' = l2 ++ bput n 2 := ⟨_, rfl⟩
    rw [← hl3] at ho hlen1
    have HO := Lib.hid ho
    obtain ⟨a1, c1, rfl, -, -⟩ := ho.rb.form
    clear hlen hg ho
    have hlen := hlen1
    clear hlen1
    rw [hlen] at HO ⊢
    obtain ⟨⟨x0, x1, x2, x3, x4, x5, x6⟩, -⟩ := hC.seven
    go_wp2_with fail
    clear x0 x1 x2 x3 x4 x5 x6
    refine (rpush_any h.id 2 _ HO.out.rb (by rw [hlen]; omega) (by omega) (by omega) (by show h.id < 65536; omega)).mono ?_
    rintro e w1 ⟨v1, rfl, ho, hg⟩
    have hG := hG.step hg
    have hC := hC.gr hg
    have hlen1 : (l3 ++ bput h.id 2).length = 6 := by rw [List.length_append, bput_len, hlen]
    obtain ⟨l4, hl4⟩ : ∃ l', l' = l3 ++ bput h.id 2 := ⟨_, rfl⟩
    rw [← hl4] at ho hlen1
    have HO := Lib.hid ho
    obtain ⟨a1, c1, rfl, -, -⟩ := ho.rb.form
    clear hlen hg ho
    have hlen := hlen1
    clear hlen1
    rw [hlen] at HO ⊢
    obtain ⟨⟨x0, x1, x2, x3, x4, x5, x6⟩, -⟩ := hC.seven
    go_wp2_with fail
    clear x0 x1 x2 x3 x4 x5 x6
    refine (rpush_any 16384 2 _ HO.out.rb (by rw [hlen]; omega) (by omega) (by omega) (by decide)).mono ?_
    rintro e w1 ⟨v1, rfl, ho, hg⟩
    have hG := hG.step hg
    have hC := hC.gr hg
    have hlen1 : (l4 ++ bput 16384 2).length = 8 := by rw [List.length_append, bput_len, hlen]
    obtain ⟨l5, hl5⟩ : ∃ l', l' = l4 ++ bput 16384 2 := ⟨_, rfl⟩
    rw [← hl5] at ho hlen1
    have HO := Lib.hid ho
    obtain ⟨a1, c1, rfl, -, -⟩ := ho.rb.form
    clear hlen hg ho
    have hlen := hlen1
    clear hlen1
    rw [hlen] at HO ⊢
    obtain ⟨⟨x0, x1, x2, x3, x4, x5, x6⟩, -⟩ := hC.seven
    go_wp2_with fail
    clear x0 x1 x2 x3 x4 x5 x6
    refine (rpush_any h.ttl 1 _ HO.out.rb (by rw [hlen]; omega) (by omega) (by omega) (by show h.ttl < 256; omega)).mono ?_
    rintro e w1 ⟨v1, rfl, ho, hg⟩
    have hG := hG.step hg
    have hC := hC.gr hg
    have hlen1 : (l5 ++ bput h.ttl 1).length = 9 := by rw [List.length_append, bput_len, hlen]
    obtain ⟨l6, hl6⟩ : ∃ l', l' = l5 ++ bput h.ttl 1 := ⟨_, rfl⟩
    rw [← hl6] at ho hlen1
    have HO := Lib.hid ho
    obtain ⟨a1, c1, rfl, -, -⟩ := ho.rb.form
    clear hlen hg ho
    have hlen := hlen1
    clear hlen1
    rw [hlen] at HO ⊢
    obtain ⟨⟨x0, x1, x2, x3, x4, x5, x6⟩, -⟩ := hC.seven
    go_wp2_with fail
    clear x0 x1 x2 x3 x4 x5 x6
    have hbase0 := Gr.size hG
    refine (rpush_any h.proto 1 _ HO.out.rb (by rw [hlen]; omega) (by omega) (by omega) (by show h.proto < 256; omega)).mono ?_
    rintro e w1 ⟨v1, rfl, ho, hg⟩
    have hG := hG.step hg
    have hC := hC.gr hg
    have hlen1 : (l6 ++ bput h.proto 1).length = 10 := by rw [List.length_append, bput_len, hlen]
    obtain ⟨l7, hl7⟩ : ∃ l', l' = l6 ++ bput h.proto 1 := ⟨_, rfl⟩
    rw [← hl7] at ho hlen1
    have HO := Lib.hid ho
    obtain ⟨a1, c1, rfl, -, -⟩ := ho.rb.form
    clear hlen hg ho
    have hlen := hlen1
    clear hlen1
    rw [hlen] at HO ⊢
    go_wp2_with fail
    have HB7 : Hid (l7 = rhB h n) := Lib.hid (by rw [hl7, hl6, hl5, hl4, hl3, hl2, hl1, hl0, ← HFL.out]; rfl)
    rw [HB7.out] at HO
    clear hl0 hl1 hl2 hl3 hl4 hl5 hl6 hl7 hlen HN
    have HC := Lib.hid hC
    have HOB := Lib.hid (HO.out.base hbase0)
    clear hC
    have eW1 : IntKind.i64.wrap (h.src : Int) = (h.src : Int) := by rw [IntWalk.i64_in _ (by omega)]
    have eW2 : IntKind.i64.wrap (h.dst : Int) = (h.dst : Int) := by rw [IntWalk.i64_in _ (by omega)]
    have hS : Gr w1 w1.drew := Gr.drew (Gr.refl _)
    refine region_plain (Gr w1) (by kernel_rfl) ?_
    refine take_at 0 (some 34) (v := ?vtrue0) rfl rfl (by kernel_rfl) (by kernel_rfl) (by kernel_rfl) (by rfl) ?ytrue0 hS ?ttrue0
    case ytrue0 =>
      intro w' hSw
      obtain ⟨⟨q0, q1, q2, q3, q4, q5, q6⟩, -⟩ := (HC.out.gr hSw).seven
      go_simp
      (try with_reducible rfl)
    simp only [Act.put, List.setIfInBounds_toArray, List.set_cons_zero, List.set_cons_succ]
    refine take_at 1 (some 35) (v := ?vtrue1) rfl rfl (by kernel_rfl) (by kernel_rfl) (by kernel_rfl) (by rfl) ?ytrue1 hS ?ttrue1
    case ytrue1 =>
      intro w' hSw
      obtain ⟨⟨q0, q1, q2, q3, q4, q5, q6⟩, -⟩ := (HC.out.gr hSw).seven
      go_simp
      (try with_reducible rfl)
    simp only [Act.put, List.setIfInBounds_toArray, List.set_cons_zero, List.set_cons_succ]
    refine take_at 2 (some 36) (v := ?vtrue2) rfl rfl (by kernel_rfl) (by kernel_rfl) (by kernel_rfl) (by rfl) ?ytrue2 hS ?ttrue2
    case ytrue2 =>
      intro w' hSw
      obtain ⟨⟨q0, q1, q2, q3, q4, q5, q6⟩, -⟩ := (HC.out.gr hSw).seven
      go_simp
      (try with_reducible rfl)
    simp only [Act.put, List.setIfInBounds_toArray, List.set_cons_zero, List.set_cons_succ]
    refine take_at 4 (some 38) (v := ?vtrue4) rfl rfl (by kernel_rfl) (by kernel_rfl) (by kernel_rfl) (by rfl) ?ytrue4 hS ?ttrue4
    case ytrue4 =>
      intro w' hSw
      obtain ⟨⟨q0, q1, q2, q3, q4, q5, q6⟩, -⟩ := (HC.out.gr hSw).seven
      go_simp
      (try with_reducible rfl)
    simp only [Act.put, List.setIfInBounds_toArray, List.set_cons_zero, List.set_cons_succ]
    refine take_at 5 (some 39) (v := ?vtrue5) rfl rfl (by kernel_rfl) (by kernel_rfl) (by kernel_rfl) (by rfl) ?ytrue5 hS ?ttrue5
    case ytrue5 =>
      intro w' hSw
      obtain ⟨⟨q0, q1, q2, q3, q4, q5, q6⟩, -⟩ := (HC.out.gr hSw).seven
      go_simp
      (try with_reducible rfl)
    simp only [Act.put, List.setIfInBounds_toArray, List.set_cons_zero, List.set_cons_succ]
    refine take_at 6 (some 40) (v := ?vtrue6) rfl rfl (by kernel_rfl) (by kernel_rfl) (by kernel_rfl) (by rfl) ?ytrue6 hS ?ttrue6
    case ytrue6 =>
      intro w' hSw
      obtain ⟨⟨q0, q1, q2, q3, q4, q5, q6⟩, -⟩ := (HC.out.gr hSw).seven
      go_simp
      (try with_reducible rfl)
    simp only [Act.put, List.setIfInBounds_toArray, List.set_cons_zero, List.set_cons_succ]
    refine next_at 3 rfl (by kernel_rfl) (by rfl) (fun K hK => ?_)
    go_simp
    refine (rpush_any h.src 4 _ (Rb.nil (fun _ => True) _) (by simp) (by omega) (by omega) (by show h.src < 4294967296; omega)).mono ?_
    rintro e w2 ⟨v2, rfl, ho2, hg2⟩
    have hS2 := Gr.step hS hg2
    have HS2 := Lib.hid ho2.rb
    obtain ⟨a2, c2, rfl, -, -⟩ := ho2.rb.form
    refine hK _ _ hS2 ?_
    clear hK K hS ho2 hg2
    have hS := hS2
    clear hS2
    refine next_at 7 rfl (by kernel_rfl) (by rfl) (fun K hK => ?_)
    go_simp
    refine (rpush_any h.dst 4 _ HS2.out (by rw [List.length_append, bput_len]; simp) (by omega) (by omega) (by show h.dst < 4294967296; omega)).mono ?_
    rintro e w3 ⟨v3, rfl, ho3, hg3⟩
    have hS3 := Gr.step hS hg3
    have hT : Rb (fun _ => True) w3 v3 (rhT h) := ho3.rb.any
    refine hK _ _ hS3 ?_
    clear hK K hS ho3 hg3 HS2
    have hS := hS3
    clear hS3
    obtain ⟨a3, c3, rfl, -, -⟩ := hT.form
    rw [rhT_len] at hT ⊢
    have HT := Lib.hid hT
    clear hT
    refine next_at 8 rfl (by kernel_rfl) (by rfl) (fun K hK => ?_)
    go_simp
    refine hK _ _ hS ?_
    clear hK K
    refine wpAnyH_done (by kernel_rfl) ?_ _
    refine qz_normal ?_
    have hG3 := hG.step hS
    have HO3 := Lib.hid (HOB.out.gr hS)
    have HLB := Lib.hid (rhB_len h n)
    have HLT := Lib.hid (rhT_len h)
    clear hS
    go_wp2_with (first
      | (at_builtin
         refine wpList_app (base := w3.heap.size) rfl (.const (.slice none 0 0)) (.tmp 42) rfl rfl (OwB.nil _ _) rfl HO3.out.rb (by rw [HLB.out]; simp) (Nat.le_refl _) ?_
         intro v4 w4 ho4 g4
         have hg4 : Gr w3 w4 := Gr.grownNew (Gr.refl _) g4 (fun _ h => by cases h)
         rw [List.nil_append] at ho4
         have HO4 := Lib.hid ho4
         clear ho4 g4)
      | (at_builtin
         refine wpList_app (base := w4.heap.size) rfl (.tmp 44) (.tmp 45) rfl rfl (owb_zeros w4) rfl ((HT.out.gr hg4).gr (Gr.alloc (Gr.refl _) _)) (by rw [HLT.out]; simp) (by simp) ?_
         intro v5 w5 ho5 g5
         have hg5 : Gr w4 w5 := (Gr.alloc (Gr.refl w4) _).grownNew g5 (fun k hk => by cases hk; exact Nat.le_refl _)
         have HO5 := Lib.hid ho5
         clear ho5 g5)
      | (at_builtin
         refine wpList_app (base := w3.heap.size) rfl (.tmp 43) (.tmp 46) rfl rfl (HO4.out.gr hg5) rfl HO5.out.rb (by rw [HLB.out, List.length_append, HLT.out]; simp) (Nat.le_trans (Gr.size hg4) (Gr.size hg5)) ?_
         intro v6 w6 ho6 g6
         have hg6 : Gr w3 w6 := (hg4.step hg5).grownNew g6 HO4.out.above
         have HO6 := Lib.hid ho6
         clear ho6 g6))
    have hrw := HO6.out.rb
    rw [rh_raw K.out] at hrw
    have HCK := Lib.hid (rwchk_any w6 hrw (by rw [hraw_len]; omega))
    have e2 : (65535 : Int) - ((oc (wsum false (hraw h n 0)) : Nat) : Int) = ((hsum h n : Nat) : Int) := by have := oc_le (wsum false (hraw h n 0)); unfold hsum; omega
    rw [e2] at HCK
    have hSm := hsum_le h n
    clear e2 hrw
    refine HCK.out.mono ?_
    rintro e w7 ⟨rfl, rfl⟩
    have HFIN : Hid (rhB h n ++ bput (hsum h n) 2 ++ rhT h = hbytes h n) := Lib.hid (rh_fin K.out n _)
    generalize hsum h n = S at *
    have hsz3 := Gr.size hG3
    go_wp2_with (first
      | (at_builtin
         refine wpList_app (base := w6.heap.size) rfl (.tmp 51) (.tmp 52) rfl rfl ho7 rfl ((HT.out.gr hg6).gr hg7) (by rw [HLT.out, List.length_append, HLB.out, bput_len]; omega) (Gr.size hg7) ?_
         intro v8 w8 ho8 g8
         have hg8 : Gr w6 w8 := hg7.grownNew g8 ho7.above
         have HO8 := Lib.hid ho8
         clear ho8 g8)
      | (go_at_call 69
         refine (rpush_any S 2 _ (HO3.out.rb.gr hg6) (by rw [HLB.out]; omega) (by omega) (by omega) (by show S < 65536; omega)).mono ?_
         rintro e w7 ⟨v7, rfl, ho7, hg7⟩))
    go_ret
    have hf := HO8.out.base (b := w.heap.size) (by have := Gr.size hg6; omega)
    rw [HFIN.out] at hf
    exact ⟨_, rfl, hf, (hG3.step hg6).step hg8⟩
end Go.Proofs.YtkpejaiigopmgaaGreatDoor
/- The document's Peek. -/
namespace Go.Proofs.YtkpejaiigopmgaaGreatDoor
open Go Go.RowKit Go.Sort
set_option maxRecDepth 100000
set_option linter.unusedVariables false
theorem gN_one {l : List Nat} {i : Nat} (h : i < l.length) : gN l i 1 = l.getD i 0 := by
  unfold gN
  rw [List.drop_eq_getElem_cons h, List.getD_eq_getElem?_getD, List.getElem?_eq_getElem h, List.take_succ_cons, List.take_zero]
  simp [bnum]
theorem rpeek_short {p : Nat → Prop} {v : Value} {l : List Nat} (w : World) (hr : Rb p w v l) (h : l.length < 20) :
    Calls Tryz.prog 96 #[v] w fun e w' => e = .returned (.tuple #[hdV 0 0 0 0 false 0 0, .int .i64 0, .int .i64 3]) ∧ Gr w w' := by
  obtain ⟨a, cap, rfl, hcap, hmx⟩ := hr.form
  have d1 : decide ((l.length : Int) < 20) = true := by rw [decide_eq_true_eq]; omega
  clear hr h
  unfold hdV
  go_enter Tryz.func96, Tryz.ntmps96
  go_wp2_with fail
  exact bodyPost_ret (v := .tuple #[.agg #[.int .i64 0, .int .i64 0, .int .i64 0, .int .i64 0, .bool false, .int .u32 0, .int .u32 0], .int .i64 0, .int .i64 3]) (by simp [results, Tryz.results96, go_sem]) rfl ⟨rfl, (Gr.refl _).alloc _⟩
set_option maxHeartbeats 4000000 in
theorem rpeek_long {p : Nat → Prop} {v : Value} {l : List Nat} (w : World) (hr : Rb p w v l) (h : 20 ≤ l.length) (hl : l.length ≤ 90000) :
    Calls Tryz.prog 96 #[v] w fun e w' => e = .returned (.tuple #[pkH l, .int .i64 (pkN l : Nat), .int .i64 (pkE l : Nat)]) ∧ Gr w w' := by
  have HR := Lib.hid hr
  obtain ⟨a, cap, rfl, hcap, hmx⟩ := hr.form
  have d1 : decide ((l.length : Int) < 20) = false := by rw [decide_eq_false_iff_not]; omega
  have b0 := gN_lt hr.bytes 0 1; have b1 := gN_lt hr.bytes 1 1; have b2 := gN_lt hr.bytes 2 2; have b3 := gN_lt hr.bytes 4 2; have b4 := gN_lt hr.bytes 6 2
  have b5 := gN_lt hr.bytes 8 1; have b6 := gN_lt hr.bytes 9 1; have b7 := gN_lt hr.bytes 12 4; have b8 := gN_lt hr.bytes 16 4
  simp only [Nat.reducePow] at b0 b1 b2 b3 b4 b5 b6 b7 b8
  obtain ⟨bk, off, rfl, -, hc0⟩ := hr.at' (i := 0) (by omega)
  have cb : ∀ i, i < l.length → w.cell? ⟨bk, off + i, none⟩ = some (.int .u8 (gN l i 1 : Nat)) := by
    intro i hi
    obtain ⟨b', o', e, -, hc⟩ := hr.at' hi
    cases e
    rw [gN_one hi]; exact hc
  have hbk := World.block_lt_of_cell? _ _ hc0
  have hc0 := cb 0 (by omega)
  have CB := Lib.hid (fun i (hi : i < l.length) w' (k : Gr w w') => ((Gr.cells k).1 bk (off + i) hbk).trans (cb i hi))
  clear cb hr
  have hC := CL.new w hz7 52 _ rfl
  have hG := Gr.alloc (Gr.refl w) (.cells hz7.toArray 52)
  unfold hz7 at hC hG
  have HAT := Lib.hid (fun i k w' (k0 : Gr w w') (h1 : 1 ≤ k) (h2 : k ≤ 7) (h3 : i + k ≤ l.length) => rat_any i k w' (HR.out.gr k0) h1 h2 h3 (by omega))
  have hca := CB.out 0 (by omega) _ hG
  rw [Nat.add_zero] at hca
  go_enter Tryz.func96, Tryz.ntmps96
  go_wp2_with fail
  refine (HAT.out 6 2 _ hG (by omega) (by omega) (by omega)).mono ?_
  rintro e w1 ⟨rfl, rfl⟩
  go_wp2_with fail
  refine (HAT.out 2 2 _ hG (by omega) (by omega) (by omega)).mono ?_
  rintro e w1 ⟨rfl, rfl⟩
  have l0 : 0 < l.length := by omega
  generalize w.alloc (.cells #[.int .i64 0, .int .i64 0, .int .i64 0, .int .i64 0, .bool false, .int .u32 0, .int .u32 0] 52) = w1 at *
  obtain ⟨⟨x0, x1, x2, x3, x4, x5, x6⟩, z0, z1, z2, z3, z4, z5, z6⟩ := hC.seven
  by_cases e0 : gN l 0 1 = 69
  · have s0 : ((gN l 0 1 : Nat) : Int) = 69 := by omega
    have s0b : (((gN l 0 1 : Nat) : Int) == 69) = true := by rw [beq_iff_eq]; omega
    by_cases f1 : gN l 6 2 = 16384
    · have s1 : (((gN l 6 2 : Nat) : Int) == 16384) = true := by rw [beq_iff_eq]; omega
      have s2 : (((gN l 6 2 : Nat) : Int) == 0) = false := by rw [beq_eq_false_iff_ne]; omega
      by_cases n20 : gN l 2 2 < 20
      · have s3 : decide (((gN l 2 2 : Nat) : Int) < 20) = true := by rw [decide_eq_true_eq]; omega
        have hE := Lib.hid (show pkE l = 2 by unfold pkE; rw [if_neg (by omega), if_pos (fun k => by have := k.2.2; omega)])
        go_wp2_with fail
        have hc := hC.fill7 (.int .i64 0) (.int .i64 0) (.int .i64 0) (.int .i64 0) (.bool false) (.int .u32 0) (.int .u32 0)
        have hgf := gr_fill7 hG (Nat.le_refl w.heap.size) (.int .i64 0) (.int .i64 0) (.int .i64 0) (.int .i64 0) (.bool false) (.int .u32 0) (.int .u32 0)
        clear x0 x1 x2 x3 x4 x5 x6 z0 z1 z2 z3 z4 z5 z6
        generalize (((((((w1.setCell ⟨w.heap.size, 0, none⟩ (.int .i64 0)).setCell ⟨w.heap.size, 1, none⟩ (.int .i64 0)).setCell ⟨w.heap.size, 2, none⟩ (.int .i64 0)).setCell ⟨w.heap.size, 3, none⟩ (.int .i64 0)).setCell ⟨w.heap.size, 4, none⟩ (.bool false)).setCell ⟨w.heap.size, 5, none⟩ (.int .u32 0)).setCell ⟨w.heap.size, 6, none⟩ (.int .u32 0)) = wf at *
        obtain ⟨⟨c0, c1, c2, c3, c4, c5, c6⟩, -⟩ := hc.seven
        exact bodyPost_ret (v := .tuple #[.agg #[.int .i64 0, .int .i64 0, .int .i64 0, .int .i64 0, .bool false, .int .u32 0, .int .u32 0], .int .i64 0, .int .i64 2]) (by simp [results, Tryz.results96, go_sem, c0, c1, c2, c3, c4, c5, c6]) rfl ⟨by obtain ⟨pe1, pe2⟩ := pk_err hE.out (by omega); rw [pe1, pe2, hE.out]; rfl, hgf⟩
      · have s3 : decide (((gN l 2 2 : Nat) : Int) < 20) = false := by rw [decide_eq_false_iff_not]; omega
        have HFM : Hid (formOk l) := Lib.hid ⟨e0, .inr f1, by omega⟩
        have HDC := Lib.hid (decide_eq_true f1)
        have CB1 := Lib.hid (fun w' (k : Gr w1 w') => CB.out 1 (by omega) w' (hG.step k))
        have CB8 := Lib.hid (fun w' (k : Gr w1 w') => CB.out 8 (by omega) w' (hG.step k))
        have CB9 := Lib.hid (fun w' (k : Gr w1 w') => CB.out 9 (by omega) w' (hG.step k))
        have u1 : (1 : Int) < (l.length : Int) := by omega
        have u8 : (8 : Int) < (l.length : Int) := by omega
        have u9 : (9 : Int) < (l.length : Int) := by omega
        have u1b : 1 < l.length := by omega
        have u8b : 8 < l.length := by omega
        have u9b : 9 < l.length := by omega
        have HHD : Hid (∀ w, Calls Tryz.prog 68 #[.agg #[.int .i64 (gN l 1 1 : Nat), .int .i64 (gN l 4 2 : Nat), .int .i64 (gN l 8 1 : Nat), .int .i64 (gN l 9 1 : Nat), .bool true, .int .u32 (gN l 12 4 : Nat), .int .u32 (gN l 16 4 : Nat)], .int .i64 (gN l 2 2 : Nat)] w fun e w' => ∃ v', e = .returned v' ∧ OwB w.heap.size w' v' (hbytes (hdAt l) (gN l 2 2)) ∧ Gr w w') := Lib.hid (fun w => by
          have := rheader_any (hdAt l) (hdAt_ok HR.out.bytes) (gN l 2 2) b2 w
          have hkb : (hdAt l).keep = true := by show decide (gN l 6 2 = 16384) = true; rw [HDC.out]
          unfold Hd.v hdV at this
          rw [hkb] at this
          exact this)
        go_wp2_with fail
        clear x0 x1 x2 x3 x4 x5 x6 z0 z1 z2 z3 z4 z5 z6
        refine region_cut ?aFtrue (fun w' => Gr w1 w' ∧ CL w' w1.heap.size [.int .i64 (gN l 1 1 : Nat), .int .i64 (gN l 4 2 : Nat), .int .i64 (gN l 8 1 : Nat), .int .i64 (gN l 9 1 : Nat), .bool true, .int .u32 (gN l 12 4 : Nat), .int .u32 (gN l 16 4 : Nat)]) ?regtrue ?conttrue
        case regtrue =>
          have eW1 : IntKind.i64.wrap ((gN l 1 1 : Nat) : Int) = ((gN l 1 1 : Nat) : Int) := by rw [IntWalk.i64_in _ (by omega)]
          have eW8 : IntKind.i64.wrap ((gN l 8 1 : Nat) : Int) = ((gN l 8 1 : Nat) : Int) := by rw [IntWalk.i64_in _ (by omega)]
          have eW9 : IntKind.i64.wrap ((gN l 9 1 : Nat) : Int) = ((gN l 9 1 : Nat) : Int) := by rw [IntWalk.i64_in _ (by omega)]
          have eU1 : IntKind.u32.wrap ((gN l 12 4 : Nat) : Int) = ((gN l 12 4 : Nat) : Int) := by rw [IntKind.wrap_u32]; omega
          have eU2 : IntKind.u32.wrap ((gN l 16 4 : Nat) : Int) = ((gN l 16 4 : Nat) : Int) := by rw [IntKind.wrap_u32]; omega
          have hS : Gr w1 w1.drew := Gr.drew (Gr.refl _)
          have HA7 : Hid (CL (w1.drew.alloc (.cells #[.int .i64 0, .int .i64 0, .int .i64 0, .int .i64 0, .bool false, .int .u32 0, .int .u32 0] 52)) w1.heap.size [.int .i64 0, .int .i64 0, .int .i64 0, .int .i64 0, .bool false, .int .u32 0, .int .u32 0]) := Lib.hid (CL.new w1.drew hz7 52 _ rfl)
          refine region_plain (Gr w1) (by kernel_rfl) ?_
          refine take_at 0 (some 33) (v := ?vtruem0) rfl rfl (by kernel_rfl) (by kernel_rfl) (by kernel_rfl) (by rfl) ?ytruem0 hS ?ttruem0
          case ytruem0 =>
            intro w' hSw
            have c1 := CB1.out _ hSw
            have c8 := CB8.out _ hSw
            have c9 := CB9.out _ hSw
            go_simp
            (try rw [if_pos (by omega)])
            (try with_reducible rfl)
          simp only [Act.put, List.setIfInBounds_toArray, List.set_cons_zero, List.set_cons_succ]
          refine take_at 1 (some 34) (v := ?vtruem1) rfl rfl (by kernel_rfl) (by kernel_rfl) (by kernel_rfl) (by rfl) ?ytruem1 hS ?ttruem1
          case ytruem1 =>
            intro w' hSw
            have c1 := CB1.out _ hSw
            have c8 := CB8.out _ hSw
            have c9 := CB9.out _ hSw
            go_simp
            (try rw [if_pos (by omega)])
            (try with_reducible rfl)
          simp only [Act.put, List.setIfInBounds_toArray, List.set_cons_zero, List.set_cons_succ]
          refine take_at 2 (some 35) (v := ?vtruem2) rfl rfl (by kernel_rfl) (by kernel_rfl) (by kernel_rfl) (by rfl) ?ytruem2 hS ?ttruem2
          case ytruem2 =>
            intro w' hSw
            have c1 := CB1.out _ hSw
            have c8 := CB8.out _ hSw
            have c9 := CB9.out _ hSw
            go_simp
            (try rw [if_pos (by omega)])
            (try with_reducible rfl)
          simp only [Act.put, List.setIfInBounds_toArray, List.set_cons_zero, List.set_cons_succ]
          refine take_at 3 (some 36) (v := ?vtruem3) rfl rfl (by kernel_rfl) (by kernel_rfl) (by kernel_rfl) (by rfl) ?ytruem3 hS ?ttruem3
          case ytruem3 =>
            intro w' hSw
            have c1 := CB1.out _ hSw
            have c8 := CB8.out _ hSw
            have c9 := CB9.out _ hSw
            go_simp
            (try rw [if_pos (by omega)])
            (try with_reducible rfl)
          simp only [Act.put, List.setIfInBounds_toArray, List.set_cons_zero, List.set_cons_succ]
          refine take_at 4 (some 37) (v := ?vtruem4) rfl rfl (by kernel_rfl) (by kernel_rfl) (by kernel_rfl) (by rfl) ?ytruem4 hS ?ttruem4
          case ytruem4 =>
            intro w' hSw
            have c1 := CB1.out _ hSw
            have c8 := CB8.out _ hSw
            have c9 := CB9.out _ hSw
            go_simp
            (try rw [if_pos (by omega)])
            (try with_reducible rfl)
          simp only [Act.put, List.setIfInBounds_toArray, List.set_cons_zero, List.set_cons_succ]
          refine take_at 6 (some 39) (v := ?vtruem6) rfl rfl (by kernel_rfl) (by kernel_rfl) (by kernel_rfl) (by rfl) ?ytruem6 hS ?ttruem6
          case ytruem6 =>
            intro w' hSw
            have c1 := CB1.out _ hSw
            have c8 := CB8.out _ hSw
            have c9 := CB9.out _ hSw
            go_simp
            (try rw [if_pos (by omega)])
            (try with_reducible rfl)
          simp only [Act.put, List.setIfInBounds_toArray, List.set_cons_zero, List.set_cons_succ]
          refine take_at 7 (some 40) (v := ?vtruem7) rfl rfl (by kernel_rfl) (by kernel_rfl) (by kernel_rfl) (by rfl) ?ytruem7 hS ?ttruem7
          case ytruem7 =>
            intro w' hSw
            have c1 := CB1.out _ hSw
            have c8 := CB8.out _ hSw
            have c9 := CB9.out _ hSw
            go_simp
            (try rw [if_pos (by omega)])
            (try with_reducible rfl)
          simp only [Act.put, List.setIfInBounds_toArray, List.set_cons_zero, List.set_cons_succ]
          refine take_at 8 (some 41) (v := ?vtruem8) rfl rfl (by kernel_rfl) (by kernel_rfl) (by kernel_rfl) (by rfl) ?ytruem8 hS ?ttruem8
          case ytruem8 =>
            intro w' hSw
            have c1 := CB1.out _ hSw
            have c8 := CB8.out _ hSw
            have c9 := CB9.out _ hSw
            go_simp
            (try rw [if_pos (by omega)])
            (try with_reducible rfl)
          simp only [Act.put, List.setIfInBounds_toArray, List.set_cons_zero, List.set_cons_succ]
          refine take_at 9 (some 42) (v := ?vtruem9) rfl rfl (by kernel_rfl) (by kernel_rfl) (by kernel_rfl) (by rfl) ?ytruem9 hS ?ttruem9
          case ytruem9 =>
            intro w' hSw
            have c1 := CB1.out _ hSw
            have c8 := CB8.out _ hSw
            have c9 := CB9.out _ hSw
            go_simp
            (try rw [if_pos (by omega)])
            (try with_reducible rfl)
          simp only [Act.put, List.setIfInBounds_toArray, List.set_cons_zero, List.set_cons_succ]
          refine take_at 10 (some 43) (v := ?vtruem10) rfl rfl (by kernel_rfl) (by kernel_rfl) (by kernel_rfl) (by rfl) ?ytruem10 hS ?ttruem10
          case ytruem10 =>
            intro w' hSw
            have c1 := CB1.out _ hSw
            have c8 := CB8.out _ hSw
            have c9 := CB9.out _ hSw
            go_simp
            (try rw [if_pos (by omega)])
            (try with_reducible rfl)
          simp only [Act.put, List.setIfInBounds_toArray, List.set_cons_zero, List.set_cons_succ]
          refine take_at 11 (some 44) (v := ?vtruem11) rfl rfl (by kernel_rfl) (by kernel_rfl) (by kernel_rfl) (by rfl) ?ytruem11 hS ?ttruem11
          case ytruem11 =>
            intro w' hSw
            have c1 := CB1.out _ hSw
            have c8 := CB8.out _ hSw
            have c9 := CB9.out _ hSw
            go_simp
            (try rw [if_pos (by omega)])
            (try with_reducible rfl)
          simp only [Act.put, List.setIfInBounds_toArray, List.set_cons_zero, List.set_cons_succ]
          refine take_at 12 (some 45) (v := ?vtruem12) rfl rfl (by kernel_rfl) (by kernel_rfl) (by kernel_rfl) (by rfl) ?ytruem12 hS ?ttruem12
          case ytruem12 =>
            intro w' hSw
            have c1 := CB1.out _ hSw
            have c8 := CB8.out _ hSw
            have c9 := CB9.out _ hSw
            go_simp
            (try rw [if_pos (by omega)])
            (try with_reducible rfl)
          simp only [Act.put, List.setIfInBounds_toArray, List.set_cons_zero, List.set_cons_succ]
          refine take_at 13 (some 46) (v := ?vtruem13) rfl rfl (by kernel_rfl) (by kernel_rfl) (by kernel_rfl) (by rfl) ?ytruem13 hS ?ttruem13
          case ytruem13 =>
            intro w' hSw
            have c1 := CB1.out _ hSw
            have c8 := CB8.out _ hSw
            have c9 := CB9.out _ hSw
            go_simp
            (try rw [if_pos (by omega)])
            (try with_reducible rfl)
          simp only [Act.put, List.setIfInBounds_toArray, List.set_cons_zero, List.set_cons_succ]
          refine take_at 14 (some 47) (v := ?vtruem14) rfl rfl (by kernel_rfl) (by kernel_rfl) (by kernel_rfl) (by rfl) ?ytruem14 hS ?ttruem14
          case ytruem14 =>
            intro w' hSw
            have c1 := CB1.out _ hSw
            have c8 := CB8.out _ hSw
            have c9 := CB9.out _ hSw
            go_simp
            (try rw [if_pos (by omega)])
            (try with_reducible rfl)
          simp only [Act.put, List.setIfInBounds_toArray, List.set_cons_zero, List.set_cons_succ]
          refine take_at 15 (some 48) (v := ?vtruem15) rfl rfl (by kernel_rfl) (by kernel_rfl) (by kernel_rfl) (by rfl) ?ytruem15 hS ?ttruem15
          case ytruem15 =>
            intro w' hSw
            have c1 := CB1.out _ hSw
            have c8 := CB8.out _ hSw
            have c9 := CB9.out _ hSw
            go_simp
            (try rw [if_pos (by omega)])
            (try with_reducible rfl)
          simp only [Act.put, List.setIfInBounds_toArray, List.set_cons_zero, List.set_cons_succ]
          refine take_at 16 (some 49) (v := ?vtruem16) rfl rfl (by kernel_rfl) (by kernel_rfl) (by kernel_rfl) (by rfl) ?ytruem16 hS ?ttruem16
          case ytruem16 =>
            intro w' hSw
            have c1 := CB1.out _ hSw
            have c8 := CB8.out _ hSw
            have c9 := CB9.out _ hSw
            go_simp
            (try rw [if_pos (by omega)])
            (try with_reducible rfl)
          simp only [Act.put, List.setIfInBounds_toArray, List.set_cons_zero, List.set_cons_succ]
          refine take_at 19 (some 52) (v := ?vtruem19) rfl rfl (by kernel_rfl) (by kernel_rfl) (by kernel_rfl) (by rfl) ?ytruem19 hS ?ttruem19
          case ytruem19 =>
            intro w' hSw
            have c1 := CB1.out _ hSw
            have c8 := CB8.out _ hSw
            have c9 := CB9.out _ hSw
            go_simp
            (try rw [if_pos (by omega)])
            (try with_reducible rfl)
          simp only [Act.put, List.setIfInBounds_toArray, List.set_cons_zero, List.set_cons_succ]
          refine next_two 5 23 rfl rfl (by kernel_rfl) (by rfl) (by rfl) (fun K hK => ?_) (fun K hK => ?_)
          · skip
            go_simp
            refine (HAT.out 4 2 _ (hG.step hS) (by omega) (by omega) (by omega)).mono ?_
            rintro e wj ⟨rfl, rfl⟩
            refine hK _ _ hS ?_
            clear hK K
            refine next_two 17 23 rfl rfl (by kernel_rfl) (by rfl) (by rfl) (fun K hK => ?_) (fun K hK => ?_)
            · skip
              go_simp
              refine (HAT.out 12 4 _ (hG.step hS) (by omega) (by omega) (by omega)).mono ?_
              rintro e wj ⟨rfl, rfl⟩
              refine hK _ _ hS ?_
              clear hK K
              refine take_at 18 (some 51) (v := ?vtruea18) rfl rfl (by kernel_rfl) (by kernel_rfl) (by kernel_rfl) (by rfl) ?ytruea18 hS ?ttruea18
              case ytruea18 =>
                intro w' hSw
                have c1 := CB1.out _ hSw
                have c8 := CB8.out _ hSw
                have c9 := CB9.out _ hSw
                go_simp
                (try rw [if_pos (by omega)])
                (try with_reducible rfl)
              simp only [Act.put, List.setIfInBounds_toArray, List.set_cons_zero, List.set_cons_succ]
              refine next_two 20 23 rfl rfl (by kernel_rfl) (by rfl) (by rfl) (fun K hK => ?_) (fun K hK => ?_)
              · skip
                go_simp
                refine (HAT.out 16 4 _ (hG.step hS) (by omega) (by omega) (by omega)).mono ?_
                rintro e wj ⟨rfl, rfl⟩
                refine hK _ _ hS ?_
                clear hK K
                refine take_at 21 (some 54) (v := ?vtrueb21) rfl rfl (by kernel_rfl) (by kernel_rfl) (by kernel_rfl) (by rfl) ?ytrueb21 hS ?ttrueb21
                case ytrueb21 =>
                  intro w' hSw
                  have c1 := CB1.out _ hSw
                  have c8 := CB8.out _ hSw
                  have c9 := CB9.out _ hSw
                  go_simp
                  (try rw [if_pos (by omega)])
                  (try with_reducible rfl)
                simp only [Act.put, List.setIfInBounds_toArray, List.set_cons_zero, List.set_cons_succ]
                refine take_at 22 (some 55) (v := ?vtrueb22) rfl rfl (by kernel_rfl) (by kernel_rfl) (by kernel_rfl) (by rfl) ?ytrueb22 hS ?ttrueb22
                case ytrueb22 =>
                  intro w' hSw
                  have c1 := CB1.out _ hSw
                  have c8 := CB8.out _ hSw
                  have c9 := CB9.out _ hSw
                  go_simp
                  (try rw [if_pos (by omega)])
                  (try with_reducible rfl)
                simp only [Act.put, List.setIfInBounds_toArray, List.set_cons_zero, List.set_cons_succ]
                refine next_at 23 rfl (by kernel_rfl) (by rfl) (fun K hK => ?_)
                go_simp
                have hS := hS.alloc (.cells #[.int .i64 0, .int .i64 0, .int .i64 0, .int .i64 0, .bool false, .int .u32 0, .int .u32 0] 52)
                refine hK _ _ hS ?_
                clear hK K
                obtain ⟨⟨y0, y1, y2, y3, y4, y5, y6⟩, v0, v1, v2, v3, v4, v5, v6⟩ := HA7.out.seven
                refine next_at 24 rfl (by kernel_rfl) (by rfl) (fun K hK => ?_)
                go_simp
                refine hK _ _ ((Gr.alloc (Gr.refl w1) (.cells #[.int .i64 (gN l 1 1 : Nat), .int .i64 (gN l 4 2 : Nat), .int .i64 (gN l 8 1 : Nat), .int .i64 (gN l 9 1 : Nat), .bool true, .int .u32 (gN l 12 4 : Nat), .int .u32 (gN l 16 4 : Nat)] 52)).drew) ?_
                clear hK K y0 y1 y2 y3 y4 y5 y6 v0 v1 v2 v3 v4 v5 v6
                refine wpAnyH_done (by kernel_rfl) ?_ _
                refine qz_normal ⟨rfl, ?_, (Gr.alloc (Gr.refl w1) (.cells #[.int .i64 (gN l 1 1 : Nat), .int .i64 (gN l 4 2 : Nat), .int .i64 (gN l 8 1 : Nat), .int .i64 (gN l 9 1 : Nat), .bool true, .int .u32 (gN l 12 4 : Nat), .int .u32 (gN l 16 4 : Nat)] 52)).drew, (CL.new w1 [.int .i64 (gN l 1 1 : Nat), .int .i64 (gN l 4 2 : Nat), .int .i64 (gN l 8 1 : Nat), .int .i64 (gN l 9 1 : Nat), .bool true, .int .u32 (gN l 12 4 : Nat), .int .u32 (gN l 16 4 : Nat)] 52 _ rfl).gr (Gr.drew (Gr.refl _))⟩
                first | with_reducible rfl | rfl
              · skip
                go_simp
                have hS := hS.alloc (.cells #[.int .i64 0, .int .i64 0, .int .i64 0, .int .i64 0, .bool false, .int .u32 0, .int .u32 0] 52)
                refine hK _ _ hS ?_
                clear hK K
                refine next_at 20 rfl (by kernel_rfl) (by rfl) (fun K hK => ?_)
                go_simp
                refine (HAT.out 16 4 _ (hG.step hS) (by omega) (by omega) (by omega)).mono ?_
                rintro e wj ⟨rfl, rfl⟩
                refine hK _ _ hS ?_
                clear hK K
                refine take_at 21 (some 54) (v := ?vtruec21) rfl rfl (by kernel_rfl) (by kernel_rfl) (by kernel_rfl) (by rfl) ?ytruec21 hS ?ttruec21
                case ytruec21 =>
                  intro w' hSw
                  have c1 := CB1.out _ hSw
                  have c8 := CB8.out _ hSw
                  have c9 := CB9.out _ hSw
                  go_simp
                  (try rw [if_pos (by omega)])
                  (try with_reducible rfl)
                simp only [Act.put, List.setIfInBounds_toArray, List.set_cons_zero, List.set_cons_succ]
                refine take_at 22 (some 55) (v := ?vtruec22) rfl rfl (by kernel_rfl) (by kernel_rfl) (by kernel_rfl) (by rfl) ?ytruec22 hS ?ttruec22
                case ytruec22 =>
                  intro w' hSw
                  have c1 := CB1.out _ hSw
                  have c8 := CB8.out _ hSw
                  have c9 := CB9.out _ hSw
                  go_simp
                  (try rw [if_pos (by omega)])
                  (try with_reducible rfl)
                simp only [Act.put, List.setIfInBounds_toArray, List.set_cons_zero, List.set_cons_succ]
                skip
                obtain ⟨⟨y0, y1, y2, y3, y4, y5, y6⟩, v0, v1, v2, v3, v4, v5, v6⟩ := HA7.out.seven
                refine next_at 24 rfl (by kernel_rfl) (by rfl) (fun K hK => ?_)
                go_simp
                refine hK _ _ ((Gr.alloc (Gr.refl w1) (.cells #[.int .i64 (gN l 1 1 : Nat), .int .i64 (gN l 4 2 : Nat), .int .i64 (gN l 8 1 : Nat), .int .i64 (gN l 9 1 : Nat), .bool true, .int .u32 (gN l 12 4 : Nat), .int .u32 (gN l 16 4 : Nat)] 52)).drew) ?_
                clear hK K y0 y1 y2 y3 y4 y5 y6 v0 v1 v2 v3 v4 v5 v6
                refine wpAnyH_done (by kernel_rfl) ?_ _
                refine qz_normal ⟨rfl, ?_, (Gr.alloc (Gr.refl w1) (.cells #[.int .i64 (gN l 1 1 : Nat), .int .i64 (gN l 4 2 : Nat), .int .i64 (gN l 8 1 : Nat), .int .i64 (gN l 9 1 : Nat), .bool true, .int .u32 (gN l 12 4 : Nat), .int .u32 (gN l 16 4 : Nat)] 52)).drew, (CL.new w1 [.int .i64 (gN l 1 1 : Nat), .int .i64 (gN l 4 2 : Nat), .int .i64 (gN l 8 1 : Nat), .int .i64 (gN l 9 1 : Nat), .bool true, .int .u32 (gN l 12 4 : Nat), .int .u32 (gN l 16 4 : Nat)] 52 _ rfl).gr (Gr.drew (Gr.refl _))⟩
                first | with_reducible rfl | rfl
            · skip
              go_simp
              have hS := hS.alloc (.cells #[.int .i64 0, .int .i64 0, .int .i64 0, .int .i64 0, .bool false, .int .u32 0, .int .u32 0] 52)
              refine hK _ _ hS ?_
              clear hK K
              refine next_at 17 rfl (by kernel_rfl) (by rfl) (fun K hK => ?_)
              go_simp
              refine (HAT.out 12 4 _ (hG.step hS) (by omega) (by omega) (by omega)).mono ?_
              rintro e wj ⟨rfl, rfl⟩
              refine hK _ _ hS ?_
              clear hK K
              refine take_at 18 (some 51) (v := ?vtrued18) rfl rfl (by kernel_rfl) (by kernel_rfl) (by kernel_rfl) (by rfl) ?ytrued18 hS ?ttrued18
              case ytrued18 =>
                intro w' hSw
                have c1 := CB1.out _ hSw
                have c8 := CB8.out _ hSw
                have c9 := CB9.out _ hSw
                go_simp
                (try rw [if_pos (by omega)])
                (try with_reducible rfl)
              simp only [Act.put, List.setIfInBounds_toArray, List.set_cons_zero, List.set_cons_succ]
              refine next_at 20 rfl (by kernel_rfl) (by rfl) (fun K hK => ?_)
              go_simp
              refine (HAT.out 16 4 _ (hG.step hS) (by omega) (by omega) (by omega)).mono ?_
              rintro e wj ⟨rfl, rfl⟩
              refine hK _ _ hS ?_
              clear hK K
              refine take_at 21 (some 54) (v := ?vtruee21) rfl rfl (by kernel_rfl) (by kernel_rfl) (by kernel_rfl) (by rfl) ?ytruee21 hS ?ttruee21
              case ytruee21 =>
                intro w' hSw
                have c1 := CB1.out _ hSw
                have c8 := CB8.out _ hSw
                have c9 := CB9.out _ hSw
                go_simp
                (try rw [if_pos (by omega)])
                (try with_reducible rfl)
              simp only [Act.put, List.setIfInBounds_toArray, List.set_cons_zero, List.set_cons_succ]
              refine take_at 22 (some 55) (v := ?vtruee22) rfl rfl (by kernel_rfl) (by kernel_rfl) (by kernel_rfl) (by rfl) ?ytruee22 hS ?ttruee22
              case ytruee22 =>
                intro w' hSw
                have c1 := CB1.out _ hSw
                have c8 := CB8.out _ hSw
                have c9 := CB9.out _ hSw
                go_simp
                (try rw [if_pos (by omega)])
                (try with_reducible rfl)
              simp only [Act.put, List.setIfInBounds_toArray, List.set_cons_zero, List.set_cons_succ]
              skip
              obtain ⟨⟨y0, y1, y2, y3, y4, y5, y6⟩, v0, v1, v2, v3, v4, v5, v6⟩ := HA7.out.seven
              refine next_at 24 rfl (by kernel_rfl) (by rfl) (fun K hK => ?_)
              go_simp
              refine hK _ _ ((Gr.alloc (Gr.refl w1) (.cells #[.int .i64 (gN l 1 1 : Nat), .int .i64 (gN l 4 2 : Nat), .int .i64 (gN l 8 1 : Nat), .int .i64 (gN l 9 1 : Nat), .bool true, .int .u32 (gN l 12 4 : Nat), .int .u32 (gN l 16 4 : Nat)] 52)).drew) ?_
              clear hK K y0 y1 y2 y3 y4 y5 y6 v0 v1 v2 v3 v4 v5 v6
              refine wpAnyH_done (by kernel_rfl) ?_ _
              refine qz_normal ⟨rfl, ?_, (Gr.alloc (Gr.refl w1) (.cells #[.int .i64 (gN l 1 1 : Nat), .int .i64 (gN l 4 2 : Nat), .int .i64 (gN l 8 1 : Nat), .int .i64 (gN l 9 1 : Nat), .bool true, .int .u32 (gN l 12 4 : Nat), .int .u32 (gN l 16 4 : Nat)] 52)).drew, (CL.new w1 [.int .i64 (gN l 1 1 : Nat), .int .i64 (gN l 4 2 : Nat), .int .i64 (gN l 8 1 : Nat), .int .i64 (gN l 9 1 : Nat), .bool true, .int .u32 (gN l 12 4 : Nat), .int .u32 (gN l 16 4 : Nat)] 52 _ rfl).gr (Gr.drew (Gr.refl _))⟩
              first | with_reducible rfl | rfl
          · skip
            go_simp
            have hS := hS.alloc (.cells #[.int .i64 0, .int .i64 0, .int .i64 0, .int .i64 0, .bool false, .int .u32 0, .int .u32 0] 52)
            refine hK _ _ hS ?_
            clear hK K
            refine next_at 5 rfl (by kernel_rfl) (by rfl) (fun K hK => ?_)
            go_simp
            refine (HAT.out 4 2 _ (hG.step hS) (by omega) (by omega) (by omega)).mono ?_
            rintro e wj ⟨rfl, rfl⟩
            refine hK _ _ hS ?_
            clear hK K
            refine next_at 17 rfl (by kernel_rfl) (by rfl) (fun K hK => ?_)
            go_simp
            refine (HAT.out 12 4 _ (hG.step hS) (by omega) (by omega) (by omega)).mono ?_
            rintro e wj ⟨rfl, rfl⟩
            refine hK _ _ hS ?_
            clear hK K
            refine take_at 18 (some 51) (v := ?vtruef18) rfl rfl (by kernel_rfl) (by kernel_rfl) (by kernel_rfl) (by rfl) ?ytruef18 hS ?ttruef18
            case ytruef18 =>
              intro w' hSw
              have c1 := CB1.out _ hSw
              have c8 := CB8.out _ hSw
              have c9 := CB9.out _ hSw
              go_simp
              (try rw [if_pos (by omega)])
              (try with_reducible rfl)
            simp only [Act.put, List.setIfInBounds_toArray, List.set_cons_zero, List.set_cons_succ]
            refine next_at 20 rfl (by kernel_rfl) (by rfl) (fun K hK => ?_)
            go_simp
            refine (HAT.out 16 4 _ (hG.step hS) (by omega) (by omega) (by omega)).mono ?_
            rintro e wj ⟨rfl, rfl⟩
            refine hK _ _ hS ?_
            clear hK K
            refine take_at 21 (some 54) (v := ?vtrueg21) rfl rfl (by kernel_rfl) (by kernel_rfl) (by kernel_rfl) (by rfl) ?ytrueg21 hS ?ttrueg21
            case ytrueg21 =>
              intro w' hSw
              have c1 := CB1.out _ hSw
              have c8 := CB8.out _ hSw
              have c9 := CB9.out _ hSw
              go_simp
              (try rw [if_pos (by omega)])
              (try with_reducible rfl)
            simp only [Act.put, List.setIfInBounds_toArray, List.set_cons_zero, List.set_cons_succ]
            refine take_at 22 (some 55) (v := ?vtrueg22) rfl rfl (by kernel_rfl) (by kernel_rfl) (by kernel_rfl) (by rfl) ?ytrueg22 hS ?ttrueg22
            case ytrueg22 =>
              intro w' hSw
              have c1 := CB1.out _ hSw
              have c8 := CB8.out _ hSw
              have c9 := CB9.out _ hSw
              go_simp
              (try rw [if_pos (by omega)])
              (try with_reducible rfl)
            simp only [Act.put, List.setIfInBounds_toArray, List.set_cons_zero, List.set_cons_succ]
            skip
            obtain ⟨⟨y0, y1, y2, y3, y4, y5, y6⟩, v0, v1, v2, v3, v4, v5, v6⟩ := HA7.out.seven
            refine next_at 24 rfl (by kernel_rfl) (by rfl) (fun K hK => ?_)
            go_simp
            refine hK _ _ ((Gr.alloc (Gr.refl w1) (.cells #[.int .i64 (gN l 1 1 : Nat), .int .i64 (gN l 4 2 : Nat), .int .i64 (gN l 8 1 : Nat), .int .i64 (gN l 9 1 : Nat), .bool true, .int .u32 (gN l 12 4 : Nat), .int .u32 (gN l 16 4 : Nat)] 52)).drew) ?_
            clear hK K y0 y1 y2 y3 y4 y5 y6 v0 v1 v2 v3 v4 v5 v6
            refine wpAnyH_done (by kernel_rfl) ?_ _
            refine qz_normal ⟨rfl, ?_, (Gr.alloc (Gr.refl w1) (.cells #[.int .i64 (gN l 1 1 : Nat), .int .i64 (gN l 4 2 : Nat), .int .i64 (gN l 8 1 : Nat), .int .i64 (gN l 9 1 : Nat), .bool true, .int .u32 (gN l 12 4 : Nat), .int .u32 (gN l 16 4 : Nat)] 52)).drew, (CL.new w1 [.int .i64 (gN l 1 1 : Nat), .int .i64 (gN l 4 2 : Nat), .int .i64 (gN l 8 1 : Nat), .int .i64 (gN l 9 1 : Nat), .bool true, .int .u32 (gN l 12 4 : Nat), .int .u32 (gN l 16 4 : Nat)] 52 _ rfl).gr (Gr.drew (Gr.refl _))⟩
            first | with_reducible rfl | rfl
        case conttrue =>
          rintro wz ⟨hgz, hc7⟩
          replace hC := hC.gr hgz
          have HF := Lib.hid hc7
          have HRR := Lib.hid (fun w' (k : Gr wz w') => (HR.out.take (k := 20) (by omega)).gr ((hG.step hgz).step k))
          have HG := Lib.hid (hG.step hgz)
          have u1 : (20 : Int) ≤ (cap : Int) := by omega
          have u2 : 20 ≤ cap := by omega
          clear hc7 hgz hG u1b u8 u8b u9 u9b CB1 CB8 CB9 CB hca hc0
          generalize w1.heap.size = g7 at *
          go_wp2_with fail
          have hS : Gr wz wz.drew := Gr.drew (Gr.refl _)
          refine region_plain (Gr wz) (by kernel_rfl) ?_
          refine take_at 0 (some 56) (v := ?vtruez0) rfl rfl (by kernel_rfl) (by kernel_rfl) (by kernel_rfl) (by rfl) ?ytruez0 hS ?ttruez0
          case ytruez0 =>
            intro w' hSw
            obtain ⟨⟨q0, q1, q2, q3, q4, q5, q6⟩, -⟩ := (HF.out.gr hSw).seven
            go_simp
            (try rw [if_pos (by omega)])
            (try with_reducible rfl)
          simp only [Act.put, List.setIfInBounds_toArray, List.set_cons_zero, List.set_cons_succ]
          refine take_at 1 (some 57) (v := ?vtruez1) rfl rfl (by kernel_rfl) (by kernel_rfl) (by kernel_rfl) (by rfl) ?ytruez1 hS ?ttruez1
          case ytruez1 =>
            intro w' hSw
            obtain ⟨⟨q0, q1, q2, q3, q4, q5, q6⟩, -⟩ := (HF.out.gr hSw).seven
            go_simp
            (try rw [if_pos (by omega)])
            (try with_reducible rfl)
          simp only [Act.put, List.setIfInBounds_toArray, List.set_cons_zero, List.set_cons_succ]
          refine take_at 3 (some 59) (v := ?vtruez3) rfl rfl (by kernel_rfl) (by kernel_rfl) (by kernel_rfl) (by rfl) ?ytruez3 hS ?ttruez3
          case ytruez3 =>
            intro w' hSw
            obtain ⟨⟨q0, q1, q2, q3, q4, q5, q6⟩, -⟩ := (HF.out.gr hSw).seven
            go_simp
            (try rw [if_pos (by omega)])
            (try with_reducible rfl)
          simp only [Act.put, List.setIfInBounds_toArray, List.set_cons_zero, List.set_cons_succ]
          refine take_at 4 (some 60) (v := ?vtruez4) rfl rfl (by kernel_rfl) (by kernel_rfl) (by kernel_rfl) (by rfl) ?ytruez4 hS ?ttruez4
          case ytruez4 =>
            intro w' hSw
            obtain ⟨⟨q0, q1, q2, q3, q4, q5, q6⟩, -⟩ := (HF.out.gr hSw).seven
            go_simp
            (try rw [if_pos (by omega)])
            (try with_reducible rfl)
          simp only [Act.put, List.setIfInBounds_toArray, List.set_cons_zero, List.set_cons_succ]
          refine next_at 2 rfl (by kernel_rfl) (by rfl) (fun K hK => ?_)
          go_simp
          refine (HHD.out _).mono ?_
          rintro e w12 ⟨vh, rfl, hvh, hg2⟩
          have hS2 := Gr.step (Gr.drew (Gr.refl wz)) hg2
          obtain ⟨gh, ch, rfl, -, -, -⟩ := hvh.form (by rw [hbytes_len]; omega)
          rw [hbytes_len] at hvh ⊢
          have HE := Lib.hid (rweq_any w12 hvh.rb (HRR.out _ hS2) (by rw [hbytes_len]; omega) (by rw [List.length_take]; omega))
          refine hK _ _ hS2 ?_
          clear hK K hvh hS hg2
          have hS := hS2
          clear hS2
          by_cases hq : hbytes (hdAt l) (gN l 2 2) = l.take 20
          · have hE : pkE l = 0 := by unfold pkE; rw [if_neg (by omega), if_neg (fun k => k HFM.out), if_pos hq.symm]
            have HEZ := Lib.hid hE
            rw [decide_eq_true hq] at HE
            clear hq hE
            refine next_at 5 rfl (by kernel_rfl) (by rfl) (fun K hK => ?_)
            go_simp
            refine HE.out.mono ?_
            rintro e w13 ⟨rfl, hg13⟩
            have hS3 := hS.step hg13
            refine hK _ _ hS3 ?_
            clear hK K HE hS hg13
            have hS := hS3
            clear hS3
            refine next_at 6 rfl (by kernel_rfl) (by rfl) (fun K hK => ?_)
            go_simp
            refine hK _ _ hS ?_
            clear hK K
            refine wpAnyH_done (by kernel_rfl) ?_ _
            refine qz_normal ?_
            obtain ⟨⟨x0, x1, x2, x3, x4, x5, x6⟩, z0, z1, z2, z3, z4, z5, z6⟩ := (HF.out.gr hS).seven
            obtain ⟨⟨y0, y1, y2, y3, y4, y5, y6⟩, v0, v1, v2, v3, v4, v5, v6⟩ := (hC.gr hS).seven
            go_wp2_with fail
            have hc := (hC.gr hS).fill7 (.int .i64 (gN l 1 1 : Nat)) (.int .i64 (gN l 4 2 : Nat)) (.int .i64 (gN l 8 1 : Nat)) (.int .i64 (gN l 9 1 : Nat)) (.bool true) (.int .u32 (gN l 12 4 : Nat)) (.int .u32 (gN l 16 4 : Nat))
            have hgf := gr_fill7 (HG.out.step hS) (Nat.le_refl w.heap.size) (.int .i64 (gN l 1 1 : Nat)) (.int .i64 (gN l 4 2 : Nat)) (.int .i64 (gN l 8 1 : Nat)) (.int .i64 (gN l 9 1 : Nat)) (.bool true) (.int .u32 (gN l 12 4 : Nat)) (.int .u32 (gN l 16 4 : Nat))
            clear x0 x1 x2 x3 x4 x5 x6 z0 z1 z2 z3 z4 z5 z6 y0 y1 y2 y3 y4 y5 y6 v0 v1 v2 v3 v4 v5 v6 hS hC HF
            generalize (((((((w13.setCell ⟨w.heap.size, 0, none⟩ (.int .i64 (gN l 1 1 : Nat))).setCell ⟨w.heap.size, 1, none⟩ (.int .i64 (gN l 4 2 : Nat))).setCell ⟨w.heap.size, 2, none⟩ (.int .i64 (gN l 8 1 : Nat))).setCell ⟨w.heap.size, 3, none⟩ (.int .i64 (gN l 9 1 : Nat))).setCell ⟨w.heap.size, 4, none⟩ (.bool true)).setCell ⟨w.heap.size, 5, none⟩ (.int .u32 (gN l 12 4 : Nat))).setCell ⟨w.heap.size, 6, none⟩ (.int .u32 (gN l 16 4 : Nat))) = wf at *
            obtain ⟨⟨c0, c1, c2, c3, c4, c5, c6⟩, -⟩ := hc.seven
            refine bodyPost_ret (v := .tuple #[.agg #[.int .i64 (gN l 1 1 : Nat), .int .i64 (gN l 4 2 : Nat), .int .i64 (gN l 8 1 : Nat), .int .i64 (gN l 9 1 : Nat), .bool true, .int .u32 (gN l 12 4 : Nat), .int .u32 (gN l 16 4 : Nat)], .int .i64 (gN l 2 2 : Nat), .int .i64 0]) (by simp [results, Tryz.results96, go_sem, c0, c1, c2, c3, c4, c5, c6]) rfl ⟨?_, hgf⟩
            obtain ⟨pe1, pe2⟩ := pk_ok HEZ.out
            rw [pe1, pe2, HEZ.out]
            have hkb : (hdAt l).keep = true := by show decide (gN l 6 2 = 16384) = true; rw [HDC.out]
            unfold Hd.v hdV
            rw [hkb]
            rfl
          · have hE : pkE l = 4 := by unfold pkE; rw [if_neg (by omega), if_neg (fun k => k HFM.out), if_neg (fun k => hq k.symm)]
            have HEZ := Lib.hid hE
            rw [decide_eq_false hq] at HE
            clear hq hE
            refine next_at 5 rfl (by kernel_rfl) (by rfl) (fun K hK => ?_)
            go_simp
            refine HE.out.mono ?_
            rintro e w13 ⟨rfl, hg13⟩
            have hS3 := hS.step hg13
            refine hK _ _ hS3 ?_
            clear hK K HE hS hg13
            have hS := hS3
            clear hS3
            refine next_at 6 rfl (by kernel_rfl) (by rfl) (fun K hK => ?_)
            go_simp
            refine hK _ _ hS ?_
            clear hK K
            refine wpAnyH_done (by kernel_rfl) ?_ _
            refine qz_normal ?_
            obtain ⟨⟨y0, y1, y2, y3, y4, y5, y6⟩, v0, v1, v2, v3, v4, v5, v6⟩ := (hC.gr hS).seven
            go_wp2_with fail
            have hc := (hC.gr hS).fill7 (.int .i64 0) (.int .i64 0) (.int .i64 0) (.int .i64 0) (.bool false) (.int .u32 0) (.int .u32 0)
            have hgf := gr_fill7 (HG.out.step hS) (Nat.le_refl w.heap.size) (.int .i64 0) (.int .i64 0) (.int .i64 0) (.int .i64 0) (.bool false) (.int .u32 0) (.int .u32 0)
            clear y0 y1 y2 y3 y4 y5 y6 v0 v1 v2 v3 v4 v5 v6 hS hC HF
            generalize (((((((w13.setCell ⟨w.heap.size, 0, none⟩ (.int .i64 0)).setCell ⟨w.heap.size, 1, none⟩ (.int .i64 0)).setCell ⟨w.heap.size, 2, none⟩ (.int .i64 0)).setCell ⟨w.heap.size, 3, none⟩ (.int .i64 0)).setCell ⟨w.heap.size, 4, none⟩ (.bool false)).setCell ⟨w.heap.size, 5, none⟩ (.int .u32 0)).setCell ⟨w.heap.size, 6, none⟩ (.int .u32 0)) = wf at *
            obtain ⟨⟨c0, c1, c2, c3, c4, c5, c6⟩, -⟩ := hc.seven
            exact bodyPost_ret (v := .tuple #[.agg #[.int .i64 0, .int .i64 0, .int .i64 0, .int .i64 0, .bool false, .int .u32 0, .int .u32 0], .int .i64 0, .int .i64 4]) (by simp [results, Tryz.results96, go_sem, c0, c1, c2, c3, c4, c5, c6]) rfl ⟨by obtain ⟨pe1, pe2⟩ := pk_err HEZ.out (by omega); rw [pe1, pe2, HEZ.out]; rfl, hgf⟩
    · have s1 : (((gN l 6 2 : Nat) : Int) == 16384) = false := by rw [beq_eq_false_iff_ne]; omega
      by_cases f0 : gN l 6 2 = 0
      · have s2 : (((gN l 6 2 : Nat) : Int) == 0) = true := by rw [beq_iff_eq]; omega
        by_cases n20 : gN l 2 2 < 20
        · have s3 : decide (((gN l 2 2 : Nat) : Int) < 20) = true := by rw [decide_eq_true_eq]; omega
          have hE := Lib.hid (show pkE l = 2 by unfold pkE; rw [if_neg (by omega), if_pos (fun k => by have := k.2.2; omega)])
          go_wp2_with fail
          have hc := hC.fill7 (.int .i64 0) (.int .i64 0) (.int .i64 0) (.int .i64 0) (.bool false) (.int .u32 0) (.int .u32 0)
          have hgf := gr_fill7 hG (Nat.le_refl w.heap.size) (.int .i64 0) (.int .i64 0) (.int .i64 0) (.int .i64 0) (.bool false) (.int .u32 0) (.int .u32 0)
          clear x0 x1 x2 x3 x4 x5 x6 z0 z1 z2 z3 z4 z5 z6
          generalize (((((((w1.setCell ⟨w.heap.size, 0, none⟩ (.int .i64 0)).setCell ⟨w.heap.size, 1, none⟩ (.int .i64 0)).setCell ⟨w.heap.size, 2, none⟩ (.int .i64 0)).setCell ⟨w.heap.size, 3, none⟩ (.int .i64 0)).setCell ⟨w.heap.size, 4, none⟩ (.bool false)).setCell ⟨w.heap.size, 5, none⟩ (.int .u32 0)).setCell ⟨w.heap.size, 6, none⟩ (.int .u32 0)) = wf at *
          obtain ⟨⟨c0, c1, c2, c3, c4, c5, c6⟩, -⟩ := hc.seven
          exact bodyPost_ret (v := .tuple #[.agg #[.int .i64 0, .int .i64 0, .int .i64 0, .int .i64 0, .bool false, .int .u32 0, .int .u32 0], .int .i64 0, .int .i64 2]) (by simp [results, Tryz.results96, go_sem, c0, c1, c2, c3, c4, c5, c6]) rfl ⟨by obtain ⟨pe1, pe2⟩ := pk_err hE.out (by omega); rw [pe1, pe2, hE.out]; rfl, hgf⟩
        · have s3 : decide (((gN l 2 2 : Nat) : Int) < 20) = false := by rw [decide_eq_false_iff_not]; omega
          have HFM : Hid (formOk l) := Lib.hid ⟨e0, .inl f0, by omega⟩
          have HDC := Lib.hid (decide_eq_false f1)
          have CB1 := Lib.hid (fun w' (k : Gr w1 w') => CB.out 1 (by omega) w' (hG.step k))
          have CB8 := Lib.hid (fun w' (k : Gr w1 w') => CB.out 8 (by omega) w' (hG.step k))
          have CB9 := Lib.hid (fun w' (k : Gr w1 w') => CB.out 9 (by omega) w' (hG.step k))
          have u1 : (1 : Int) < (l.length : Int) := by omega
          have u8 : (8 : Int) < (l.length : Int) := by omega
          have u9 : (9 : Int) < (l.length : Int) := by omega
          have u1b : 1 < l.length := by omega
          have u8b : 8 < l.length := by omega
          have u9b : 9 < l.length := by omega
          have HHD : Hid (∀ w, Calls Tryz.prog 68 #[.agg #[.int .i64 (gN l 1 1 : Nat), .int .i64 (gN l 4 2 : Nat), .int .i64 (gN l 8 1 : Nat), .int .i64 (gN l 9 1 : Nat), .bool false, .int .u32 (gN l 12 4 : Nat), .int .u32 (gN l 16 4 : Nat)], .int .i64 (gN l 2 2 : Nat)] w fun e w' => ∃ v', e = .returned v' ∧ OwB w.heap.size w' v' (hbytes (hdAt l) (gN l 2 2)) ∧ Gr w w') := Lib.hid (fun w => by
            have := rheader_any (hdAt l) (hdAt_ok HR.out.bytes) (gN l 2 2) b2 w
            have hkb : (hdAt l).keep = false := by show decide (gN l 6 2 = 16384) = false; rw [HDC.out]
            unfold Hd.v hdV at this
            rw [hkb] at this
            exact this)
          go_wp2_with fail
          clear x0 x1 x2 x3 x4 x5 x6 z0 z1 z2 z3 z4 z5 z6
          refine region_cut ?aFfalse (fun w' => Gr w1 w' ∧ CL w' w1.heap.size [.int .i64 (gN l 1 1 : Nat), .int .i64 (gN l 4 2 : Nat), .int .i64 (gN l 8 1 : Nat), .int .i64 (gN l 9 1 : Nat), .bool false, .int .u32 (gN l 12 4 : Nat), .int .u32 (gN l 16 4 : Nat)]) ?regfalse ?contfalse
          case regfalse =>
            have eW1 : IntKind.i64.wrap ((gN l 1 1 : Nat) : Int) = ((gN l 1 1 : Nat) : Int) := by rw [IntWalk.i64_in _ (by omega)]
            have eW8 : IntKind.i64.wrap ((gN l 8 1 : Nat) : Int) = ((gN l 8 1 : Nat) : Int) := by rw [IntWalk.i64_in _ (by omega)]
            have eW9 : IntKind.i64.wrap ((gN l 9 1 : Nat) : Int) = ((gN l 9 1 : Nat) : Int) := by rw [IntWalk.i64_in _ (by omega)]
            have eU1 : IntKind.u32.wrap ((gN l 12 4 : Nat) : Int) = ((gN l 12 4 : Nat) : Int) := by rw [IntKind.wrap_u32]; omega
            have eU2 : IntKind.u32.wrap ((gN l 16 4 : Nat) : Int) = ((gN l 16 4 : Nat) : Int) := by rw [IntKind.wrap_u32]; omega
            have hS : Gr w1 w1.drew := Gr.drew (Gr.refl _)
            have HA7 : Hid (CL (w1.drew.alloc (.cells #[.int .i64 0, .int .i64 0, .int .i64 0, .int .i64 0, .bool false, .int .u32 0, .int .u32 0] 52)) w1.heap.size [.int .i64 0, .int .i64 0, .int .i64 0, .int .i64 0, .bool false, .int .u32 0, .int .u32 0]) := Lib.hid (CL.new w1.drew hz7 52 _ rfl)
            refine region_plain (Gr w1) (by kernel_rfl) ?_
            refine take_at 0 (some 33) (v := ?vfalsem0) rfl rfl (by kernel_rfl) (by kernel_rfl) (by kernel_rfl) (by rfl) ?yfalsem0 hS ?tfalsem0
            case yfalsem0 =>
              intro w' hSw
              have c1 := CB1.out _ hSw
              have c8 := CB8.out _ hSw
              have c9 := CB9.out _ hSw
              go_simp
              (try rw [if_pos (by omega)])
              (try with_reducible rfl)
            simp only [Act.put, List.setIfInBounds_toArray, List.set_cons_zero, List.set_cons_succ]
            refine take_at 1 (some 34) (v := ?vfalsem1) rfl rfl (by kernel_rfl) (by kernel_rfl) (by kernel_rfl) (by rfl) ?yfalsem1 hS ?tfalsem1
            case yfalsem1 =>
              intro w' hSw
              have c1 := CB1.out _ hSw
              have c8 := CB8.out _ hSw
              have c9 := CB9.out _ hSw
              go_simp
              (try rw [if_pos (by omega)])
              (try with_reducible rfl)
            simp only [Act.put, List.setIfInBounds_toArray, List.set_cons_zero, List.set_cons_succ]
            refine take_at 2 (some 35) (v := ?vfalsem2) rfl rfl (by kernel_rfl) (by kernel_rfl) (by kernel_rfl) (by rfl) ?yfalsem2 hS ?tfalsem2
            case yfalsem2 =>
              intro w' hSw
              have c1 := CB1.out _ hSw
              have c8 := CB8.out _ hSw
              have c9 := CB9.out _ hSw
              go_simp
              (try rw [if_pos (by omega)])
              (try with_reducible rfl)
            simp only [Act.put, List.setIfInBounds_toArray, List.set_cons_zero, List.set_cons_succ]
            refine take_at 3 (some 36) (v := ?vfalsem3) rfl rfl (by kernel_rfl) (by kernel_rfl) (by kernel_rfl) (by rfl) ?yfalsem3 hS ?tfalsem3
            case yfalsem3 =>
              intro w' hSw
              have c1 := CB1.out _ hSw
              have c8 := CB8.out _ hSw
              have c9 := CB9.out _ hSw
              go_simp
              (try rw [if_pos (by omega)])
              (try with_reducible rfl)
            simp only [Act.put, List.setIfInBounds_toArray, List.set_cons_zero, List.set_cons_succ]
            refine take_at 4 (some 37) (v := ?vfalsem4) rfl rfl (by kernel_rfl) (by kernel_rfl) (by kernel_rfl) (by rfl) ?yfalsem4 hS ?tfalsem4
            case yfalsem4 =>
              intro w' hSw
              have c1 := CB1.out _ hSw
              have c8 := CB8.out _ hSw
              have c9 := CB9.out _ hSw
              go_simp
              (try rw [if_pos (by omega)])
              (try with_reducible rfl)
            simp only [Act.put, List.setIfInBounds_toArray, List.set_cons_zero, List.set_cons_succ]
            refine take_at 6 (some 39) (v := ?vfalsem6) rfl rfl (by kernel_rfl) (by kernel_rfl) (by kernel_rfl) (by rfl) ?yfalsem6 hS ?tfalsem6
            case yfalsem6 =>
              intro w' hSw
              have c1 := CB1.out _ hSw
              have c8 := CB8.out _ hSw
              have c9 := CB9.out _ hSw
              go_simp
              (try rw [if_pos (by omega)])
              (try with_reducible rfl)
            simp only [Act.put, List.setIfInBounds_toArray, List.set_cons_zero, List.set_cons_succ]
            refine take_at 7 (some 40) (v := ?vfalsem7) rfl rfl (by kernel_rfl) (by kernel_rfl) (by kernel_rfl) (by rfl) ?yfalsem7 hS ?tfalsem7
            case yfalsem7 =>
              intro w' hSw
              have c1 := CB1.out _ hSw
              have c8 := CB8.out _ hSw
              have c9 := CB9.out _ hSw
              go_simp
              (try rw [if_pos (by omega)])
              (try with_reducible rfl)
            simp only [Act.put, List.setIfInBounds_toArray, List.set_cons_zero, List.set_cons_succ]
            refine take_at 8 (some 41) (v := ?vfalsem8) rfl rfl (by kernel_rfl) (by kernel_rfl) (by kernel_rfl) (by rfl) ?yfalsem8 hS ?tfalsem8
            case yfalsem8 =>
              intro w' hSw
              have c1 := CB1.out _ hSw
              have c8 := CB8.out _ hSw
              have c9 := CB9.out _ hSw
              go_simp
              (try rw [if_pos (by omega)])
              (try with_reducible rfl)
            simp only [Act.put, List.setIfInBounds_toArray, List.set_cons_zero, List.set_cons_succ]
            refine take_at 9 (some 42) (v := ?vfalsem9) rfl rfl (by kernel_rfl) (by kernel_rfl) (by kernel_rfl) (by rfl) ?yfalsem9 hS ?tfalsem9
            case yfalsem9 =>
              intro w' hSw
              have c1 := CB1.out _ hSw
              have c8 := CB8.out _ hSw
              have c9 := CB9.out _ hSw
              go_simp
              (try rw [if_pos (by omega)])
              (try with_reducible rfl)
            simp only [Act.put, List.setIfInBounds_toArray, List.set_cons_zero, List.set_cons_succ]
            refine take_at 10 (some 43) (v := ?vfalsem10) rfl rfl (by kernel_rfl) (by kernel_rfl) (by kernel_rfl) (by rfl) ?yfalsem10 hS ?tfalsem10
            case yfalsem10 =>
              intro w' hSw
              have c1 := CB1.out _ hSw
              have c8 := CB8.out _ hSw
              have c9 := CB9.out _ hSw
              go_simp
              (try rw [if_pos (by omega)])
              (try with_reducible rfl)
            simp only [Act.put, List.setIfInBounds_toArray, List.set_cons_zero, List.set_cons_succ]
            refine take_at 11 (some 44) (v := ?vfalsem11) rfl rfl (by kernel_rfl) (by kernel_rfl) (by kernel_rfl) (by rfl) ?yfalsem11 hS ?tfalsem11
            case yfalsem11 =>
              intro w' hSw
              have c1 := CB1.out _ hSw
              have c8 := CB8.out _ hSw
              have c9 := CB9.out _ hSw
              go_simp
              (try rw [if_pos (by omega)])
              (try with_reducible rfl)
            simp only [Act.put, List.setIfInBounds_toArray, List.set_cons_zero, List.set_cons_succ]
            refine take_at 12 (some 45) (v := ?vfalsem12) rfl rfl (by kernel_rfl) (by kernel_rfl) (by kernel_rfl) (by rfl) ?yfalsem12 hS ?tfalsem12
            case yfalsem12 =>
              intro w' hSw
              have c1 := CB1.out _ hSw
              have c8 := CB8.out _ hSw
              have c9 := CB9.out _ hSw
              go_simp
              (try rw [if_pos (by omega)])
              (try with_reducible rfl)
            simp only [Act.put, List.setIfInBounds_toArray, List.set_cons_zero, List.set_cons_succ]
            refine take_at 13 (some 46) (v := ?vfalsem13) rfl rfl (by kernel_rfl) (by kernel_rfl) (by kernel_rfl) (by rfl) ?yfalsem13 hS ?tfalsem13
            case yfalsem13 =>
              intro w' hSw
              have c1 := CB1.out _ hSw
              have c8 := CB8.out _ hSw
              have c9 := CB9.out _ hSw
              go_simp
              (try rw [if_pos (by omega)])
              (try with_reducible rfl)
            simp only [Act.put, List.setIfInBounds_toArray, List.set_cons_zero, List.set_cons_succ]
            refine take_at 14 (some 47) (v := ?vfalsem14) rfl rfl (by kernel_rfl) (by kernel_rfl) (by kernel_rfl) (by rfl) ?yfalsem14 hS ?tfalsem14
            case yfalsem14 =>
              intro w' hSw
              have c1 := CB1.out _ hSw
              have c8 := CB8.out _ hSw
              have c9 := CB9.out _ hSw
              go_simp
              (try rw [if_pos (by omega)])
              (try with_reducible rfl)
            simp only [Act.put, List.setIfInBounds_toArray, List.set_cons_zero, List.set_cons_succ]
            refine take_at 15 (some 48) (v := ?vfalsem15) rfl rfl (by kernel_rfl) (by kernel_rfl) (by kernel_rfl) (by rfl) ?yfalsem15 hS ?tfalsem15
            case yfalsem15 =>
              intro w' hSw
              have c1 := CB1.out _ hSw
              have c8 := CB8.out _ hSw
              have c9 := CB9.out _ hSw
              go_simp
              (try rw [if_pos (by omega)])
              (try with_reducible rfl)
            simp only [Act.put, List.setIfInBounds_toArray, List.set_cons_zero, List.set_cons_succ]
            refine take_at 16 (some 49) (v := ?vfalsem16) rfl rfl (by kernel_rfl) (by kernel_rfl) (by kernel_rfl) (by rfl) ?yfalsem16 hS ?tfalsem16
            case yfalsem16 =>
              intro w' hSw
              have c1 := CB1.out _ hSw
              have c8 := CB8.out _ hSw
              have c9 := CB9.out _ hSw
              go_simp
              (try rw [if_pos (by omega)])
              (try with_reducible rfl)
            simp only [Act.put, List.setIfInBounds_toArray, List.set_cons_zero, List.set_cons_succ]
            refine take_at 19 (some 52) (v := ?vfalsem19) rfl rfl (by kernel_rfl) (by kernel_rfl) (by kernel_rfl) (by rfl) ?yfalsem19 hS ?tfalsem19
            case yfalsem19 =>
              intro w' hSw
              have c1 := CB1.out _ hSw
              have c8 := CB8.out _ hSw
              have c9 := CB9.out _ hSw
              go_simp
              (try rw [if_pos (by omega)])
              (try with_reducible rfl)
            simp only [Act.put, List.setIfInBounds_toArray, List.set_cons_zero, List.set_cons_succ]
            refine next_two 5 23 rfl rfl (by kernel_rfl) (by rfl) (by rfl) (fun K hK => ?_) (fun K hK => ?_)
            · skip
              go_simp
              refine (HAT.out 4 2 _ (hG.step hS) (by omega) (by omega) (by omega)).mono ?_
              rintro e wj ⟨rfl, rfl⟩
              refine hK _ _ hS ?_
              clear hK K
              refine next_two 17 23 rfl rfl (by kernel_rfl) (by rfl) (by rfl) (fun K hK => ?_) (fun K hK => ?_)
              · skip
                go_simp
                refine (HAT.out 12 4 _ (hG.step hS) (by omega) (by omega) (by omega)).mono ?_
                rintro e wj ⟨rfl, rfl⟩
                refine hK _ _ hS ?_
                clear hK K
                refine take_at 18 (some 51) (v := ?vfalsea18) rfl rfl (by kernel_rfl) (by kernel_rfl) (by kernel_rfl) (by rfl) ?yfalsea18 hS ?tfalsea18
                case yfalsea18 =>
                  intro w' hSw
                  have c1 := CB1.out _ hSw
                  have c8 := CB8.out _ hSw
                  have c9 := CB9.out _ hSw
                  go_simp
                  (try rw [if_pos (by omega)])
                  (try with_reducible rfl)
                simp only [Act.put, List.setIfInBounds_toArray, List.set_cons_zero, List.set_cons_succ]
                refine next_two 20 23 rfl rfl (by kernel_rfl) (by rfl) (by rfl) (fun K hK => ?_) (fun K hK => ?_)
                · skip
                  go_simp
                  refine (HAT.out 16 4 _ (hG.step hS) (by omega) (by omega) (by omega)).mono ?_
                  rintro e wj ⟨rfl, rfl⟩
                  refine hK _ _ hS ?_
                  clear hK K
                  refine take_at 21 (some 54) (v := ?vfalseb21) rfl rfl (by kernel_rfl) (by kernel_rfl) (by kernel_rfl) (by rfl) ?yfalseb21 hS ?tfalseb21
                  case yfalseb21 =>
                    intro w' hSw
                    have c1 := CB1.out _ hSw
                    have c8 := CB8.out _ hSw
                    have c9 := CB9.out _ hSw
                    go_simp
                    (try rw [if_pos (by omega)])
                    (try with_reducible rfl)
                  simp only [Act.put, List.setIfInBounds_toArray, List.set_cons_zero, List.set_cons_succ]
                  refine take_at 22 (some 55) (v := ?vfalseb22) rfl rfl (by kernel_rfl) (by kernel_rfl) (by kernel_rfl) (by rfl) ?yfalseb22 hS ?tfalseb22
                  case yfalseb22 =>
                    intro w' hSw
                    have c1 := CB1.out _ hSw
                    have c8 := CB8.out _ hSw
                    have c9 := CB9.out _ hSw
                    go_simp
                    (try rw [if_pos (by omega)])
                    (try with_reducible rfl)
                  simp only [Act.put, List.setIfInBounds_toArray, List.set_cons_zero, List.set_cons_succ]
                  refine next_at 23 rfl (by kernel_rfl) (by rfl) (fun K hK => ?_)
                  go_simp
                  have hS := hS.alloc (.cells #[.int .i64 0, .int .i64 0, .int .i64 0, .int .i64 0, .bool false, .int .u32 0, .int .u32 0] 52)
                  refine hK _ _ hS ?_
                  clear hK K
                  obtain ⟨⟨y0, y1, y2, y3, y4, y5, y6⟩, v0, v1, v2, v3, v4, v5, v6⟩ := HA7.out.seven
                  refine next_at 24 rfl (by kernel_rfl) (by rfl) (fun K hK => ?_)
                  go_simp
                  refine hK _ _ ((Gr.alloc (Gr.refl w1) (.cells #[.int .i64 (gN l 1 1 : Nat), .int .i64 (gN l 4 2 : Nat), .int .i64 (gN l 8 1 : Nat), .int .i64 (gN l 9 1 : Nat), .bool false, .int .u32 (gN l 12 4 : Nat), .int .u32 (gN l 16 4 : Nat)] 52)).drew) ?_
                  clear hK K y0 y1 y2 y3 y4 y5 y6 v0 v1 v2 v3 v4 v5 v6
                  refine wpAnyH_done (by kernel_rfl) ?_ _
                  refine qz_normal ⟨rfl, ?_, (Gr.alloc (Gr.refl w1) (.cells #[.int .i64 (gN l 1 1 : Nat), .int .i64 (gN l 4 2 : Nat), .int .i64 (gN l 8 1 : Nat), .int .i64 (gN l 9 1 : Nat), .bool false, .int .u32 (gN l 12 4 : Nat), .int .u32 (gN l 16 4 : Nat)] 52)).drew, (CL.new w1 [.int .i64 (gN l 1 1 : Nat), .int .i64 (gN l 4 2 : Nat), .int .i64 (gN l 8 1 : Nat), .int .i64 (gN l 9 1 : Nat), .bool false, .int .u32 (gN l 12 4 : Nat), .int .u32 (gN l 16 4 : Nat)] 52 _ rfl).gr (Gr.drew (Gr.refl _))⟩
                  first | with_reducible rfl | rfl
                · skip
                  go_simp
                  have hS := hS.alloc (.cells #[.int .i64 0, .int .i64 0, .int .i64 0, .int .i64 0, .bool false, .int .u32 0, .int .u32 0] 52)
                  refine hK _ _ hS ?_
                  clear hK K
                  refine next_at 20 rfl (by kernel_rfl) (by rfl) (fun K hK => ?_)
                  go_simp
                  refine (HAT.out 16 4 _ (hG.step hS) (by omega) (by omega) (by omega)).mono ?_
                  rintro e wj ⟨rfl, rfl⟩
                  refine hK _ _ hS ?_
                  clear hK K
                  refine take_at 21 (some 54) (v := ?vfalsec21) rfl rfl (by kernel_rfl) (by kernel_rfl) (by kernel_rfl) (by rfl) ?yfalsec21 hS ?tfalsec21
                  case yfalsec21 =>
                    intro w' hSw
                    have c1 := CB1.out _ hSw
                    have c8 := CB8.out _ hSw
                    have c9 := CB9.out _ hSw
                    go_simp
                    (try rw [if_pos (by omega)])
                    (try with_reducible rfl)
                  simp only [Act.put, List.setIfInBounds_toArray, List.set_cons_zero, List.set_cons_succ]
                  refine take_at 22 (some 55) (v := ?vfalsec22) rfl rfl (by kernel_rfl) (by kernel_rfl) (by kernel_rfl) (by rfl) ?yfalsec22 hS ?tfalsec22
                  case yfalsec22 =>
                    intro w' hSw
                    have c1 := CB1.out _ hSw
                    have c8 := CB8.out _ hSw
                    have c9 := CB9.out _ hSw
                    go_simp
                    (try rw [if_pos (by omega)])
                    (try with_reducible rfl)
                  simp only [Act.put, List.setIfInBounds_toArray, List.set_cons_zero, List.set_cons_succ]
                  skip
                  obtain ⟨⟨y0, y1, y2, y3, y4, y5, y6⟩, v0, v1, v2, v3, v4, v5, v6⟩ := HA7.out.seven
                  refine next_at 24 rfl (by kernel_rfl) (by rfl) (fun K hK => ?_)
                  go_simp
                  refine hK _ _ ((Gr.alloc (Gr.refl w1) (.cells #[.int .i64 (gN l 1 1 : Nat), .int .i64 (gN l 4 2 : Nat), .int .i64 (gN l 8 1 : Nat), .int .i64 (gN l 9 1 : Nat), .bool false, .int .u32 (gN l 12 4 : Nat), .int .u32 (gN l 16 4 : Nat)] 52)).drew) ?_
                  clear hK K y0 y1 y2 y3 y4 y5 y6 v0 v1 v2 v3 v4 v5 v6
                  refine wpAnyH_done (by kernel_rfl) ?_ _
                  refine qz_normal ⟨rfl, ?_, (Gr.alloc (Gr.refl w1) (.cells #[.int .i64 (gN l 1 1 : Nat), .int .i64 (gN l 4 2 : Nat), .int .i64 (gN l 8 1 : Nat), .int .i64 (gN l 9 1 : Nat), .bool false, .int .u32 (gN l 12 4 : Nat), .int .u32 (gN l 16 4 : Nat)] 52)).drew, (CL.new w1 [.int .i64 (gN l 1 1 : Nat), .int .i64 (gN l 4 2 : Nat), .int .i64 (gN l 8 1 : Nat), .int .i64 (gN l 9 1 : Nat), .bool false, .int .u32 (gN l 12 4 : Nat), .int .u32 (gN l 16 4 : Nat)] 52 _ rfl).gr (Gr.drew (Gr.refl _))⟩
                  first | with_reducible rfl | rfl
              · skip
                go_simp
                have hS := hS.alloc (.cells #[.int .i64 0, .int .i64 0, .int .i64 0, .int .i64 0, .bool false, .int .u32 0, .int .u32 0] 52)
                refine hK _ _ hS ?_
                clear hK K
                refine next_at 17 rfl (by kernel_rfl) (by rfl) (fun K hK => ?_)
                go_simp
                refine (HAT.out 12 4 _ (hG.step hS) (by omega) (by omega) (by omega)).mono ?_
                rintro e wj ⟨rfl, rfl⟩
                refine hK _ _ hS ?_
                clear hK K
                refine take_at 18 (some 51) (v := ?vfalsed18) rfl rfl (by kernel_rfl) (by kernel_rfl) (by kernel_rfl) (by rfl) ?yfalsed18 hS ?tfalsed18
                case yfalsed18 =>
                  intro w' hSw
                  have c1 := CB1.out _ hSw
                  have c8 := CB8.out _ hSw
                  have c9 := CB9.out _ hSw
                  go_simp
                  (try rw [if_pos (by omega)])
                  (try with_reducible rfl)
                simp only [Act.put, List.setIfInBounds_toArray, List.set_cons_zero, List.set_cons_succ]
                refine next_at 20 rfl (by kernel_rfl) (by rfl) (fun K hK => ?_)
                go_simp
                refine (HAT.out 16 4 _ (hG.step hS) (by omega) (by omega) (by omega)).mono ?_
                rintro e wj ⟨rfl, rfl⟩
                refine hK _ _ hS ?_
                clear hK K
                refine take_at 21 (some 54) (v := ?vfalsee21) rfl rfl (by kernel_rfl) (by kernel_rfl) (by kernel_rfl) (by rfl) ?yfalsee21 hS ?tfalsee21
                case yfalsee21 =>
                  intro w' hSw
                  have c1 := CB1.out _ hSw
                  have c8 := CB8.out _ hSw
                  have c9 := CB9.out _ hSw
                  go_simp
                  (try rw [if_pos (by omega)])
                  (try with_reducible rfl)
                simp only [Act.put, List.setIfInBounds_toArray, List.set_cons_zero, List.set_cons_succ]
                refine take_at 22 (some 55) (v := ?vfalsee22) rfl rfl (by kernel_rfl) (by kernel_rfl) (by kernel_rfl) (by rfl) ?yfalsee22 hS ?tfalsee22
                case yfalsee22 =>
                  intro w' hSw
                  have c1 := CB1.out _ hSw
                  have c8 := CB8.out _ hSw
                  have c9 := CB9.out _ hSw
                  go_simp
                  (try rw [if_pos (by omega)])
                  (try with_reducible rfl)
                simp only [Act.put, List.setIfInBounds_toArray, List.set_cons_zero, List.set_cons_succ]
                skip
                obtain ⟨⟨y0, y1, y2, y3, y4, y5, y6⟩, v0, v1, v2, v3, v4, v5, v6⟩ := HA7.out.seven
                refine next_at 24 rfl (by kernel_rfl) (by rfl) (fun K hK => ?_)
                go_simp
                refine hK _ _ ((Gr.alloc (Gr.refl w1) (.cells #[.int .i64 (gN l 1 1 : Nat), .int .i64 (gN l 4 2 : Nat), .int .i64 (gN l 8 1 : Nat), .int .i64 (gN l 9 1 : Nat), .bool false, .int .u32 (gN l 12 4 : Nat), .int .u32 (gN l 16 4 : Nat)] 52)).drew) ?_
                clear hK K y0 y1 y2 y3 y4 y5 y6 v0 v1 v2 v3 v4 v5 v6
                refine wpAnyH_done (by kernel_rfl) ?_ _
                refine qz_normal ⟨rfl, ?_, (Gr.alloc (Gr.refl w1) (.cells #[.int .i64 (gN l 1 1 : Nat), .int .i64 (gN l 4 2 : Nat), .int .i64 (gN l 8 1 : Nat), .int .i64 (gN l 9 1 : Nat), .bool false, .int .u32 (gN l 12 4 : Nat), .int .u32 (gN l 16 4 : Nat)] 52)).drew, (CL.new w1 [.int .i64 (gN l 1 1 : Nat), .int .i64 (gN l 4 2 : Nat), .int .i64 (gN l 8 1 : Nat), .int .i64 (gN l 9 1 : Nat), .bool false, .int .u32 (gN l 12 4 : Nat), .int .u32 (gN l 16 4 : Nat)] 52 _ rfl).gr (Gr.drew (Gr.refl _))⟩
                first | with_reducible rfl | rfl
            · skip
              go_simp
              have hS := hS.alloc (.cells #[.int .i64 0, .int .i64 0, .int .i64 0, .int .i64 0, .bool false, .int .u32 0, .int .u32 0] 52)
              refine hK _ _ hS ?_
              clear hK K
              refine next_at 5 rfl (by kernel_rfl) (by rfl) (fun K hK => ?_)
              go_simp
              refine (HAT.out 4 2 _ (hG.step hS) (by omega) (by omega) (by omega)).mono ?_
              rintro e wj ⟨rfl, rfl⟩
              refine hK _ _ hS ?_
              clear hK K
              refine next_at 17 rfl (by kernel_rfl) (by rfl) (fun K hK => ?_)
              go_simp
              refine (HAT.out 12 4 _ (hG.step hS) (by omega) (by omega) (by omega)).mono ?_
              rintro e wj ⟨rfl, rfl⟩
              refine hK _ _ hS ?_
              clear hK K
              refine take_at 18 (some 51) (v := ?vfalsef18) rfl rfl (by kernel_rfl) (by kernel_rfl) (by kernel_rfl) (by rfl) ?yfalsef18 hS ?tfalsef18
              case yfalsef18 =>
                intro w' hSw
                have c1 := CB1.out _ hSw
                have c8 := CB8.out _ hSw
                have c9 := CB9.out _ hSw
                go_simp
                (try rw [if_pos (by omega)])
                (try with_reducible rfl)
              simp only [Act.put, List.setIfInBounds_toArray, List.set_cons_zero, List.set_cons_succ]
              refine next_at 20 rfl (by kernel_rfl) (by rfl) (fun K hK => ?_)
              go_simp
              refine (HAT.out 16 4 _ (hG.step hS) (by omega) (by omega) (by omega)).mono ?_
              rintro e wj ⟨rfl, rfl⟩
              refine hK _ _ hS ?_
              clear hK K
              refine take_at 21 (some 54) (v := ?vfalseg21) rfl rfl (by kernel_rfl) (by kernel_rfl) (by kernel_rfl) (by rfl) ?yfalseg21 hS ?tfalseg21
              case yfalseg21 =>
                intro w' hSw
                have c1 := CB1.out _ hSw
                have c8 := CB8.out _ hSw
                have c9 := CB9.out _ hSw
                go_simp
                (try rw [if_pos (by omega)])
                (try with_reducible rfl)
              simp only [Act.put, List.setIfInBounds_toArray, List.set_cons_zero, List.set_cons_succ]
              refine take_at 22 (some 55) (v := ?vfalseg22) rfl rfl (by kernel_rfl) (by kernel_rfl) (by kernel_rfl) (by rfl) ?yfalseg22 hS ?tfalseg22
              case yfalseg22 =>
                intro w' hSw
                have c1 := CB1.out _ hSw
                have c8 := CB8.out _ hSw
                have c9 := CB9.out _ hSw
                go_simp
                (try rw [if_pos (by omega)])
                (try with_reducible rfl)
              simp only [Act.put, List.setIfInBounds_toArray, List.set_cons_zero, List.set_cons_succ]
              skip
              obtain ⟨⟨y0, y1, y2, y3, y4, y5, y6⟩, v0, v1, v2, v3, v4, v5, v6⟩ := HA7.out.seven
              refine next_at 24 rfl (by kernel_rfl) (by rfl) (fun K hK => ?_)
              go_simp
              refine hK _ _ ((Gr.alloc (Gr.refl w1) (.cells #[.int .i64 (gN l 1 1 : Nat), .int .i64 (gN l 4 2 : Nat), .int .i64 (gN l 8 1 : Nat), .int .i64 (gN l 9 1 : Nat), .bool false, .int .u32 (gN l 12 4 : Nat), .int .u32 (gN l 16 4 : Nat)] 52)).drew) ?_
              clear hK K y0 y1 y2 y3 y4 y5 y6 v0 v1 v2 v3 v4 v5 v6
              refine wpAnyH_done (by kernel_rfl) ?_ _
              refine qz_normal ⟨rfl, ?_, (Gr.alloc (Gr.refl w1) (.cells #[.int .i64 (gN l 1 1 : Nat), .int .i64 (gN l 4 2 : Nat), .int .i64 (gN l 8 1 : Nat), .int .i64 (gN l 9 1 : Nat), .bool false, .int .u32 (gN l 12 4 : Nat), .int .u32 (gN l 16 4 : Nat)] 52)).drew, (CL.new w1 [.int .i64 (gN l 1 1 : Nat), .int .i64 (gN l 4 2 : Nat), .int .i64 (gN l 8 1 : Nat), .int .i64 (gN l 9 1 : Nat), .bool false, .int .u32 (gN l 12 4 : Nat), .int .u32 (gN l 16 4 : Nat)] 52 _ rfl).gr (Gr.drew (Gr.refl _))⟩
              first | with_reducible rfl | rfl
          case contfalse =>
            rintro wz ⟨hgz, hc7⟩
            replace hC := hC.gr hgz
            have HF := Lib.hid hc7
            have HRR := Lib.hid (fun w' (k : Gr wz w') => (HR.out.take (k := 20) (by omega)).gr ((hG.step hgz).step k))
            have HG := Lib.hid (hG.step hgz)
            have u1 : (20 : Int) ≤ (cap : Int) := by omega
            have u2 : 20 ≤ cap := by omega
            clear hc7 hgz hG u1b u8 u8b u9 u9b CB1 CB8 CB9 CB hca hc0
            generalize w1.heap.size = g7 at *
            go_wp2_with fail
            have hS : Gr wz wz.drew := Gr.drew (Gr.refl _)
            refine region_plain (Gr wz) (by kernel_rfl) ?_
            refine take_at 0 (some 56) (v := ?vfalsez0) rfl rfl (by kernel_rfl) (by kernel_rfl) (by kernel_rfl) (by rfl) ?yfalsez0 hS ?tfalsez0
            case yfalsez0 =>
              intro w' hSw
              obtain ⟨⟨q0, q1, q2, q3, q4, q5, q6⟩, -⟩ := (HF.out.gr hSw).seven
              go_simp
              (try rw [if_pos (by omega)])
              (try with_reducible rfl)
            simp only [Act.put, List.setIfInBounds_toArray, List.set_cons_zero, List.set_cons_succ]
            refine take_at 1 (some 57) (v := ?vfalsez1) rfl rfl (by kernel_rfl) (by kernel_rfl) (by kernel_rfl) (by rfl) ?yfalsez1 hS ?tfalsez1
            case yfalsez1 =>
              intro w' hSw
              obtain ⟨⟨q0, q1, q2, q3, q4, q5, q6⟩, -⟩ := (HF.out.gr hSw).seven
              go_simp
              (try rw [if_pos (by omega)])
              (try with_reducible rfl)
            simp only [Act.put, List.setIfInBounds_toArray, List.set_cons_zero, List.set_cons_succ]
            refine take_at 3 (some 59) (v := ?vfalsez3) rfl rfl (by kernel_rfl) (by kernel_rfl) (by kernel_rfl) (by rfl) ?yfalsez3 hS ?tfalsez3
            case yfalsez3 =>
              intro w' hSw
              obtain ⟨⟨q0, q1, q2, q3, q4, q5, q6⟩, -⟩ := (HF.out.gr hSw).seven
              go_simp
              (try rw [if_pos (by omega)])
              (try with_reducible rfl)
            simp only [Act.put, List.setIfInBounds_toArray, List.set_cons_zero, List.set_cons_succ]
            refine take_at 4 (some 60) (v := ?vfalsez4) rfl rfl (by kernel_rfl) (by kernel_rfl) (by kernel_rfl) (by rfl) ?yfalsez4 hS ?tfalsez4
            case yfalsez4 =>
              intro w' hSw
              obtain ⟨⟨q0, q1, q2, q3, q4, q5, q6⟩, -⟩ := (HF.out.gr hSw).seven
              go_simp
              (try rw [if_pos (by omega)])
              (try with_reducible rfl)
            simp only [Act.put, List.setIfInBounds_toArray, List.set_cons_zero, List.set_cons_succ]
            refine next_at 2 rfl (by kernel_rfl) (by rfl) (fun K hK => ?_)
            go_simp
            refine (HHD.out _).mono ?_
            rintro e w12 ⟨vh, rfl, hvh, hg2⟩
            have hS2 := Gr.step (Gr.drew (Gr.refl wz)) hg2
            obtain ⟨gh, ch, rfl, -, -, -⟩ := hvh.form (by rw [hbytes_len]; omega)
            rw [hbytes_len] at hvh ⊢
            have HE := Lib.hid (rweq_any w12 hvh.rb (HRR.out _ hS2) (by rw [hbytes_len]; omega) (by rw [List.length_take]; omega))
            refine hK _ _ hS2 ?_
            clear hK K hvh hS hg2
            have hS := hS2
            clear hS2
            by_cases hq : hbytes (hdAt l) (gN l 2 2) = l.take 20
            · have hE : pkE l = 0 := by unfold pkE; rw [if_neg (by omega), if_neg (fun k => k HFM.out), if_pos hq.symm]
              have HEZ := Lib.hid hE
              rw [decide_eq_true hq] at HE
              clear hq hE
              refine next_at 5 rfl (by kernel_rfl) (by rfl) (fun K hK => ?_)
              go_simp
              refine HE.out.mono ?_
              rintro e w13 ⟨rfl, hg13⟩
              have hS3 := hS.step hg13
              refine hK _ _ hS3 ?_
              clear hK K HE hS hg13
              have hS := hS3
              clear hS3
              refine next_at 6 rfl (by kernel_rfl) (by rfl) (fun K hK => ?_)
              go_simp
              refine hK _ _ hS ?_
              clear hK K
              refine wpAnyH_done (by kernel_rfl) ?_ _
              refine qz_normal ?_
              obtain ⟨⟨x0, x1, x2, x3, x4, x5, x6⟩, z0, z1, z2, z3, z4, z5, z6⟩ := (HF.out.gr hS).seven
              obtain ⟨⟨y0, y1, y2, y3, y4, y5, y6⟩, v0, v1, v2, v3, v4, v5, v6⟩ := (hC.gr hS).seven
              go_wp2_with fail
              have hc := (hC.gr hS).fill7 (.int .i64 (gN l 1 1 : Nat)) (.int .i64 (gN l 4 2 : Nat)) (.int .i64 (gN l 8 1 : Nat)) (.int .i64 (gN l 9 1 : Nat)) (.bool false) (.int .u32 (gN l 12 4 : Nat)) (.int .u32 (gN l 16 4 : Nat))
              have hgf := gr_fill7 (HG.out.step hS) (Nat.le_refl w.heap.size) (.int .i64 (gN l 1 1 : Nat)) (.int .i64 (gN l 4 2 : Nat)) (.int .i64 (gN l 8 1 : Nat)) (.int .i64 (gN l 9 1 : Nat)) (.bool false) (.int .u32 (gN l 12 4 : Nat)) (.int .u32 (gN l 16 4 : Nat))
              clear x0 x1 x2 x3 x4 x5 x6 z0 z1 z2 z3 z4 z5 z6 y0 y1 y2 y3 y4 y5 y6 v0 v1 v2 v3 v4 v5 v6 hS hC HF
              generalize (((((((w13.setCell ⟨w.heap.size, 0, none⟩ (.int .i64 (gN l 1 1 : Nat))).setCell ⟨w.heap.size, 1, none⟩ (.int .i64 (gN l 4 2 : Nat))).setCell ⟨w.heap.size, 2, none⟩ (.int .i64 (gN l 8 1 : Nat))).setCell ⟨w.heap.size, 3, none⟩ (.int .i64 (gN l 9 1 : Nat))).setCell ⟨w.heap.size, 4, none⟩ (.bool false)).setCell ⟨w.heap.size, 5, none⟩ (.int .u32 (gN l 12 4 : Nat))).setCell ⟨w.heap.size, 6, none⟩ (.int .u32 (gN l 16 4 : Nat))) = wf at *
              obtain ⟨⟨c0, c1, c2, c3, c4, c5, c6⟩, -⟩ := hc.seven
              refine bodyPost_ret (v := .tuple #[.agg #[.int .i64 (gN l 1 1 : Nat), .int .i64 (gN l 4 2 : Nat), .int .i64 (gN l 8 1 : Nat), .int .i64 (gN l 9 1 : Nat), .bool false, .int .u32 (gN l 12 4 : Nat), .int .u32 (gN l 16 4 : Nat)], .int .i64 (gN l 2 2 : Nat), .int .i64 0]) (by simp [results, Tryz.results96, go_sem, c0, c1, c2, c3, c4, c5, c6]) rfl ⟨?_, hgf⟩
              obtain ⟨pe1, pe2⟩ := pk_ok HEZ.out
              rw [pe1, pe2, HEZ.out]
              have hkb : (hdAt l).keep = false := by show decide (gN l 6 2 = 16384) = false; rw [HDC.out]
              unfold Hd.v hdV
              rw [hkb]
              rfl
            · have hE : pkE l = 4 := by unfold pkE; rw [if_neg (by omega), if_neg (fun k => k HFM.out), if_neg (fun k => hq k.symm)]
              have HEZ := Lib.hid hE
              rw [decide_eq_false hq] at HE
              clear hq hE
              refine next_at 5 rfl (by kernel_rfl) (by rfl) (fun K hK => ?_)
              go_simp
              refine HE.out.mono ?_
              rintro e w13 ⟨rfl, hg13⟩
              have hS3 := hS.step hg13
              refine hK _ _ hS3 ?_
              clear hK K HE hS hg13
              have hS := hS3
              clear hS3
              refine next_at 6 rfl (by kernel_rfl) (by rfl) (fun K hK => ?_)
              go_simp
              refine hK _ _ hS ?_
              clear hK K
              refine wpAnyH_done (by kernel_rfl) ?_ _
              refine qz_normal ?_
              obtain ⟨⟨y0, y1, y2, y3, y4, y5, y6⟩, v0, v1, v2, v3, v4, v5, v6⟩ := (hC.gr hS).seven
              go_wp2_with fail
              have hc := (hC.gr hS).fill7 (.int .i64 0) (.int .i64 0) (.int .i64 0) (.int .i64 0) (.bool false) (.int .u32 0) (.int .u32 0)
              have hgf := gr_fill7 (HG.out.step hS) (Nat.le_refl w.heap.size) (.int .i64 0) (.int .i64 0) (.int .i64 0) (.int .i64 0) (.bool false) (.int .u32 0) (.int .u32 0)
              clear y0 y1 y2 y3 y4 y5 y6 v0 v1 v2 v3 v4 v5 v6 hS hC HF
              generalize (((((((w13.setCell ⟨w.heap.size, 0, none⟩ (.int .i64 0)).setCell ⟨w.heap.size, 1, none⟩ (.int .i64 0)).setCell ⟨w.heap.size, 2, none⟩ (.int .i64 0)).setCell ⟨w.heap.size, 3, none⟩ (.int .i64 0)).setCell ⟨w.heap.size, 4, none⟩ (.bool false)).setCell ⟨w.heap.size, 5, none⟩ (.int .u32 0)).setCell ⟨w.heap.size, 6, none⟩ (.int .u32 0)) = wf at *
              obtain ⟨⟨c0, c1, c2, c3, c4, c5, c6⟩, -⟩ := hc.seven
              exact bodyPost_ret (v := .tuple #[.agg #[.int .i64 0, .int .i64 0, .int .i64 0, .int .i64 0, .bool false, .int .u32 0, .int .u32 0], .int .i64 0, .int .i64 4]) (by simp [results, Tryz.results96, go_sem, c0, c1, c2, c3, c4, c5, c6]) rfl ⟨by obtain ⟨pe1, pe2⟩ := pk_err HEZ.out (by omega); rw [pe1, pe2, HEZ.out]; rfl, hgf⟩
      · have s2 : (((gN l 6 2 : Nat) : Int) == 0) = false := by rw [beq_eq_false_iff_ne]; omega
        have hE := Lib.hid (show pkE l = 2 by unfold pkE; rw [if_neg (by omega), if_pos (fun k => by have := k.2.1; omega)])
        go_wp2_with fail
        have hc := hC.fill7 (.int .i64 0) (.int .i64 0) (.int .i64 0) (.int .i64 0) (.bool false) (.int .u32 0) (.int .u32 0)
        have hgf := gr_fill7 hG (Nat.le_refl w.heap.size) (.int .i64 0) (.int .i64 0) (.int .i64 0) (.int .i64 0) (.bool false) (.int .u32 0) (.int .u32 0)
        clear x0 x1 x2 x3 x4 x5 x6 z0 z1 z2 z3 z4 z5 z6
        generalize (((((((w1.setCell ⟨w.heap.size, 0, none⟩ (.int .i64 0)).setCell ⟨w.heap.size, 1, none⟩ (.int .i64 0)).setCell ⟨w.heap.size, 2, none⟩ (.int .i64 0)).setCell ⟨w.heap.size, 3, none⟩ (.int .i64 0)).setCell ⟨w.heap.size, 4, none⟩ (.bool false)).setCell ⟨w.heap.size, 5, none⟩ (.int .u32 0)).setCell ⟨w.heap.size, 6, none⟩ (.int .u32 0)) = wf at *
        obtain ⟨⟨c0, c1, c2, c3, c4, c5, c6⟩, -⟩ := hc.seven
        exact bodyPost_ret (v := .tuple #[.agg #[.int .i64 0, .int .i64 0, .int .i64 0, .int .i64 0, .bool false, .int .u32 0, .int .u32 0], .int .i64 0, .int .i64 2]) (by simp [results, Tryz.results96, go_sem, c0, c1, c2, c3, c4, c5, c6]) rfl ⟨by obtain ⟨pe1, pe2⟩ := pk_err hE.out (by omega); rw [pe1, pe2, hE.out]; rfl, hgf⟩
  · have s0 : (((gN l 0 1 : Nat) : Int) == 69) = false := by rw [beq_eq_false_iff_ne]; omega
    have hE := Lib.hid (show pkE l = 2 by unfold pkE; rw [if_neg (by omega), if_pos (fun k => e0 k.1)])
    go_wp2_with fail
    have hc := hC.fill7 (.int .i64 0) (.int .i64 0) (.int .i64 0) (.int .i64 0) (.bool false) (.int .u32 0) (.int .u32 0)
    have hgf := gr_fill7 hG (Nat.le_refl w.heap.size) (.int .i64 0) (.int .i64 0) (.int .i64 0) (.int .i64 0) (.bool false) (.int .u32 0) (.int .u32 0)
    clear x0 x1 x2 x3 x4 x5 x6 z0 z1 z2 z3 z4 z5 z6
    generalize (((((((w1.setCell ⟨w.heap.size, 0, none⟩ (.int .i64 0)).setCell ⟨w.heap.size, 1, none⟩ (.int .i64 0)).setCell ⟨w.heap.size, 2, none⟩ (.int .i64 0)).setCell ⟨w.heap.size, 3, none⟩ (.int .i64 0)).setCell ⟨w.heap.size, 4, none⟩ (.bool false)).setCell ⟨w.heap.size, 5, none⟩ (.int .u32 0)).setCell ⟨w.heap.size, 6, none⟩ (.int .u32 0)) = wf at *
    obtain ⟨⟨c0, c1, c2, c3, c4, c5, c6⟩, -⟩ := hc.seven
    exact bodyPost_ret (v := .tuple #[.agg #[.int .i64 0, .int .i64 0, .int .i64 0, .int .i64 0, .bool false, .int .u32 0, .int .u32 0], .int .i64 0, .int .i64 2]) (by simp [results, Tryz.results96, go_sem, c0, c1, c2, c3, c4, c5, c6]) rfl ⟨by obtain ⟨pe1, pe2⟩ := pk_err hE.out (by omega); rw [pe1, pe2, hE.out]; rfl, hgf⟩
theorem rpeek_any {p : Nat → Prop} {v : Value} {l : List Nat} (w : World) (hr : Rb p w v l) (hl : l.length ≤ 90000) :
    Calls Tryz.prog 96 #[v] w fun e w' => e = .returned (.tuple #[pkH l, .int .i64 (pkN l : Nat), .int .i64 (pkE l : Nat)]) ∧ Gr w w' := by
  by_cases h : l.length < 20
  · have hE : pkE l = 3 := if_pos h
    obtain ⟨pe1, pe2⟩ := pk_err hE (by omega)
    rw [pe1, pe2, hE]
    exact rpeek_short w hr h
  · exact rpeek_long w hr (by omega) hl
end Go.Proofs.YtkpejaiigopmgaaGreatDoor
