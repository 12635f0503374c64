/- Several texts in one. -/
import Derived.Test.YtkpejaiigopmgaaDoorGL
import Derived.Test.YtkpejaiigopmgaaDoorIhM
import Derived.Test.YtkpejaiigopmgaaDoorGD
import Derived.Test.YtkpejaiigopmgaaDoorGC
import Derived.WalkKit
import Derived.WalkSpells
import Derived.WalkLawsBesides
import Derived.WalkSmall
import Derived.Handy
import Derived.BigQuiet
import Derived.Deep.QuietTactic
import Derived.Deep.RegionHeld3
import Derived.Deep.DeepFit
import Derived.Below
import Derived.Lib.Hide
import Derived.Lib.QuietBelow
import Derived.Test.YtkpejaiigopmgaaDoorIeM
import Derived.Test.YtkpejaiigopmgaaDoorVbM
/- The document's header. -/
namespace Go.Proofs.YtkpejaiigopmgaaDoor
open Go Go.RowKit Go.Sort
set_option maxRecDepth 100000
set_option linter.unusedVariables false
def rhB (h : Hd) (n : Nat) : List Nat := [] ++ bput 69 1 ++ bput h.tos 1 ++ bput n 2 ++ bput h.id 2 ++ bput h.fl 2 ++ bput h.ttl 1 ++ bput h.proto 1
def rhT (h : Hd) : List Nat := [] ++ bput h.src 4 ++ bput h.dst 4
theorem rh_fin {h : Hd} (k : h.ok) (n s : Nat) : rhB h n ++ bput s 2 ++ rhT h = hraw h n s := by
  have := k.tos; have := k.ttl; have := k.proto
  simp only [rhB, rhT, bput, hraw, List.cons_append, List.nil_append, Nat.pow_zero, Nat.div_one]
  rw [Nat.mod_eq_of_lt (show h.tos < 256 by omega), Nat.mod_eq_of_lt (show h.ttl < 256 by omega), Nat.mod_eq_of_lt (show h.proto < 256 by omega)]
theorem rh_raw {h : Hd} (k : h.ok) (n : Nat) : rhB h n ++ ([0, 0] ++ rhT h) = hraw h n 0 := by
  rw [← rh_fin k n 0, List.append_assoc]; rfl
theorem rhB_len (h : Hd) (n : Nat) : (rhB h n).length = 10 := by simp [rhB, bput_len]
theorem rhT_len (h : Hd) : (rhT h).length = 8 := by simp [rhT, bput_len]
theorem owb_zeros (w : World) : OwB w.heap.size (w.alloc (.cells #[.int .u8 0, .int .u8 0] 5)) (.slice (some ⟨w.heap.size, 0, none⟩) 2 2) [0, 0] := by
  have h := World.ownsRow_lit (base := w.heap.size) (e := 5) (size := 1) w #[.int .u8 0, .int .u8 0] 2 (Nat.le_refl _) (by unfold maxLen; omega) (by simp)
  exact ⟨h, fun y hy => by simp at hy; omega⟩
set_option maxHeartbeats 1000000 in
theorem rheader_any (h : Hd) (k : h.ok) (n : Nat) (hn : n < 65536) (w : World) :
    Calls Tryd.prog 65 #[h.v, .int .i64 n] w fun e w' => ∃ v', e = .returned v' ∧ OwB w.heap.size w' v' (hbytes h n) ∧ Gr w w' := by
  have k1 := k.src
  have k2 := k.dst
  have k3 := k.tos
  have k4 := k.id
  have k5 := k.ttl
  have k6 := k.proto
  have K := Lib.hid k
  clear k
  cases hk : h.keep with
  | false =>
    have hC := CL.new w [.int .i64 h.tos, .int .i64 h.id, .int .i64 h.ttl, .int .i64 h.proto, .bool false, .int .u32 h.src, .int .u32 h.dst] 51 _ rfl
    have hG := Gr.alloc (Gr.refl w) (.cells #[.int .i64 h.tos, .int .i64 h.id, .int .i64 h.ttl, .int .i64 h.proto, .bool false, .int .u32 h.src, .int .u32 h.dst] 51)
    have HFL := Lib.hid (show h.fl = 0 by unfold Hd.fl; rw [hk]; rfl)
    unfold Hd.v hdV
    rw [hk]
    clear hk
    obtain ⟨l0, hl0⟩ : ∃ l : List Nat, l = [] := ⟨_, rfl⟩
    have hlen : l0.length = 0 := by rw [hl0]; rfl
    have HN := Lib.hid (fun w : World => (by rw [hl0]; exact Rb.nil _ _ : Rb (fun _ => True) w (.slice none 0 0) l0))
    go_enter Tryd.func65, Tryd.ntmps65
    obtain ⟨⟨x0, x1, x2, x3, x4, x5, x6⟩, -⟩ := hC.seven
    go_wp2_with fail
    clear x0 x1 x2 x3 x4 x5 x6
    refine (rpush_any 69 1 _ (HN.out _) (by rw [hlen]; omega) (by omega) (by omega) (by decide)).mono ?_
    rintro e w1 ⟨v1, rfl, ho, hg⟩
    have hG := hG.step hg
    have hC := hC.gr hg
    have hlen1 : (l0 ++ bput 69 1).length = 1 := by rw [List.length_append, bput_len, hlen]
    obtain ⟨l1, hl1⟩ : ∃ l', l' = l0 ++ bput 69 1 := ⟨_, rfl⟩
    rw [← hl1] at ho hlen1
    have HO := Lib.hid ho
    obtain ⟨a1, c1, rfl, -, -⟩ := ho.rb.form
    clear hlen hg ho
    have hlen := hlen1
    clear hlen1
    rw [hlen] at HO ⊢
    obtain ⟨⟨x0, x1, x2, x3, x4, x5, x6⟩, -⟩ := hC.seven
    go_wp2_with fail
    clear x0 x1 x2 x3 x4 x5 x6
    refine (rpush_any h.tos 1 _ HO.out.rb (by rw [hlen]; omega) (by omega) (by omega) (by show h.tos < 256; omega)).mono ?_
    rintro e w1 ⟨v1, rfl, ho, hg⟩
    have hG := hG.step hg
    have hC := hC.gr hg
    have hlen1 : (l1 ++ bput h.tos 1).length = 2 := by rw [List.length_append, bput_len, hlen]
    obtain ⟨l2, hl2⟩ : ∃ l', l' = l1 ++ bput h.tos 1 := ⟨_, rfl⟩
    rw [← hl2] at ho hlen1
    have HO := Lib.hid ho
    obtain ⟨a1, c1, rfl, -, -⟩ := ho.rb.form
    clear hlen hg ho
    have hlen := hlen1
    clear hlen1
    rw [hlen] at HO ⊢
    obtain ⟨⟨x0, x1, x2, x3, x4, x5, x6⟩, -⟩ := hC.seven
    go_wp2_with fail
    clear x0 x1 x2 x3 x4 x5 x6
    refine (rpush_any n 2 _ HO.out.rb (by rw [hlen]; omega) (by omega) (by omega) (hn)).mono ?_
    rintro e w1 ⟨v1, rfl, ho, hg⟩
    have hG := hG.step hg
    have hC := hC.gr hg
    have hlen1 : (l2 ++ bput n 2).length = 4 := by rw [List.length_append, bput_len, hlen]
    obtain ⟨l3, hl3⟩ : ∃ l', l' = l2 ++ bput n 2 := ⟨_, rfl⟩
    rw [← hl3] at ho hlen1
    have HO := Lib.hid ho
    obtain ⟨a1, c1, rfl, -, -⟩ := ho.rb.form
    clear hlen hg ho
    have hlen := hlen1
    clear hlen1
    rw [hlen] at HO ⊢
    obtain ⟨⟨x0, x1, x2, x3, x4, x5, x6⟩, -⟩ := hC.seven
    go_wp2_with fail
    clear x0 x1 x2 x3 x4 x5 x6
    refine (rpush_any h.id 2 _ HO.out.rb (by rw [hlen]; omega) (by omega) (by omega) (by show h.id < 65536; omega)).mono ?_
    rintro e w1 ⟨v1, rfl, ho, hg⟩
    have hG := hG.step hg
    have hC := hC.gr hg
    have hlen1 : (l3 ++ bput h.id 2).length = 6 := by rw [List.length_append, bput_len, hlen]
    obtain ⟨l4, hl4⟩ : ∃ l', l' = l3 ++ bput h.id 2 := ⟨_, rfl⟩
    rw [← hl4] at ho hlen1
    have HO := Lib.hid ho
    obtain ⟨a1, c1, rfl, -, -⟩ := ho.rb.form
    clear hlen hg ho
    have hlen := hlen1
    clear hlen1
    rw [hlen] at HO ⊢
    obtain ⟨⟨x0, x1, x2, x3, x4, x5, x6⟩, -⟩ := hC.seven
    go_wp2_with fail
    clear x0 x1 x2 x3 x4 x5 x6
    refine (rpush_any 0 2 _ HO.out.rb (by rw [hlen]; omega) (by omega) (by omega) (by decide)).mono ?_
    rintro e w1 ⟨v1, rfl, ho, hg⟩
    have hG := hG.step hg
    have hC := hC.gr hg
    have hlen1 : (l4 ++ bput 0 2).length = 8 := by rw [List.length_append, bput_len, hlen]
    obtain ⟨l5, hl5⟩ : ∃ l', l' = l4 ++ bput 0 2 := ⟨_, rfl⟩
    rw [← hl5] at ho hlen1
    have HO := Lib.hid ho
    obtain ⟨a1, c1, rfl, -, -⟩ := ho.rb.form
    clear hlen hg ho
    have hlen := hlen1
    clear hlen1
    rw [hlen] at HO ⊢
    obtain ⟨⟨x0, x1, x2, x3, x4, x5, x6⟩, -⟩ := hC.seven
    go_wp2_with fail
    clear x0 x1 x2 x3 x4 x5 x6
    refine (rpush_any h.ttl 1 _ HO.out.rb (by rw [hlen]; omega) (by omega) (by omega) (by show h.ttl < 256; omega)).mono ?_
    rintro e w1 ⟨v1, rfl, ho, hg⟩
    have hG := hG.step hg
    have hC := hC.gr hg
    have hlen1 : (l5 ++ bput h.ttl 1).length = 9 := by rw [List.length_append, bput_len, hlen]
    obtain ⟨l6, hl6⟩ : ∃ l', l' = l5 ++ bput h.ttl 1 := ⟨_, rfl⟩
    rw [← hl6] at ho hlen1
    have HO := Lib.hid ho
    obtain ⟨a1, c1, rfl, -, -⟩ := ho.rb.form
    clear hlen hg ho
    have hlen := hlen1
    clear hlen1
    rw [hlen] at HO ⊢
    obtain ⟨⟨x0, x1, x2, x3, x4, x5, x6⟩, -⟩ := hC.seven
    go_wp2_with fail
    clear x0 x1 x2 x3 x4 x5 x6
    have hbase0 := Gr.size hG
    refine (rpush_any h.proto 1 _ HO.out.rb (by rw [hlen]; omega) (by omega) (by omega) (by show h.proto < 256; omega)).mono ?_
    rintro e w1 ⟨v1, rfl, ho, hg⟩
    have hG := hG.step hg
    have hC := hC.gr hg
    have hlen1 : (l6 ++ bput h.proto 1).length = 10 := by rw [List.length_append, bput_len, hlen]
    obtain ⟨l7, hl7⟩ : ∃ l', l' = l6 ++ bput h.proto 1 := ⟨_, rfl⟩
    rw [← hl7] at ho hlen1
    have HO := Lib.hid ho
    obtain ⟨a1, c1, rfl, -, -⟩ := ho.rb.form
    clear hlen hg ho
    have hlen := hlen1
    clear hlen1
    rw [hlen] at HO ⊢
    go_wp2_with fail
    have HB7 : Hid (l7 = rhB h n) := Lib.hid (by rw [hl7, hl6, hl5, hl4, hl3, hl2, hl1, hl0, ← HFL.out]; rfl)
    rw [HB7.out] at HO
    clear hl0 hl1 hl2 hl3 hl4 hl5 hl6 hl7 hlen HN
    have HC := Lib.hid hC
    have HOB := Lib.hid (HO.out.base hbase0)
    clear hC
    have eW1 : IntKind.i64.wrap (h.src : Int) = (h.src : Int) := by rw [IntWalk.i64_in _ (by omega)]
    have eW2 : IntKind.i64.wrap (h.dst : Int) = (h.dst : Int) := by rw [IntWalk.i64_in _ (by omega)]
    have hS : Gr w1 w1.drew := Gr.drew (Gr.refl _)
    refine region_plain (Gr w1) (by kernel_rfl) ?_
    refine take_at 0 (some 34) (v := ?vfalse0) rfl rfl (by kernel_rfl) (by kernel_rfl) (by kernel_rfl) (by rfl) ?yfalse0 hS ?tfalse0
    case yfalse0 =>
      intro w' hSw
      obtain ⟨⟨q0, q1, q2, q3, q4, q5, q6⟩, -⟩ := (HC.out.gr hSw).seven
      go_simp
      (try with_reducible rfl)
    simp only [Act.put, List.setIfInBounds_toArray, List.set_cons_zero, List.set_cons_succ]
    refine take_at 1 (some 35) (v := ?vfalse1) rfl rfl (by kernel_rfl) (by kernel_rfl) (by kernel_rfl) (by rfl) ?yfalse1 hS ?tfalse1
    case yfalse1 =>
      intro w' hSw
      obtain ⟨⟨q0, q1, q2, q3, q4, q5, q6⟩, -⟩ := (HC.out.gr hSw).seven
      go_simp
      (try with_reducible rfl)
    simp only [Act.put, List.setIfInBounds_toArray, List.set_cons_zero, List.set_cons_succ]
    refine take_at 2 (some 36) (v := ?vfalse2) rfl rfl (by kernel_rfl) (by kernel_rfl) (by kernel_rfl) (by rfl) ?yfalse2 hS ?tfalse2
    case yfalse2 =>
      intro w' hSw
      obtain ⟨⟨q0, q1, q2, q3, q4, q5, q6⟩, -⟩ := (HC.out.gr hSw).seven
      go_simp
      (try with_reducible rfl)
    simp only [Act.put, List.setIfInBounds_toArray, List.set_cons_zero, List.set_cons_succ]
    refine take_at 4 (some 38) (v := ?vfalse4) rfl rfl (by kernel_rfl) (by kernel_rfl) (by kernel_rfl) (by rfl) ?yfalse4 hS ?tfalse4
    case yfalse4 =>
      intro w' hSw
      obtain ⟨⟨q0, q1, q2, q3, q4, q5, q6⟩, -⟩ := (HC.out.gr hSw).seven
      go_simp
      (try with_reducible rfl)
    simp only [Act.put, List.setIfInBounds_toArray, List.set_cons_zero, List.set_cons_succ]
    refine take_at 5 (some 39) (v := ?vfalse5) rfl rfl (by kernel_rfl) (by kernel_rfl) (by kernel_rfl) (by rfl) ?yfalse5 hS ?tfalse5
    case yfalse5 =>
      intro w' hSw
      obtain ⟨⟨q0, q1, q2, q3, q4, q5, q6⟩, -⟩ := (HC.out.gr hSw).seven
      go_simp
      (try with_reducible rfl)
    simp only [Act.put, List.setIfInBounds_toArray, List.set_cons_zero, List.set_cons_succ]
    refine take_at 6 (some 40) (v := ?vfalse6) rfl rfl (by kernel_rfl) (by kernel_rfl) (by kernel_rfl) (by rfl) ?yfalse6 hS ?tfalse6
    case yfalse6 =>
      intro w' hSw
      obtain ⟨⟨q0, q1, q2, q3, q4, q5, q6⟩, -⟩ := (HC.out.gr hSw).seven
      go_simp
      (try with_reducible rfl)
    simp only [Act.put, List.setIfInBounds_toArray, List.set_cons_zero, List.set_cons_succ]
    refine next_at 3 rfl (by kernel_rfl) (by rfl) (fun K hK => ?_)
    go_simp
    refine (rpush_any h.src 4 _ (Rb.nil (fun _ => True) _) (by simp) (by omega) (by omega) (by show h.src < 4294967296; omega)).mono ?_
    rintro e w2 ⟨v2, rfl, ho2, hg2⟩
    have hS2 := Gr.step hS hg2
    have HS2 := Lib.hid ho2.rb
    obtain ⟨a2, c2, rfl, -, -⟩ := ho2.rb.form
    refine hK _ _ hS2 ?_
    clear hK K hS ho2 hg2
    have hS := hS2
    clear hS2
    refine next_at 7 rfl (by kernel_rfl) (by rfl) (fun K hK => ?_)
    go_simp
    refine (rpush_any h.dst 4 _ HS2.out (by rw [List.length_append, bput_len]; simp) (by omega) (by omega) (by show h.dst < 4294967296; omega)).mono ?_
    rintro e w3 ⟨v3, rfl, ho3, hg3⟩
    have hS3 := Gr.step hS hg3
    have hT : Rb (fun _ => True) w3 v3 (rhT h) := ho3.rb.any
    refine hK _ _ hS3 ?_
    clear hK K hS ho3 hg3 HS2
    have hS := hS3
    clear hS3
    obtain ⟨a3, c3, rfl, -, -⟩ := hT.form
    rw [rhT_len] at hT ⊢
    have HT := Lib.hid hT
    clear hT
    refine next_at 8 rfl (by kernel_rfl) (by rfl) (fun K hK => ?_)
    go_simp
    refine hK _ _ hS ?_
    clear hK K
    refine wpAnyH_done (by kernel_rfl) ?_ _
    refine qz_normal ?_
    have hG3 := hG.step hS
    have HO3 := Lib.hid (HOB.out.gr hS)
    have HLB := Lib.hid (rhB_len h n)
    have HLT := Lib.hid (rhT_len h)
    clear hS
    go_wp2_with (first
      | (at_builtin
         refine wpList_app (base := w3.heap.size) rfl (.const (.slice none 0 0)) (.tmp 42) rfl rfl (OwB.nil _ _) rfl HO3.out.rb (by rw [HLB.out]; simp) (Nat.le_refl _) ?_
         intro v4 w4 ho4 g4
         have hg4 : Gr w3 w4 := Gr.grownNew (Gr.refl _) g4 (fun _ h => by cases h)
         rw [List.nil_append] at ho4
         have HO4 := Lib.hid ho4
         clear ho4 g4)
      | (at_builtin
         refine wpList_app (base := w4.heap.size) rfl (.tmp 44) (.tmp 45) rfl rfl (owb_zeros w4) rfl ((HT.out.gr hg4).gr (Gr.alloc (Gr.refl _) _)) (by rw [HLT.out]; simp) (by simp) ?_
         intro v5 w5 ho5 g5
         have hg5 : Gr w4 w5 := (Gr.alloc (Gr.refl w4) _).grownNew g5 (fun k hk => by cases hk; exact Nat.le_refl _)
         have HO5 := Lib.hid ho5
         clear ho5 g5)
      | (at_builtin
         refine wpList_app (base := w3.heap.size) rfl (.tmp 43) (.tmp 46) rfl rfl (HO4.out.gr hg5) rfl HO5.out.rb (by rw [HLB.out, List.length_append, HLT.out]; simp) (Nat.le_trans (Gr.size hg4) (Gr.size hg5)) ?_
         intro v6 w6 ho6 g6
         have hg6 : Gr w3 w6 := (hg4.step hg5).grownNew g6 HO4.out.above
         have HO6 := Lib.hid ho6
         clear ho6 g6))
    have hrw := HO6.out.rb
    rw [rh_raw K.out] at hrw
    have HCK := Lib.hid (rwchk_any w6 hrw (by rw [hraw_len]; omega))
    have e2 : (65535 : Int) - ((oc (wsum false (hraw h n 0)) : Nat) : Int) = ((hsum h n : Nat) : Int) := by have := oc_le (wsum false (hraw h n 0)); unfold hsum; omega
    rw [e2] at HCK
    have hSm := hsum_le h n
    clear e2 hrw
    refine HCK.out.mono ?_
    rintro e w7 ⟨rfl, rfl⟩
    have HFIN : Hid (rhB h n ++ bput (hsum h n) 2 ++ rhT h = hbytes h n) := Lib.hid (rh_fin K.out n _)
    generalize hsum h n = S at *
    have hsz3 := Gr.size hG3
    go_wp2_with (first
      | (at_builtin
         refine wpList_app (base := w6.heap.size) rfl (.tmp 51) (.tmp 52) rfl rfl ho7 rfl ((HT.out.gr hg6).gr hg7) (by rw [HLT.out, List.length_append, HLB.out, bput_len]; omega) (Gr.size hg7) ?_
         intro v8 w8 ho8 g8
         have hg8 : Gr w6 w8 := hg7.grownNew g8 ho7.above
         have HO8 := Lib.hid ho8
         clear ho8 g8)
      | (go_at_call 67
         refine (rpush_any S 2 _ (HO3.out.rb.gr hg6) (by rw [HLB.out]; omega) (by omega) (by omega) (by show S < 65536; omega)).mono ?_
         rintro e w7 ⟨v7, rfl, ho7, hg7⟩))
    go_ret
    have hf := HO8.out.base (b := w.heap.size) (by have := Gr.size hg6; omega)
    rw [HFIN.out] at hf
    exact ⟨_, rfl, hf, (hG3.step hg6).step hg8⟩
  | true =>
    have hC := CL.new w [.int .i64 h.tos, .int .i64 h.id, .int .i64 h.ttl, .int .i64 h.proto, .bool true, .int .u32 h.src, .int .u32 h.dst] 51 _ rfl
    have hG := Gr.alloc (Gr.refl w) (.cells #[.int .i64 h.tos, .int .i64 h.id, .int .i64 h.ttl, .int .i64 h.proto, .bool true, .int .u32 h.src, .int .u32 h.dst] 51)
    have HFL := Lib.hid (show h.fl = 16384 by unfold Hd.fl; rw [hk]; rfl)
    unfold Hd.v hdV
    rw [hk]
    clear hk
    obtain ⟨l0, hl0⟩ : ∃ l : List Nat, l = [] := ⟨_, rfl⟩
    have hlen : l0.length = 0 := by rw [hl0]; rfl
    have HN := Lib.hid (fun w : World => (by rw [hl0]; exact Rb.nil _ _ : Rb (fun _ => True) w (.slice none 0 0) l0))
    go_enter Tryd.func65, Tryd.ntmps65
    obtain ⟨⟨x0, x1, x2, x3, x4, x5, x6⟩, -⟩ := hC.seven
    go_wp2_with fail
    clear x0 x1 x2 x3 x4 x5 x6
    refine (rpush_any 69 1 _ (HN.out _) (by rw [hlen]; omega) (by omega) (by omega) (by decide)).mono ?_
    rintro e w1 ⟨v1, rfl, ho, hg⟩
    have hG := hG.step hg
    have hC := hC.gr hg
    have hlen1 : (l0 ++ bput 69 1).length = 1 := by rw [List.length_append, bput_len, hlen]
    obtain ⟨l1, hl1⟩ : ∃ l', l' = l0 ++ bput 69 1 := ⟨_, rfl⟩
    rw [← hl1] at ho hlen1
    have HO := Lib.hid ho
    obtain ⟨a1, c1, rfl, -, -⟩ := ho.rb.form
    clear hlen hg ho
    have hlen := hlen1
    clear hlen1
    rw [hlen] at HO ⊢
    obtain ⟨⟨x0, x1, x2, x3, x4, x5, x6⟩, -⟩ := hC.seven
    go_wp2_with fail
    clear x0 x1 x2 x3 x4 x5 x6
    refine (rpush_any h.tos 1 _ HO.out.rb (by rw [hlen]; omega) (by omega) (by omega) (by show h.tos < 256; omega)).mono ?_
    rintro e w1 ⟨v1, rfl, ho, hg⟩
    have hG := hG.step hg
    have hC := hC.gr hg
    have hlen1 : (l1 ++ bput h.tos 1).length = 2 := by rw [List.length_append, bput_len, hlen]
    obtain ⟨l2, hl2⟩ : ∃ l', l' = l1 ++ bput h.tos 1 := ⟨_, rfl⟩
    rw [← hl2] at ho hlen1
    have HO := Lib.hid ho
    obtain ⟨a1, c1, rfl, -, -⟩ := ho.rb.form
    clear hlen hg ho
    have hlen := hlen1
    clear hlen1
    rw [hlen] at HO ⊢
    obtain ⟨⟨x0, x1, x2, x3, x4, x5, x6⟩, -⟩ := hC.seven
    go_wp2_with fail
    clear x0 x1 x2 x3 x4 x5 x6
    refine (rpush_any n 2 _ HO.out.rb (by rw [hlen]; omega) (by omega) (by omega) (hn)).mono ?_
    rintro e w1 ⟨v1, rfl, ho, hg⟩
    have hG := hG.step hg
    have hC := hC.gr hg
    have hlen1 : (l2 ++ bput n 2).length = 4 := by rw [List.length_append, bput_len, hlen]
    obtain ⟨l3, hl3⟩ : ∃ l', l' = l2 ++ bput n 2 := ⟨_, rfl⟩
    rw [← hl3] at ho hlen1
    have HO := Lib.hid ho
    obtain ⟨a1, c1, rfl, -, -⟩ := ho.rb.form
    clear hlen hg ho
    have hlen := hlen1
    clear hlen1
    rw [hlen] at HO ⊢
    obtain ⟨⟨x0, x1, x2, x3, x4, x5, x6⟩, -⟩ := hC.seven
    go_wp2_with fail
    clear x0 x1 x2 x3 x4 x5 x6
    refine (rpush_any h.id 2 _ HO.out.rb (by rw [hlen]; omega) (by omega) (by omega) (by show h.id < 65536; omega)).mono ?_
    rintro e w1 ⟨v1, rfl, ho, hg⟩
    have hG := hG.step hg
    have hC := hC.gr hg
    have hlen1 : (l3 ++ bput h.id 2).length = 6 := by rw [List.length_append, bput_len, hlen]
    obtain ⟨l4, hl4⟩ : ∃ l', l' = l3 ++ bput h.id 2 := ⟨_, rfl⟩
    rw [← hl4] at ho hlen1
    have HO := Lib.hid ho
    obtain ⟨a1, c1, rfl, -, -⟩ := ho.rb.form
    clear hlen hg ho
    have hlen := hlen1
    clear hlen1
    rw [hlen] at HO ⊢
    obtain ⟨⟨x0, x1, x2, x3, x4, x5, x6⟩, -⟩ := hC.seven
    go_wp2_with fail
    clear x0 x1 x2 x3 x4 x5 x6
    refine (rpush_any 16384 2 _ HO.out.rb (by rw [hlen]; omega) (by omega) (by omega) (by decide)).mono ?_
    rintro e w1 ⟨v1, rfl, ho, hg⟩
    have hG := hG.step hg
    have hC := hC.gr hg
    have hlen1 : (l4 ++ bput 16384 2).length = 8 := by rw [List.length_append, bput_len, hlen]
    obtain ⟨l5, hl5⟩ : ∃ l', l' = l4 ++ bput 16384 2 := ⟨_, rfl⟩
    rw [← hl5] at ho hlen1
    have HO := Lib.hid ho
    obtain ⟨a1, c1, rfl, -, -⟩ := ho.rb.form
    clear hlen hg ho
    have hlen := hlen1
    clear hlen1
    rw [hlen] at HO ⊢
    obtain ⟨⟨x0, x1, x2, x3, x4, x5, x6⟩, -⟩ := hC.seven
    go_wp2_with fail
    clear x0 x1 x2 x3 x4 x5 x6
    refine (rpush_any h.ttl 1 _ HO.out.rb (by rw [hlen]; omega) (by omega) (by omega) (by show h.ttl < 256; omega)).mono ?_
    rintro e w1 ⟨v1, rfl, ho, hg⟩
    have hG := hG.step hg
    have hC := hC.gr hg
    have hlen1 : (l5 ++ bput h.ttl 1).length = 9 := by rw [List.length_append, bput_len, hlen]
    obtain ⟨l6, hl6⟩ : ∃ l', l' = l5 ++ bput h.ttl 1 := ⟨_, rfl⟩
    rw [← hl6] at ho hlen1
    have HO := Lib.hid ho
    obtain ⟨a1, c1, rfl, -, -⟩ := ho.rb.form
    clear hlen hg ho
    have hlen := hlen1
    clear hlen1
    rw [hlen] at HO ⊢
    obtain ⟨⟨x0, x1, x2, x3, x4, x5, x6⟩, -⟩ := hC.seven
    go_wp2_with fail
    clear x0 x1 x2 x3 x4 x5 x6
    have hbase0 := Gr.size hG
    refine (rpush_any h.proto 1 _ HO.out.rb (by rw [hlen]; omega) (by omega) (by omega) (by show h.proto < 256; omega)).mono ?_
    rintro e w1 ⟨v1, rfl, ho, hg⟩
    have hG := hG.step hg
    have hC := hC.gr hg
    have hlen1 : (l6 ++ bput h.proto 1).length = 10 := by rw [List.length_append, bput_len, hlen]
    obtain ⟨l7, hl7⟩ : ∃ l', l' = l6 ++ bput h.proto 1 := ⟨_, rfl⟩
    rw [← hl7] at ho hlen1
    have HO := Lib.hid ho
    obtain ⟨a1, c1, rfl, -, -⟩ := ho.rb.form
    clear hlen hg ho
    have hlen := hlen1
    clear hlen1
    rw [hlen] at HO ⊢
    go_wp2_with fail
    have HB7 : Hid (l7 = rhB h n) := Lib.hid (by rw [hl7, hl6, hl5, hl4, hl3, hl2, hl1, hl0, ← HFL.out]; rfl)
    rw [HB7.out] at HO
    clear hl0 hl1 hl2 hl3 hl4 hl5 hl6 hl7 hlen HN
    have HC := Lib.hid hC
    have HOB := Lib.hid (HO.out.base hbase0)
    clear hC
    have eW1 : IntKind.i64.wrap (h.src : Int) = (h.src : Int) := by rw [IntWalk.i64_in _ (by omega)]
    have eW2 : IntKind.i64.wrap (h.dst : Int) = (h.dst : Int) := by rw [IntWalk.i64_in _ (by omega)]
    have hS : Gr w1 w1.drew := Gr.drew (Gr.refl _)
    refine region_plain (Gr w1) (by kernel_rfl) ?_
    refine take_at 0 (some 34) (v := ?vtrue0) rfl rfl (by kernel_rfl) (by kernel_rfl) (by kernel_rfl) (by rfl) ?ytrue0 hS ?ttrue0
    case ytrue0 =>
      intro w' hSw
      obtain ⟨⟨q0, q1, q2, q3, q4, q5, q6⟩, -⟩ := (HC.out.gr hSw).seven
      go_simp
      (try with_reducible rfl)
    simp only [Act.put, List.setIfInBounds_toArray, List.set_cons_zero, List.set_cons_succ]
    refine take_at 1 (some 35) (v := ?vtrue1) rfl rfl (by kernel_rfl) (by kernel_rfl) (by kernel_rfl) (by rfl) ?ytrue1 hS ?ttrue1
    case ytrue1 =>
      intro w' hSw
      obtain ⟨⟨q0, q1, q2, q3, q4, q5, q6⟩, -⟩ := (HC.out.gr hSw).seven
      go_simp
      (try with_reducible rfl)
    simp only [Act.put, List.setIfInBounds_toArray, List.set_cons_zero, List.set_cons_succ]
    refine take_at 2 (some 36) (v := ?vtrue2) rfl rfl (by kernel_rfl) (by kernel_rfl) (by kernel_rfl) (by rfl) ?ytrue2 hS ?ttrue2
    case ytrue2 =>
      intro w' hSw
      obtain ⟨⟨q0, q1, q2, q3, q4, q5, q6⟩, -⟩ := (HC.out.gr hSw).seven
      go_simp
      (try with_reducible rfl)
    simp only [Act.put, List.setIfInBounds_toArray, List.set_cons_zero, List.set_cons_succ]
    refine take_at 4 (some 38) (v := ?vtrue4) rfl rfl (by kernel_rfl) (by kernel_rfl) (by kernel_rfl) (by rfl) ?ytrue4 hS ?ttrue4
    case ytrue4 =>
      intro w' hSw
      obtain ⟨⟨q0, q1, q2, q3, q4, q5, q6⟩, -⟩ := (HC.out.gr hSw).seven
      go_simp
      (try with_reducible rfl)
    simp only [Act.put, List.setIfInBounds_toArray, List.set_cons_zero, List.set_cons_succ]
    refine take_at 5 (some 39) (v := ?vtrue5) rfl rfl (by kernel_rfl) (by kernel_rfl) (by kernel_rfl) (by rfl) ?ytrue5 hS ?ttrue5
    case ytrue5 =>
      intro w' hSw
      obtain ⟨⟨q0, q1, q2, q3, q4, q5, q6⟩, -⟩ := (HC.out.gr hSw).seven
      go_simp
      (try with_reducible rfl)
    simp only [Act.put, List.setIfInBounds_toArray, List.set_cons_zero, List.set_cons_succ]
    refine take_at 6 (some 40) (v := ?vtrue6) rfl rfl (by kernel_rfl) (by kernel_rfl) (by kernel_rfl) (by rfl) ?ytrue6 hS ?ttrue6
    case ytrue6 =>
      intro w' hSw
      obtain ⟨⟨q0, q1, q2, q3, q4, q5, q6⟩, -⟩ := (HC.out.gr hSw).seven
      go_simp
      (try with_reducible rfl)
    simp only [Act.put, List.setIfInBounds_toArray, List.set_cons_zero, List.set_cons_succ]
    refine next_at 3 rfl (by kernel_rfl) (by rfl) (fun K hK => ?_)
    go_simp
    refine (rpush_any h.src 4 _ (Rb.nil (fun _ => True) _) (by simp) (by omega) (by omega) (by show h.src < 4294967296; omega)).mono ?_
    rintro e w2 ⟨v2, rfl, ho2, hg2⟩
    have hS2 := Gr.step hS hg2
    have HS2 := Lib.hid ho2.rb
    obtain ⟨a2, c2, rfl, -, -⟩ := ho2.rb.form
    refine hK _ _ hS2 ?_
    clear hK K hS ho2 hg2
    have hS := hS2
    clear hS2
    refine next_at 7 rfl (by kernel_rfl) (by rfl) (fun K hK => ?_)
    go_simp
    refine (rpush_any h.dst 4 _ HS2.out (by rw [List.length_append, bput_len]; simp) (by omega) (by omega) (by show h.dst < 4294967296; omega)).mono ?_
    rintro e w3 ⟨v3, rfl, ho3, hg3⟩
    have hS3 := Gr.step hS hg3
    have hT : Rb (fun _ => True) w3 v3 (rhT h) := ho3.rb.any
    refine hK _ _ hS3 ?_
    clear hK K hS ho3 hg3 HS2
    have hS := hS3
    clear hS3
    obtain ⟨a3, c3, rfl, -, -⟩ := hT.form
    rw [rhT_len] at hT ⊢
    have HT := Lib.hid hT
    clear hT
    refine next_at 8 rfl (by kernel_rfl) (by rfl) (fun K hK => ?_)
    go_simp
    refine hK _ _ hS ?_
    clear hK K
    refine wpAnyH_done (by kernel_rfl) ?_ _
    refine qz_normal ?_
    have hG3 := hG.step hS
    have HO3 := Lib.hid (HOB.out.gr hS)
    have HLB := Lib.hid (rhB_len h n)
    have HLT := Lib.hid (rhT_len h)
    clear hS
    go_wp2_with (first
      | (at_builtin
         refine wpList_app (base := w3.heap.size) rfl (.const (.slice none 0 0)) (.tmp 42) rfl rfl (OwB.nil _ _) rfl HO3.out.rb (by rw [HLB.out]; simp) (Nat.le_refl _) ?_
         intro v4 w4 ho4 g4
         have hg4 : Gr w3 w4 := Gr.grownNew (Gr.refl _) g4 (fun _ h => by cases h)
         rw [List.nil_append] at ho4
         have HO4 := Lib.hid ho4
         clear ho4 g4)
      | (at_builtin
         refine wpList_app (base := w4.heap.size) rfl (.tmp 44) (.tmp 45) rfl rfl (owb_zeros w4) rfl ((HT.out.gr hg4).gr (Gr.alloc (Gr.refl _) _)) (by rw [HLT.out]; simp) (by simp) ?_
         intro v5 w5 ho5 g5
         have hg5 : Gr w4 w5 := (Gr.alloc (Gr.refl w4) _).grownNew g5 (fun k hk => by cases hk; exact Nat.le_refl _)
         have HO5 := Lib.hid ho5
         clear ho5 g5)
      | (at_builtin
         refine wpList_app (base := w3.heap.size) rfl (.tmp 43) (.tmp 46) rfl rfl (HO4.out.gr hg5) rfl HO5.out.rb (by rw [HLB.out, List.length_append, HLT.out]; simp) (Nat.le_trans (Gr.size hg4) (Gr.size hg5)) ?_
         intro v6 w6 ho6 g6
         have hg6 : Gr w3 w6 := (hg4.step hg5).grownNew g6 HO4.out.above
         have HO6 := Lib.hid ho6
         clear ho6 g6))
    have hrw := HO6.out.rb
    rw [rh_raw K.out] at hrw
    have HCK := Lib.hid (rwchk_any w6 hrw (by rw [hraw_len]; omega))
    have e2 : (65535 : Int) - ((oc (wsum false (hraw h n 0)) : Nat) : Int) = ((hsum h n : Nat) : Int) := by have := oc_le (wsum false (hraw h n 0)); unfold hsum; omega
    rw [e2] at HCK
    have hSm := hsum_le h n
    clear e2 hrw
    refine HCK.out.mono ?_
    rintro e w7 ⟨rfl, rfl⟩
    have HFIN : Hid (rhB h n ++ bput (hsum h n) 2 ++ rhT h = hbytes h n) := Lib.hid (rh_fin K.out n _)
    generalize hsum h n = S at *
    have hsz3 := Gr.size hG3
    go_wp2_with (first
      | (at_builtin
         refine wpList_app (base := w6.heap.size) rfl (.tmp 51) (.tmp 52) rfl rfl ho7 rfl ((HT.out.gr hg6).gr hg7) (by rw [HLT.out, List.length_append, HLB.out, bput_len]; omega) (Gr.size hg7) ?_
         intro v8 w8 ho8 g8
         have hg8 : Gr w6 w8 := hg7.grownNew g8 ho7.above
         have HO8 := Lib.hid ho8
         clear ho8 g8)
      | (go_at_call 67
         refine (rpush_any S 2 _ (HO3.out.rb.gr hg6) (by rw [HLB.out]; omega) (by omega) (by omega) (by show S < 65536; omega)).mono ?_
         rintro e w7 ⟨v7, rfl, ho7, hg7⟩))
    go_ret
    have hf := HO8.out.base (b := w.heap.size) (by have := Gr.size hg6; omega)
    rw [HFIN.out] at hf
    exact ⟨_, rfl, hf, (hG3.step hg6).step hg8⟩
end Go.Proofs.YtkpejaiigopmgaaDoor
/- The document's Encode; what Encode answers to any packet. -/
namespace Go.Proofs.YtkpejaiigopmgaaDoor
open Go Go.RowKit Go.Sort
set_option maxRecDepth 100000
set_option linter.unusedVariables false
theorem rencode_bad {tos id ttl proto : Int} (keep : Bool) (src dst : Int) (a : Option Addr) (n c : Nat) (w : World) (hn : ¬ ckOk tos id ttl proto) :
    Calls Tryd.prog 32 #[pkV tos id ttl proto keep src dst (.slice a n c)] w fun e w' => e = .returned (.tuple #[.slice none 0 0, .int .i64 1]) ∧ Gr w w' := by
  have HK := Lib.hid (fun w => rcheck_any tos id ttl proto keep src dst w)
  rw [ckE_no hn] at HK
  clear hn
  unfold pkV hdV at *
  go_enter Tryd.func32, Tryd.ntmps32
  go_wp2_with fail
  refine (HK.out _).mono ?_
  rintro e w1 ⟨rfl, hg⟩
  go_wp2_with fail
  go_ret2
  exact ⟨rfl, (Gr.alloc (Gr.refl w) _).step hg⟩
theorem rencode_long {tos id ttl proto : Int} (keep : Bool) (src dst : Int) (a : Option Addr) (n c : Nat) (w : World) (hn : ckOk tos id ttl proto) (hl : 1480 < n) (hm : n ≤ 100000) :
    Calls Tryd.prog 32 #[pkV tos id ttl proto keep src dst (.slice a n c)] w fun e w' => e = .returned (.tuple #[.slice none 0 0, .int .i64 5]) ∧ Gr w w' := by
  have HK := Lib.hid (fun w => rcheck_any tos id ttl proto keep src dst w)
  rw [ckE_yes hn] at HK
  clear hn
  obtain ⟨N, hN⟩ : ∃ N, N = n + 20 := ⟨_, rfl⟩
  have e20 : (n : Int) + 20 = (N : Int) := by omega
  have d1 : decide ((1500 : Int) < (N : Int)) = true := by rw [decide_eq_true_eq]; omega
  have hN2 : N ≤ 100020 := by omega
  clear hN
  have HC := Lib.hid (C8.new w tos id ttl proto keep src dst (.slice a n c) 55 _ rfl)
  unfold pkV hdV at *
  go_enter Tryd.func32, Tryd.ntmps32
  go_wp2_with fail
  refine (HK.out _).mono ?_
  rintro e w1 ⟨rfl, hg⟩
  have hC := HC.out.gr hg
  obtain ⟨q0, q1, q2, q3, q4, q5, q6, q7⟩ := hC
  go_wp2_with fail
  go_ret2
  exact ⟨rfl, (Gr.alloc (Gr.refl w) _).step hg⟩
set_option maxHeartbeats 400000 in
theorem rencode_ok {p : Nat → Prop} {v : Value} {d : List Nat} (h : Hd) (k : h.ok) (w : World) (hr : Rb p w v d) (hl : d.length ≤ 1480) :
    Calls Tryd.prog 32 #[h.p v] w fun e w' => ∃ v', e = .returned (.tuple #[v', .int .i64 0]) ∧ OwB w.heap.size w' v' (hbytes h (20 + d.length) ++ d) ∧ Gr w w' := by
  obtain ⟨a, cap, rfl, hcap, hmx⟩ := hr.form
  have HK := Lib.hid (fun w => rcheck_any h.tos h.id h.ttl h.proto h.keep h.src h.dst w)
  rw [ckE_yes (ckOk_of k)] at HK
  obtain ⟨N, hN⟩ : ∃ N, N = 20 + d.length := ⟨_, rfl⟩
  rw [← hN]
  have HHD := Lib.hid (fun w => rheader_any h k N (by omega) w)
  have HR := Lib.hid hr
  have HC := Lib.hid (C8.new w h.tos h.id h.ttl h.proto h.keep h.src h.dst (.slice a d.length cap) 55 _ rfl)
  have e20 : (d.length : Int) + 20 = (N : Int) := by omega
  have d1 : decide ((1500 : Int) < (N : Int)) = false := by rw [decide_eq_false_iff_not]; omega
  have KO := Lib.hid (hbytes_len h N)
  have HN := Lib.hid hN
  have eW : IntKind.i64.wrap (N : Int) = (N : Int) := by rw [IntWalk.i64_in _ (by omega)]
  clear hr k hN
  unfold Hd.p pkV Hd.v hdV at *
  go_enter Tryd.func32, Tryd.ntmps32
  go_wp2_with fail
  refine (HK.out _).mono ?_
  rintro e w1 ⟨rfl, hg⟩
  have HC := Lib.hid (HC.out.gr hg)
  obtain ⟨q0, q1, q2, q3, q4, q5, q6, q7⟩ := HC.out
  have hG := (Gr.alloc (Gr.refl w) _).step hg
  clear hg HK
  go_wp2_with fail
  clear q0 q1 q2 q3 q4 q5 q6 q7
  have hS : Gr w1 w1.drew := Gr.drew (Gr.refl _)
  refine region_plain (Gr w1) (by kernel_rfl) ?_
  refine take_at 0 (some 16) (v := ?v0) rfl rfl (by kernel_rfl) (by kernel_rfl) (by kernel_rfl) (by rfl) ?y0 hS ?t0
  case y0 =>
    intro w' hSw
    obtain ⟨q0, q1, q2, q3, q4, q5, q6, q7⟩ := HC.out.gr hSw
    go_simp
    (try with_reducible rfl)
  simp only [Act.put, List.setIfInBounds_toArray, List.set_cons_zero, List.set_cons_succ]
  refine take_at 1 (some 17) (v := ?v1) rfl rfl (by kernel_rfl) (by kernel_rfl) (by kernel_rfl) (by rfl) ?y1 hS ?t1
  case y1 =>
    intro w' hSw
    obtain ⟨q0, q1, q2, q3, q4, q5, q6, q7⟩ := HC.out.gr hSw
    go_simp
    (try with_reducible rfl)
  simp only [Act.put, List.setIfInBounds_toArray, List.set_cons_zero, List.set_cons_succ]
  refine take_at 2 (some 18) (v := ?v2) rfl rfl (by kernel_rfl) (by kernel_rfl) (by kernel_rfl) (by rfl) ?y2 hS ?t2
  case y2 =>
    intro w' hSw
    obtain ⟨q0, q1, q2, q3, q4, q5, q6, q7⟩ := HC.out.gr hSw
    go_simp
    (try with_reducible rfl)
  simp only [Act.put, List.setIfInBounds_toArray, List.set_cons_zero, List.set_cons_succ]
  refine take_at 3 (some 19) (v := ?v3) rfl rfl (by kernel_rfl) (by kernel_rfl) (by kernel_rfl) (by rfl) ?y3 hS ?t3
  case y3 =>
    intro w' hSw
    obtain ⟨q0, q1, q2, q3, q4, q5, q6, q7⟩ := HC.out.gr hSw
    go_simp
    (try with_reducible rfl)
  simp only [Act.put, List.setIfInBounds_toArray, List.set_cons_zero, List.set_cons_succ]
  refine take_at 4 (some 20) (v := ?v4) rfl rfl (by kernel_rfl) (by kernel_rfl) (by kernel_rfl) (by rfl) ?y4 hS ?t4
  case y4 =>
    intro w' hSw
    obtain ⟨q0, q1, q2, q3, q4, q5, q6, q7⟩ := HC.out.gr hSw
    go_simp
    (try with_reducible rfl)
  simp only [Act.put, List.setIfInBounds_toArray, List.set_cons_zero, List.set_cons_succ]
  refine take_at 5 (some 21) (v := ?v5) rfl rfl (by kernel_rfl) (by kernel_rfl) (by kernel_rfl) (by rfl) ?y5 hS ?t5
  case y5 =>
    intro w' hSw
    obtain ⟨q0, q1, q2, q3, q4, q5, q6, q7⟩ := HC.out.gr hSw
    go_simp
    (try with_reducible rfl)
  simp only [Act.put, List.setIfInBounds_toArray, List.set_cons_zero, List.set_cons_succ]
  refine take_at 7 (some 23) (v := ?v7) rfl rfl (by kernel_rfl) (by kernel_rfl) (by kernel_rfl) (by rfl) ?y7 hS ?t7
  case y7 =>
    intro w' hSw
    obtain ⟨q0, q1, q2, q3, q4, q5, q6, q7⟩ := HC.out.gr hSw
    go_simp
    (try with_reducible rfl)
  simp only [Act.put, List.setIfInBounds_toArray, List.set_cons_zero, List.set_cons_succ]
  refine take_at 8 (some 24) (v := ?v8) rfl rfl (by kernel_rfl) (by kernel_rfl) (by kernel_rfl) (by rfl) ?y8 hS ?t8
  case y8 =>
    intro w' hSw
    obtain ⟨q0, q1, q2, q3, q4, q5, q6, q7⟩ := HC.out.gr hSw
    go_simp
    (try with_reducible rfl)
  simp only [Act.put, List.setIfInBounds_toArray, List.set_cons_zero, List.set_cons_succ]
  refine next_at 6 rfl (by kernel_rfl) (by rfl) (fun K hK => ?_)
  go_simp
  refine (HHD.out _).mono ?_
  rintro e w2 ⟨vh, rfl, hvh, hg2⟩
  have hS2 := Gr.step (Gr.drew (Gr.refl w1)) hg2
  have HV := Lib.hid (hvh.base (b := w1.heap.size) (by simp))
  refine hK _ _ hS2 ?_
  clear hK K hvh hS
  have hS := hS2
  refine next_at 9 rfl (by kernel_rfl) (by rfl) (fun K hK => ?_)
  refine oper_app _ _ rfl rfl HV.out rfl (HR.out.gr (hG.step hS)) (by rw [KO.out]; omega) (Gr.size hS) ?_
  intro v4 w4 ho4 g4
  have hS4 := hS.grownNew g4 HV.out.above
  have HO4 := Lib.hid (ho4.base (b := w.heap.size) (Gr.size hG))
  have hG4 := hG.step hS4
  refine hK _ _ hS4 ?_
  simp only [Act.put, List.setIfInBounds_toArray]
  clear hK K ho4 hS hS2 g4 HV
  have hS := hS4
  refine next_at 10 rfl (by kernel_rfl) (by rfl) (fun K hK => ?_)
  go_simp
  refine hK _ _ hS ?_
  clear hK K
  refine next_at 11 rfl (by kernel_rfl) (by rfl) (fun K hK => ?_)
  go_simp
  refine hK _ _ hS ?_
  clear hK K
  refine wpAnyH_done (by kernel_rfl) ?_ _
  refine qz_normal ?_
  go_wp2_with fail
  go_ret2
  exact ⟨_, rfl, HO4.out, hG4⟩
/-- what Encode answers -/
def enE (tos id ttl proto : Int) (n : Nat) : Int := if ckOk tos id ttl proto then (if 1480 < n then 5 else 0) else 1
def enH (tos id ttl proto : Int) (keep : Bool) (src dst : Nat) : Hd := ⟨tos.toNat, id.toNat, ttl.toNat, proto.toNat, keep, src, dst⟩
def enL (tos id ttl proto : Int) (keep : Bool) (src dst : Nat) (d : List Nat) : List Nat := if ckOk tos id ttl proto ∧ d.length ≤ 1480 then hbytes (enH tos id ttl proto keep src dst) (20 + d.length) ++ d else []
theorem enL_len (tos id ttl proto : Int) (keep : Bool) (src dst : Nat) (d : List Nat) : (enL tos id ttl proto keep src dst d).length ≤ 1500 := by
  unfold enL; split
  · next h => rw [List.length_append, hbytes_len]; omega
  · simp
theorem enH_ok {tos id ttl proto : Int} (keep : Bool) {src dst : Nat} (h : ckOk tos id ttl proto) (h1 : src < 4294967296) (h2 : dst < 4294967296) : (enH tos id ttl proto keep src dst).ok := by
  unfold ckOk inB at h
  constructor <;> simp only [enH] <;> omega
theorem enH_p {tos id ttl proto : Int} (keep : Bool) (src dst : Nat) (v : Value) (h : ckOk tos id ttl proto) : (enH tos id ttl proto keep src dst).p v = pkV tos id ttl proto keep src dst v := by
  unfold ckOk inB at h
  unfold Hd.p enH
  simp only
  rw [Int.toNat_of_nonneg (by omega), Int.toNat_of_nonneg (by omega), Int.toNat_of_nonneg (by omega), Int.toNat_of_nonneg (by omega)]
def EnRes (w : World) (tos id ttl proto : Int) (keep : Bool) (src dst : Nat) (d : List Nat) (e : Ending) (w' : World) : Prop :=
  ∃ v', e = .returned (.tuple #[v', .int .i64 (enE tos id ttl proto d.length)]) ∧ OwB w.heap.size w' v' (enL tos id ttl proto keep src dst d) ∧ Gr w w'
theorem encode_res {p : Nat → Prop} {v : Value} {d : List Nat} (tos id ttl proto : Int) (keep : Bool) (src dst : Nat) (w : World) (hr : Rb p w v d) (hs : src < 4294967296) (hd : dst < 4294967296) (hl : d.length ≤ 100000) :
    Calls Tryd.prog 19 #[pkV tos id ttl proto keep src dst v] w (EnRes w tos id ttl proto keep src dst d) := by
  by_cases h1 : ckOk tos id ttl proto
  · by_cases h2 : 1480 < d.length
    · obtain ⟨a, c, rfl, -, -⟩ := hr.form
      refine (encode_long keep src dst a d.length c w h1 h2 (by omega)).mono ?_
      rintro e w' ⟨rfl, hg⟩
      refine ⟨_, by unfold enE; rw [if_pos h1, if_pos h2], ?_, hg⟩
      unfold enL; rw [if_neg (fun k => by have := k.2; omega)]
      exact OwB.nil _ _
    · have h := encode_ok (enH tos id ttl proto keep src dst) (enH_ok keep h1 hs hd) w hr (by omega)
      rw [enH_p keep src dst v h1] at h
      refine h.mono ?_
      rintro e w' ⟨v', rfl, ho, hg⟩
      refine ⟨_, by unfold enE; rw [if_pos h1, if_neg h2], ?_, hg⟩
      unfold enL; rw [if_pos ⟨h1, by omega⟩]
      exact ho
  · obtain ⟨a, c, rfl, -, -⟩ := hr.form
    refine (encode_bad keep src dst a d.length c w h1).mono ?_
    rintro e w' ⟨rfl, hg⟩
    refine ⟨_, by unfold enE; rw [if_neg h1], ?_, hg⟩
    unfold enL; rw [if_neg (fun k => h1 k.1)]
    exact OwB.nil _ _
theorem rencode_res {p : Nat → Prop} {v : Value} {d : List Nat} (tos id ttl proto : Int) (keep : Bool) (src dst : Nat) (w : World) (hr : Rb p w v d) (hs : src < 4294967296) (hd : dst < 4294967296) (hl : d.length ≤ 100000) :
    Calls Tryd.prog 32 #[pkV tos id ttl proto keep src dst v] w (EnRes w tos id ttl proto keep src dst d) := by
  by_cases h1 : ckOk tos id ttl proto
  · by_cases h2 : 1480 < d.length
    · obtain ⟨a, c, rfl, -, -⟩ := hr.form
      refine (rencode_long keep src dst a d.length c w h1 h2 (by omega)).mono ?_
      rintro e w' ⟨rfl, hg⟩
      refine ⟨_, by unfold enE; rw [if_pos h1, if_pos h2], ?_, hg⟩
      unfold enL; rw [if_neg (fun k => by have := k.2; omega)]
      exact OwB.nil _ _
    · have h := rencode_ok (enH tos id ttl proto keep src dst) (enH_ok keep h1 hs hd) w hr (by omega)
      rw [enH_p keep src dst v h1] at h
      refine h.mono ?_
      rintro e w' ⟨v', rfl, ho, hg⟩
      refine ⟨_, by unfold enE; rw [if_pos h1, if_neg h2], ?_, hg⟩
      unfold enL; rw [if_pos ⟨h1, by omega⟩]
      exact ho
  · obtain ⟨a, c, rfl, -, -⟩ := hr.form
    refine (rencode_bad keep src dst a d.length c w h1).mono ?_
    rintro e w' ⟨rfl, hg⟩
    refine ⟨_, by unfold enE; rw [if_neg h1], ?_, hg⟩
    unfold enL; rw [if_neg (fun k => h1 k.1)]
    exact OwB.nil _ _
end Go.Proofs.YtkpejaiigopmgaaDoor
/- Probes of the document: data of datagrams, Build. -/
namespace Go.Proofs.YtkpejaiigopmgaaDoor
open Go Go.RowKit Go.Sort
set_option maxRecDepth 100000
set_option linter.unusedVariables false
set_option linter.unusedSimpArgs false
theorem rb_ten (w : World) : Rb (fun _ => True) (w.alloc (.cells #[.int .u8 0, .int .u8 10, .int .u8 0, .int .u8 0, .int .u8 0, .int .u8 0] 5)) (.slice (some ⟨w.heap.size, 0, none⟩) 6 6) [0, 10, 0, 0, 0, 0] := by
  have h : OwB w.heap.size (w.alloc (.cells (cellsB [0, 10, 0, 0, 0, 0]).toArray 5)) (.slice (some ⟨w.heap.size, 0, none⟩) 6 6) [0, 10, 0, 0, 0, 0] :=
    ⟨World.ownsRow_lit w (cellsB [0, 10, 0, 0, 0, 0]).toArray 6 (Nat.le_refl _) (by unfold maxLen; decide) (by simp [cellsB_len]), by decide⟩
  exact h.rb.any
theorem udZ_put (f : Nat) : ([] ++ bput (20000 + f) 2) ++ bput 33434 2 ++ [0, 10, 0, 0, 0, 0] = udZ f 0 := by
  unfold udZ udpA
  rw [show bputs 2 [20000 + f, 33434, 8 + 2] = bput (20000 + f) 2 ++ (bput 33434 2 ++ bput 10 2) by simp [bputs]]
  rw [List.nil_append, List.append_assoc, List.append_assoc, List.append_assoc, List.append_assoc]
  rfl
set_option maxHeartbeats 2000000 in
theorem rdata_udp (P : Pr) (k : P.ok) (w : World) (hp : P.proto = 17) :
    Calls Tryd.prog 33 #[P.v] w fun e w' => ∃ v', e = .returned v' ∧ OwB w.heap.size w' v' P.data ∧ Gr w w' := by
  have hf := k.flow
  have ht := k.tag
  obtain ⟨W, hW⟩ : ∃ W, W = P.tag + 1 := ⟨_, rfl⟩
  obtain ⟨S, hS0⟩ : ∃ S, S = sP P.src P.dst 17 (udZ P.flow 0) := ⟨_, rfl⟩
  have hS1 : S ≤ 65535 := by rw [hS0]; exact s0_le _
  obtain ⟨M, hM⟩ : ∃ M, M = rbal S W := ⟨_, rfl⟩
  have hM1 : M ≤ 65535 := by rw [hM]; exact rbal_le _ _
  have HD := Lib.hid (show P.data = udpL P.src P.dst (20000 + P.flow) 33434 (bput M 2) by
    rw [Pr.data_udp hp, hM, rbal_eq hS1 (by omega), hS0, hW]; rfl)
  have HBA := Lib.hid (fun w => rbalanced_any S W w hS1 (by omega) M hM)
  have HPU := Lib.hid (fun w => rpush_any M 2 w (Rb.nil (fun _ => True) w) (by simp) (by omega) (by omega) (by show M < 65536; omega))
  have HE := Lib.hid (fun (v : Value) (w : World) (hv : Rb (fun _ => True) w v (bput M 2)) => rudp_ok P.src P.dst (20000 + P.flow) 33434 w hv k.src k.dst (by omega) (by decide) (by rw [bput_len]; omega))
  have HPS := Lib.hid (fun (v : Value) (w : World) (hv : Rb (fun _ => True) w v (udZ P.flow 0)) => r6pseudo_any P.src P.dst 17 w hv (by rw [udZ_len]; omega) k.src k.dst)
  rw [show pcE P.src P.dst 17 (udZ P.flow 0) = S from hS0.symm ▸ rfl] at HPS
  have HU := Lib.hid (udZ_put P.flow)
  rw [← HD.out] at HE
  obtain ⟨SP, hSP⟩ : ∃ SP, SP = 20000 + P.flow := ⟨_, rfl⟩
  rw [← hSP] at HE HU
  have hSP2 : SP < 65536 := by omega
  have eS : (20000 : Int) + (P.flow : Int) = (SP : Int) := by omega
  have wS : IntKind.i64.wrap (SP : Int) = (SP : Int) := by rw [IntWalk.i64_in _ (by omega)]
  have eW : (P.tag : Int) + 1 = (W : Int) := by omega
  have wW : IntKind.i64.wrap (W : Int) = (W : Int) := by rw [IntWalk.i64_in _ (by omega)]
  have d1 : ((P.proto : Int) == 1) = false := by rw [hp]; rfl
  have d2 : ((P.proto : Int) == 17) = true := by rw [hp]; rfl
  clear hp k hf ht hW hS0 hS1 hM hM1 hSP
  have HC := Lib.hid (CL.new w P.vs 30 _ rfl)
  have hG := Gr.alloc (Gr.refl w) (.cells P.vs.toArray 30)
  unfold Pr.v prV
  unfold Pr.vs at HC hG
  go_enter Tryd.func33, Tryd.ntmps33
  go_upto_region 1 with fail
  simp only [List.toArray] at hG
  generalize w.alloc (.cells #[.int .u32 P.src, .int .u32 P.dst, .int .i64 P.proto, .int .i64 P.flow, .int .i64 P.tag, .int .i64 P.ttl] 30) = w1 at HC hG ⊢
  have hle : w.heap.size ≤ w.heap.size := Nat.le_refl _
  generalize w.heap.size = g at HC ⊢
  clear hle
  obtain ⟨⟨x0, x1, x2, x3, x4, x5⟩, -⟩ := CL.six HC.out
  go_wp2_with fail
  refine (rpush_any SP 2 w1 (Rb.nil (fun _ => True) w1) (by simp) (by omega) (by omega) (by show SP < 65536; omega)).mono ?_
  rintro e w2 ⟨v2, rfl, ho2, hg2⟩
  have HO2 := Lib.hid ho2.rb.any
  obtain ⟨a2, c2, rfl, -, -⟩ := ho2.rb.any.form
  rw [show ([] ++ bput SP 2 : List Nat).length = 2 by simp [bput_len]] at HO2 ⊢
  clear ho2
  go_wp2_with fail
  refine (rpush_any 33434 2 w2 HO2.out (by simp [bput_len]) (by omega) (by omega) (by decide)).mono ?_
  rintro e w3 ⟨v3, rfl, ho3, hg3⟩
  replace ho3 := ho3.base (Gr.size hg2)
  replace hg2 := hg2.step hg3
  have HO3 := Lib.hid ho3
  obtain ⟨a3, c3, rfl, -, -⟩ := ho3.rb.any.form
  rw [show ([] ++ bput SP 2 ++ bput 33434 2 : List Nat).length = 4 by simp [bput_len]] at HO3 ⊢
  clear ho3 hg3 HO2
  have hgs := Gr.size hg2
  go_upto_region 12 with (at_builtin; refine wpList_app (base := w1.heap.size) rfl (.tmp 45) (.tmp 46) rfl rfl (HO3.out.gr (Gr.alloc (Gr.refl _) _)) rfl (rb_ten w3) (by simp [bput_len]) (by simp; omega) ?_; intro v4 w4 ho4 g4; have hg4 : Gr w1 w4 := (hg2.alloc _).grownNew g4 HO3.out.above; have HO4 := Lib.hid ho4; clear ho4 g4)
  rw [HU.out] at HO4
  obtain ⟨a4, c4, rfl, -, -⟩ := HO4.out.rb.any.form
  rw [udZ_len] at HO4 ⊢
  replace HC := Lib.hid (HC.out.gr hg4)
  replace hG := hG.step hg4
  have HV := Lib.hid HO4.out.rb.any
  clear hg2 hgs hg4 HO3 HO4 x0 x1 x2 x3 x4 x5
  have hE := CL.new w4 [.int .i64 SP, .int .i64 33434, .slice none 0 0] 69 _ rfl
  have hgn := Gr.alloc (Gr.refl w4) (.cells #[.int .i64 SP, .int .i64 33434, .slice none 0 0] 69)
  have hge : w.heap.size ≤ w4.heap.size := Gr.size hG
  have hgg : g < w4.heap.size := HC.out.lt
  simp only [List.toArray] at hE
  obtain ⟨⟨x0, x1, x2, x3, x4, x5⟩, -⟩ := CL.six HC.out
  go_upto_region 13 with fail
  generalize w4.alloc (.cells #[.int .i64 SP, .int .i64 33434, .slice none 0 0] 69) = w5 at hE hgn ⊢
  generalize w4.heap.size = ge at hE hge hgg ⊢
  replace HC := Lib.hid (HC.out.gr hgn)
  replace hG := hG.step hgn
  replace HV := Lib.hid (HV.out.gr hgn)
  clear hgn x0 x1 x2 x3 x4 x5
  have hS : Ex ge w5 w5.drew := Ex.drew (Ex.refl _ _)
  replace hG := hG.step (Gr.drew (Gr.refl w5))
  replace hE := hE.gr (Gr.drew (Gr.refl w5))
  have HV4 := HV.out.gr (Gr.drew (Gr.refl w5))
  have hge4 : ge < w5.drew.heap.size := hE.lt
  refine region_plain (Ex ge w5) (by kernel_rfl) ?_
  generalize w5.drew = w6 at hS hG hE HV4 hge4 ⊢
  refine take_at 0 (some 52) (v := ?vu0) rfl rfl (by kernel_rfl) (by kernel_rfl) (by kernel_rfl) (by rfl) ?yu0 hS ?tu0
  case yu0 =>
    intro w' hSw
    obtain - := hSw
    go_simp
    (try with_reducible rfl)
  simp only [Act.put, List.setIfInBounds_toArray, List.set_cons_zero, List.set_cons_succ]
  refine take_at 1 (some 53) (v := ?vu1) rfl rfl (by kernel_rfl) (by kernel_rfl) (by kernel_rfl) (by rfl) ?yu1 hS ?tu1
  case yu1 =>
    intro w' hSw
    obtain ⟨⟨q0, q1, q2, q3, q4, q5⟩, -⟩ := CL.six (HC.out.ex hSw (Nat.ne_of_lt hgg))
    go_simp
    (try with_reducible rfl)
  simp only [Act.put, List.setIfInBounds_toArray, List.set_cons_zero, List.set_cons_succ]
  refine take_at 2 (some 54) (v := ?vu2) rfl rfl (by kernel_rfl) (by kernel_rfl) (by kernel_rfl) (by rfl) ?yu2 hS ?tu2
  case yu2 =>
    intro w' hSw
    obtain - := hSw
    go_simp
    (try with_reducible rfl)
  simp only [Act.put, List.setIfInBounds_toArray, List.set_cons_zero, List.set_cons_succ]
  refine take_at 3 (some 55) (v := ?vu3) rfl rfl (by kernel_rfl) (by kernel_rfl) (by kernel_rfl) (by rfl) ?yu3 hS ?tu3
  case yu3 =>
    intro w' hSw
    obtain ⟨⟨q0, q1, q2, q3, q4, q5⟩, -⟩ := CL.six (HC.out.ex hSw (Nat.ne_of_lt hgg))
    go_simp
    (try with_reducible rfl)
  simp only [Act.put, List.setIfInBounds_toArray, List.set_cons_zero, List.set_cons_succ]
  refine take_at 4 (some 56) (v := ?vu4) rfl rfl (by kernel_rfl) (by kernel_rfl) (by kernel_rfl) (by rfl) ?yu4 hS ?tu4
  case yu4 =>
    intro w' hSw
    obtain - := hSw
    go_simp
    (try with_reducible rfl)
  simp only [Act.put, List.setIfInBounds_toArray, List.set_cons_zero, List.set_cons_succ]
  refine take_at 6 (some 58) (v := ?vu6) rfl rfl (by kernel_rfl) (by kernel_rfl) (by kernel_rfl) (by rfl) ?yu6 hS ?tu6
  case yu6 =>
    intro w' hSw
    obtain - := hSw
    go_simp
    (try with_reducible rfl)
  simp only [Act.put, List.setIfInBounds_toArray, List.set_cons_zero, List.set_cons_succ]
  refine take_at 7 (some 59) (v := ?vu7) rfl rfl (by kernel_rfl) (by kernel_rfl) (by kernel_rfl) (by rfl) ?yu7 hS ?tu7
  case yu7 =>
    intro w' hSw
    obtain ⟨⟨q0, q1, q2, q3, q4, q5⟩, -⟩ := CL.six (HC.out.ex hSw (Nat.ne_of_lt hgg))
    go_simp
    (try with_reducible rfl)
  simp only [Act.put, List.setIfInBounds_toArray, List.set_cons_zero, List.set_cons_succ]
  refine take_at 8 (some 60) (v := ?vu8) rfl rfl (by kernel_rfl) (by kernel_rfl) (by kernel_rfl) (by rfl) ?yu8 hS ?tu8
  case yu8 =>
    intro w' hSw
    obtain - := hSw
    go_simp
    (try with_reducible rfl)
  simp only [Act.put, List.setIfInBounds_toArray, List.set_cons_zero, List.set_cons_succ]
  refine next_at 5 rfl (by kernel_rfl) (by rfl) (fun K hK => ?_)
  go_simp
  refine (HPS.out _ _ HV4).mono ?_
  rintro e w5a ⟨rfl, hg⟩
  have hge5 := Nat.lt_of_lt_of_le hge4 (Gr.size hg)
  replace hG := hG.step hg
  replace hE := hE.gr hg
  replace hS := hS.trans (Ex.ofGr hg)
  clear hg HV4 hge4
  refine hK _ _ hS ?_
  clear hK K
  refine next_at 9 rfl (by kernel_rfl) (by rfl) (fun K hK => ?_)
  go_simp
  refine (HBA.out _).mono ?_
  rintro e w9a ⟨rfl, rfl⟩
  refine hK _ _ hS ?_
  clear hK K
  refine next_at 10 rfl (by kernel_rfl) (by rfl) (fun K hK => ?_)
  go_simp
  refine (HPU.out _).mono ?_
  rintro e w10a ⟨v6, rfl, ho, hg⟩
  have hv := ho.rb
  replace hG := hG.step hg
  replace hE := hE.gr hg
  replace hS := hS.trans (Ex.ofGr hg)
  obtain ⟨a6, c6, rfl, -, -⟩ := hv.form
  rw [show ([] ++ bput M 2 : List Nat).length = 2 by simp [bput_len]]
  have HV6 := Lib.hid (hv.imp (q := fun b => b ≠ ge) (fun b _ hb => by have := hge5; omega))
  rw [show ([] ++ bput M 2 : List Nat) = bput M 2 from rfl, bput_len] at HV6
  clear hv ho hg
  refine hK _ _ hS ?_
  clear hK K
  refine take_at 11 (some 63) (v := ?vu11) rfl rfl (by kernel_rfl) (by kernel_rfl) (by kernel_rfl) (by rfl) ?yu11 hS ?tu11
  case yu11 =>
    intro w' hSw
    obtain - := hSw
    go_simp
    (try with_reducible rfl)
  simp only [Act.put, List.setIfInBounds_toArray, List.set_cons_zero, List.set_cons_succ]
  have hES := hE.set 2 (.slice a6 2 c6) (by simp)
  have hSF := hS.set 2 (.slice a6 2 c6)
  have hGF := hG.setCell (p := ⟨ge, 2, none⟩) hge (.slice a6 2 c6)
  have HV7 := (HV6.out.ex (Ex.set (Ex.refl ge w10a) 2 (.slice a6 2 c6)) (fun b hb => hb)).any
  obtain ⟨⟨z0, z1, z2⟩, u0, u1, u2⟩ := hE.three
  refine next_at 12 rfl (by kernel_rfl) (by rfl) (fun K hK => ?_)
  go_simp
  refine hK _ _ hSF ?_
  clear hK K z0 z1 z2 u0 u1 u2
  simp only [List.set_cons_succ, List.set_cons_zero] at hES
  generalize w10a.setCell ⟨ge, 2, none⟩ (.slice a6 2 c6) = w7 at hES hSF hGF HV7 ⊢
  refine wpAnyH_done (by kernel_rfl) ?_ _
  refine qz_normal ?_
  obtain ⟨⟨z0, z1, z2⟩, -⟩ := hES.three
  obtain ⟨⟨x0, x1, x2, x3, x4, x5⟩, -⟩ := CL.six (HC.out.ex hSF (Nat.ne_of_lt hgg))
  go_wp2_with fail
  refine (HE.out _ _ HV7).mono ?_
  rintro e w8 ⟨v8, rfl, ho, hg⟩
  go_wp2_with fail
  go_ret
  exact ⟨_, rfl, ho.base (Gr.size hGF), hGF.step hg⟩
theorem rdata_any (P : Pr) (k : P.ok) (w : World) :
    Calls Tryd.prog 33 #[P.v] w fun e w' => ∃ v', e = .returned v' ∧ OwB w.heap.size w' v' P.data ∧ Gr w w' := by
  rcases k.proto with h | h | h
  · exact rdata_icmp P k w h
  · exact rdata_udp P k w h
  · exact rdata_tcp P k w h
theorem rencode_enc {p : Nat → Prop} {v : Value} {d : List Nat} (h : Hd) (k : h.ok) (w : World) (hr : Rb p w v d) (hl : d.length ≤ 1480) :
    Calls Tryd.prog 32 #[h.p v] w fun e w' => ∃ v', e = .returned (.tuple #[v', .int .i64 0]) ∧ OwB w.heap.size w' v' (enc h d) ∧ Gr w w' := rencode_ok h k w hr hl
theorem rbuild_bad (s d pr fl tg tt : Int) (w : World) (h : prbE pr fl tg tt ≠ 0) :
    Calls Tryd.prog 14 #[prV s d pr fl tg tt] w fun e w' => e = .returned (.tuple #[.slice none 0 0, .int .i64 (prbE pr fl tg tt : Nat)]) ∧ Gr w w' := by
  have HK := Lib.hid (fun w => rchk_any s d pr fl tg tt w)
  generalize prbE pr fl tg tt = E at *
  have d1 : ((E : Int) != 0) = true := by rw [bne_iff_ne]; omega
  clear h
  unfold prV at *
  go_enter Tryd.func14, Tryd.ntmps14
  go_wp2_with fail
  refine (HK.out _).mono ?_
  rintro e w1 ⟨rfl, hg⟩
  go_wp2_with fail
  go_ret2
  exact ⟨rfl, (Gr.alloc (Gr.refl w) _).step hg⟩
set_option maxHeartbeats 1000000 in
theorem rbuild_ok (P : Pr) (k : P.ok) (w : World) :
    Calls Tryd.prog 14 #[P.v] w fun e w' => ∃ v', e = .returned (.tuple #[v', .int .i64 0]) ∧ OwB w.heap.size w' v' P.pk ∧ Gr w w' := by
  have HK := Lib.hid (fun w => rchk_any P.src P.dst P.proto P.flow P.tag P.ttl w)
  rw [Pr.e_ok k] at HK
  have HD := Lib.hid (fun w => rdata_any P k w)
  have HE := Lib.hid (fun (v : Value) (w : World) (hv : Rb (fun _ => True) w v P.data) => rencode_enc P.hd (Pr.hd_ok k) w hv (by have := (Pr.data_at k).2.1; omega))
  have HC := Lib.hid (CL.new w P.vs 30 _ rfl)
  have hG := Gr.alloc (Gr.refl w) (.cells P.vs.toArray 30)
  clear k
  unfold Pr.v prV at *
  unfold Pr.vs at HC hG
  unfold Pr.hd Hd.p pkV at HE
  simp only at HE
  go_enter Tryd.func14, Tryd.ntmps14
  go_upto_region 1 with fail
  simp only [List.toArray] at hG
  generalize w.alloc (.cells #[.int .u32 P.src, .int .u32 P.dst, .int .i64 P.proto, .int .i64 P.flow, .int .i64 P.tag, .int .i64 P.ttl] 30) = w1 at HC hG ⊢
  generalize w.heap.size = g at HC ⊢
  obtain ⟨⟨x0, x1, x2, x3, x4, x5⟩, -⟩ := CL.six HC.out
  go_wp2_with fail
  refine (HK.out _).mono ?_
  rintro e w2 ⟨rfl, hg⟩
  have HC2 := Lib.hid (HC.out.gr hg)
  replace hG := hG.step hg
  clear x0 x1 x2 x3 x4 x5 HC hg HK
  go_wp2_with fail
  have hS : Gr w2 w2.drew := Gr.drew (Gr.refl _)
  refine region_plain (Gr w2) (by kernel_rfl) ?_
  generalize w2.drew = w4 at hS ⊢
  refine take_at 0 (some 10) (v := ?vb0) rfl rfl (by kernel_rfl) (by kernel_rfl) (by kernel_rfl) (by rfl) ?yb0 hS ?tb0
  case yb0 =>
    intro w' hSw
    obtain - := hSw
    go_simp
    (try with_reducible rfl)
  simp only [Act.put, List.setIfInBounds_toArray, List.set_cons_zero, List.set_cons_succ]
  refine take_at 1 (some 11) (v := ?vb1) rfl rfl (by kernel_rfl) (by kernel_rfl) (by kernel_rfl) (by rfl) ?yb1 hS ?tb1
  case yb1 =>
    intro w' hSw
    obtain ⟨⟨q0, q1, q2, q3, q4, q5⟩, -⟩ := CL.six (HC2.out.gr hSw)
    go_simp
    (try with_reducible rfl)
  simp only [Act.put, List.setIfInBounds_toArray, List.set_cons_zero, List.set_cons_succ]
  refine take_at 2 (some 12) (v := ?vb2) rfl rfl (by kernel_rfl) (by kernel_rfl) (by kernel_rfl) (by rfl) ?yb2 hS ?tb2
  case yb2 =>
    intro w' hSw
    obtain - := hSw
    go_simp
    (try with_reducible rfl)
  simp only [Act.put, List.setIfInBounds_toArray, List.set_cons_zero, List.set_cons_succ]
  refine take_at 3 (some 13) (v := ?vb3) rfl rfl (by kernel_rfl) (by kernel_rfl) (by kernel_rfl) (by rfl) ?yb3 hS ?tb3
  case yb3 =>
    intro w' hSw
    obtain ⟨⟨q0, q1, q2, q3, q4, q5⟩, -⟩ := CL.six (HC2.out.gr hSw)
    go_simp
    (try with_reducible rfl)
  simp only [Act.put, List.setIfInBounds_toArray, List.set_cons_zero, List.set_cons_succ]
  refine take_at 4 (some 14) (v := ?vb4) rfl rfl (by kernel_rfl) (by kernel_rfl) (by kernel_rfl) (by rfl) ?yb4 hS ?tb4
  case yb4 =>
    intro w' hSw
    obtain - := hSw
    go_simp
    (try with_reducible rfl)
  simp only [Act.put, List.setIfInBounds_toArray, List.set_cons_zero, List.set_cons_succ]
  refine take_at 5 (some 15) (v := ?vb5) rfl rfl (by kernel_rfl) (by kernel_rfl) (by kernel_rfl) (by rfl) ?yb5 hS ?tb5
  case yb5 =>
    intro w' hSw
    obtain ⟨⟨q0, q1, q2, q3, q4, q5⟩, -⟩ := CL.six (HC2.out.gr hSw)
    go_simp
    (try with_reducible rfl)
  simp only [Act.put, List.setIfInBounds_toArray, List.set_cons_zero, List.set_cons_succ]
  refine take_at 6 (some 16) (v := ?vb6) rfl rfl (by kernel_rfl) (by kernel_rfl) (by kernel_rfl) (by rfl) ?yb6 hS ?tb6
  case yb6 =>
    intro w' hSw
    obtain - := hSw
    go_simp
    (try with_reducible rfl)
  simp only [Act.put, List.setIfInBounds_toArray, List.set_cons_zero, List.set_cons_succ]
  refine take_at 7 (some 17) (v := ?vb7) rfl rfl (by kernel_rfl) (by kernel_rfl) (by kernel_rfl) (by rfl) ?yb7 hS ?tb7
  case yb7 =>
    intro w' hSw
    obtain ⟨⟨q0, q1, q2, q3, q4, q5⟩, -⟩ := CL.six (HC2.out.gr hSw)
    go_simp
    (try with_reducible rfl)
  simp only [Act.put, List.setIfInBounds_toArray, List.set_cons_zero, List.set_cons_succ]
  refine take_at 8 (some 18) (v := ?vb8) rfl rfl (by kernel_rfl) (by kernel_rfl) (by kernel_rfl) (by rfl) ?yb8 hS ?tb8
  case yb8 =>
    intro w' hSw
    obtain - := hSw
    go_simp
    (try with_reducible rfl)
  simp only [Act.put, List.setIfInBounds_toArray, List.set_cons_zero, List.set_cons_succ]
  refine take_at 9 (some 19) (v := ?vb9) rfl rfl (by kernel_rfl) (by kernel_rfl) (by kernel_rfl) (by rfl) ?yb9 hS ?tb9
  case yb9 =>
    intro w' hSw
    obtain ⟨⟨q0, q1, q2, q3, q4, q5⟩, -⟩ := CL.six (HC2.out.gr hSw)
    go_simp
    (try with_reducible rfl)
  simp only [Act.put, List.setIfInBounds_toArray, List.set_cons_zero, List.set_cons_succ]
  refine take_at 10 (some 20) (v := ?vb10) rfl rfl (by kernel_rfl) (by kernel_rfl) (by kernel_rfl) (by rfl) ?yb10 hS ?tb10
  case yb10 =>
    intro w' hSw
    obtain - := hSw
    go_simp
    (try with_reducible rfl)
  simp only [Act.put, List.setIfInBounds_toArray, List.set_cons_zero, List.set_cons_succ]
  refine take_at 11 (some 21) (v := ?vb11) rfl rfl (by kernel_rfl) (by kernel_rfl) (by kernel_rfl) (by rfl) ?yb11 hS ?tb11
  case yb11 =>
    intro w' hSw
    obtain ⟨⟨q0, q1, q2, q3, q4, q5⟩, -⟩ := CL.six (HC2.out.gr hSw)
    go_simp
    (try with_reducible rfl)
  simp only [Act.put, List.setIfInBounds_toArray, List.set_cons_zero, List.set_cons_succ]
  refine next_at 12 rfl (by kernel_rfl) (by rfl) (fun K hK => ?_)
  go_simp
  refine (HD.out _).mono ?_
  rintro e w5 ⟨v5, rfl, ho, hg⟩
  have hr := ho.rb.any
  obtain ⟨a5, c5, rfl, -, -⟩ := hr.form
  generalize P.data.length = N at hr ⊢
  have HX := Lib.hid (HE.out _ _ hr)
  replace hS := hS.step hg
  refine hK _ _ hS ?_
  clear hK K ho hg hr
  refine next_at 13 rfl (by kernel_rfl) (by rfl) (fun K hK => ?_)
  go_simp
  refine hK _ _ hS ?_
  clear hK K
  refine next_at 14 rfl (by kernel_rfl) (by rfl) (fun K hK => ?_)
  go_simp
  refine HX.out.mono ?_
  rintro e w6 ⟨v6, rfl, ho, hg⟩
  replace ho := ho.base (Gr.size (hG.step hS))
  replace hS := hS.step hg
  refine hK _ _ hS ?_
  clear hK K hg HX
  refine take_at 15 (some 25) (v := ?vb15) rfl rfl (by kernel_rfl) (by kernel_rfl) (by kernel_rfl) (by rfl) ?yb15 hS ?tb15
  case yb15 =>
    intro w' hSw
    obtain - := hSw
    go_simp
    (try with_reducible rfl)
  simp only [Act.put, List.setIfInBounds_toArray, List.set_cons_zero, List.set_cons_succ]
  refine take_at 16 (some 26) (v := ?vb16) rfl rfl (by kernel_rfl) (by kernel_rfl) (by kernel_rfl) (by rfl) ?yb16 hS ?tb16
  case yb16 =>
    intro w' hSw
    obtain - := hSw
    go_simp
    (try with_reducible rfl)
  simp only [Act.put, List.setIfInBounds_toArray, List.set_cons_zero, List.set_cons_succ]
  refine next_at 17 rfl (by kernel_rfl) (by rfl) (fun K hK => ?_)
  go_simp
  refine hK _ _ hS ?_
  clear hK K
  refine next_at 18 rfl (by kernel_rfl) (by rfl) (fun K hK => ?_)
  go_simp
  refine hK _ _ hS ?_
  clear hK K
  refine wpAnyH_done (by kernel_rfl) ?_ _
  refine qz_normal ?_
  have hz := hG.step hS
  go_wp2_with fail
  go_ret2
  exact ⟨_, rfl, ho, hz⟩
end Go.Proofs.YtkpejaiigopmgaaDoor
