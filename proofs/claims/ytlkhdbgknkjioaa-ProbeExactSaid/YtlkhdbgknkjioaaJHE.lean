/- Several texts in one. -/
import Derived.Test.YtlkhdbgknkjioaaJp
import Derived.Test.YtlkhdbgknkjioaaIh
import Derived.Test.YtlkhdbgknkjioaaTk
import Derived.Test.YtlkhdbgknkjioaaCl
import Derived.WalkKit
import Derived.WalkSpells
import Derived.WalkLawsBesides
import Derived.WalkSmall
import Derived.Handy
import Derived.BigQuiet
import Derived.Deep.QuietTactic
import Derived.Deep.RegionHeld3
import Derived.Deep.DeepFit
import Derived.Below
import Derived.Lib.Hide
import Derived.Lib.QuietBelow
import Derived.Test.YtlkhdbgknkjioaaIe
import Derived.Test.YtlkhdbgknkjioaaTa
/- The document's header. -/
namespace Go.Proofs.Ytlkhdbgknkjioaa
open Go Go.RowKit Go.Sort
set_option maxRecDepth 100000
set_option linter.unusedVariables false
def rhB (h : Hd) (n : Nat) : List Nat := [] ++ bput 69 1 ++ bput h.tos 1 ++ bput n 2 ++ bput h.id 2 ++ bput h.fl 2 ++ bput h.ttl 1 ++ bput h.proto 1
def rhT (h : Hd) : List Nat := [] ++ bput h.src 4 ++ bput h.dst 4
theorem rh_fin {h : Hd} (k : h.ok) (n s : Nat) : rhB h n ++ bput s 2 ++ rhT h = hraw h n s := by
  have := k.tos; have := k.ttl; have := k.proto
  simp only [rhB, rhT, bput, hraw, List.cons_append, List.nil_append, Nat.pow_zero, Nat.div_one]
  rw [Nat.mod_eq_of_lt (show h.tos < 256 by omega), Nat.mod_eq_of_lt (show h.ttl < 256 by omega), Nat.mod_eq_of_lt (show h.proto < 256 by omega)]
theorem rh_raw {h : Hd} (k : h.ok) (n : Nat) : rhB h n ++ ([0, 0] ++ rhT h) = hraw h n 0 := by
  rw [← rh_fin k n 0, List.append_assoc]; rfl
theorem rhB_len (h : Hd) (n : Nat) : (rhB h n).length = 10 := by simp [rhB, bput_len]
theorem rhT_len (h : Hd) : (rhT h).length = 8 := by simp [rhT, bput_len]
theorem owb_zeros (w : World) : OwB w.heap.size (w.alloc (.cells #[.int .u8 0, .int .u8 0] 5)) (.slice (some ⟨w.heap.size, 0, none⟩) 2 2) [0, 0] := by
  have h := World.ownsRow_lit (base := w.heap.size) (e := 5) (size := 1) w #[.int .u8 0, .int .u8 0] 2 (Nat.le_refl _) (by unfold maxLen; omega) (by simp)
  exact ⟨h, fun y hy => by simp at hy; omega⟩
set_option maxHeartbeats 1000000 in
theorem rheader_any (h : Hd) (k : h.ok) (n : Nat) (hn : n < 65536) (w : World) :
    Calls Try.prog 99 #[h.v, .int .i64 n] w fun e w' => ∃ v', e = .returned v' ∧ OwB w.heap.size w' v' (hbytes h n) ∧ Gr w w' := by
  have k1 := k.src
  have k2 := k.dst
  have k3 := k.tos
  have k4 := k.id
  have k5 := k.ttl
  have k6 := k.proto
  have K := Lib.hid k
  clear k
  cases hk : h.keep with
  | false =>
    have hC := CL.new w [.int .i64 h.tos, .int .i64 h.id, .int .i64 h.ttl, .int .i64 h.proto, .bool false, .int .u32 h.src, .int .u32 h.dst] 83 _ rfl
    have hG := Gr.alloc (Gr.refl w) (.cells #[.int .i64 h.tos, .int .i64 h.id, .int .i64 h.ttl, .int .i64 h.proto, .bool false, .int .u32 h.src, .int .u32 h.dst] 83)
    have HFL := Lib.hid (show h.fl = 0 by unfold Hd.fl; rw [hk]; rfl)
    unfold Hd.v hdV
    rw [hk]
    clear hk
    obtain ⟨l0, hl0⟩ : ∃ l : List Nat, l = [] := ⟨_, rfl⟩
    have hlen : l0.length = 0 := by rw [hl0]; rfl
    have HN := Lib.hid (fun w : World => (by rw [hl0]; exact Rb.nil _ _ : Rb (fun _ => True) w (.slice none 0 0) l0))
    go_enter Try.func99, Try.ntmps99
    obtain ⟨⟨x0, x1, x2, x3, x4, x5, x6⟩, -⟩ := hC.seven
    go_wp2_with fail
    clear x0 x1 x2 x3 x4 x5 x6
    refine (rpush_any 69 1 _ (HN.out _) (by rw [hlen]; omega) (by omega) (by omega) (by decide)).mono ?_
    rintro e w1 ⟨v1, rfl, ho, hg⟩
    have hG := hG.step hg
    have hC := hC.gr hg
    have hlen1 : (l0 ++ bput 69 1).length = 1 := by rw [List.length_append, bput_len, hlen]
    obtain ⟨l1, hl1⟩ : ∃ l', l' = l0 ++ bput 69 1 := ⟨_, rfl⟩
    rw [← hl1] at ho hlen1
    have HO := Lib.hid ho
    obtain ⟨a1, c1, rfl, -, -⟩ := ho.rb.form
    clear hlen hg ho
    have hlen := hlen1
    clear hlen1
    rw [hlen] at HO ⊢
    obtain ⟨⟨x0, x1, x2, x3, x4, x5, x6⟩, -⟩ := hC.seven
    go_wp2_with fail
    clear x0 x1 x2 x3 x4 x5 x6
    refine (rpush_any h.tos 1 _ HO.out.rb (by rw [hlen]; omega) (by omega) (by omega) (by show h.tos < 256; omega)).mono ?_
    rintro e w1 ⟨v1, rfl, ho, hg⟩
    have hG := hG.step hg
    have hC := hC.gr hg
    have hlen1 : (l1 ++ bput h.tos 1).length = 2 := by rw [List.length_append, bput_len, hlen]
    obtain ⟨l2, hl2⟩ : ∃ l', l' = l1 ++ bput h.tos 1 := ⟨_, rfl⟩
    rw [← hl2] at ho hlen1
    have HO := Lib.hid ho
    obtain ⟨a1, c1, rfl, -, -⟩ := ho.rb.form
    clear hlen hg ho
    have hlen := hlen1
    clear hlen1
    rw [hlen] at HO ⊢
    obtain ⟨⟨x0, x1, x2, x3, x4, x5, x6⟩, -⟩ := hC.seven
    go_wp2_with fail
    clear x0 x1 x2 x3 x4 x5 x6
    refine (rpush_any n 2 _ HO.out.rb (by rw [hlen]; omega) (by omega) (by omega) (hn)).mono ?_
    rintro e w1 ⟨v1, rfl, ho, hg⟩
    have hG := hG.step hg
    have hC := hC.gr hg
    have hlen1 : (l2 ++ bput n 2).length = 4 := by rw [List.length_append, bput_len, hlen]
    obtain ⟨l3, hl3⟩ : ∃ l', l' = l2 ++ bput n 2 := ⟨_, rfl⟩
    rw [← hl3] at ho hlen1
    have HO := Lib.hid ho
    obtain ⟨a1, c1, rfl, -, -⟩ := ho.rb.form
    clear hlen hg ho
    have hlen := hlen1
    clear hlen1
    rw [hlen] at HO ⊢
    obtain ⟨⟨x0, x1, x2, x3, x4, x5, x6⟩, -⟩ := hC.seven
    go_wp2_with fail
    clear x0 x1 x2 x3 x4 x5 x6
    refine (rpush_any h.id 2 _ HO.out.rb (by rw [hlen]; omega) (by omega) (by omega) (by show h.id < 65536; omega)).mono ?_
    rintro e w1 ⟨v1, rfl, ho, hg⟩
    have hG := hG.step hg
    have hC := hC.gr hg
    have hlen1 : (l3 ++ bput h.id 2).length = 6 := by rw [List.length_append, bput_len, hlen]
    obtain ⟨l4, hl4⟩ : ∃ l', l' = l3 ++ bput h.id 2 := ⟨_, rfl⟩
    rw [← hl4] at ho hlen1
    have HO := Lib.hid ho
    obtain ⟨a1, c1, rfl, -, -⟩ := ho.rb.form
    clear hlen hg ho
    have hlen := hlen1
    clear hlen1
    rw [hlen] at HO ⊢
    obtain ⟨⟨x0, x1, x2, x3, x4, x5, x6⟩, -⟩ := hC.seven
    go_wp2_with fail
    clear x0 x1 x2 x3 x4 x5 x6
    refine (rpush_any 0 2 _ HO.out.rb (by rw [hlen]; omega) (by omega) (by omega) (by decide)).mono ?_
    rintro e w1 ⟨v1, rfl, ho, hg⟩
    have hG := hG.step hg
    have hC := hC.gr hg
    have hlen1 : (l4 ++ bput 0 2).length = 8 := by rw [List.length_append, bput_len, hlen]
    obtain ⟨l5, hl5⟩ : ∃ l', l' = l4 ++ bput 0 2 := ⟨_, rfl⟩
    rw [← hl5] at ho hlen1
    have HO := Lib.hid ho
    obtain ⟨a1, c1, rfl, -, -⟩ := ho.rb.form
    clear hlen hg ho
    have hlen := hlen1
    clear hlen1
    rw [hlen] at HO ⊢
    obtain ⟨⟨x0, x1, x2, x3, x4, x5, x6⟩, -⟩ := hC.seven
    go_wp2_with fail
    clear x0 x1 x2 x3 x4 x5 x6
    refine (rpush_any h.ttl 1 _ HO.out.rb (by rw [hlen]; omega) (by omega) (by omega) (by show h.ttl < 256; omega)).mono ?_
    rintro e w1 ⟨v1, rfl, ho, hg⟩
    have hG := hG.step hg
    have hC := hC.gr hg
    have hlen1 : (l5 ++ bput h.ttl 1).length = 9 := by rw [List.length_append, bput_len, hlen]
    obtain ⟨l6, hl6⟩ : ∃ l', l' = l5 ++ bput h.ttl 1 := ⟨_, rfl⟩
    rw [← hl6] at ho hlen1
    have HO := Lib.hid ho
    obtain ⟨a1, c1, rfl, -, -⟩ := ho.rb.form
    clear hlen hg ho
    have hlen := hlen1
    clear hlen1
    rw [hlen] at HO ⊢
    obtain ⟨⟨x0, x1, x2, x3, x4, x5, x6⟩, -⟩ := hC.seven
    go_wp2_with fail
    clear x0 x1 x2 x3 x4 x5 x6
    have hbase0 := Gr.size hG
    refine (rpush_any h.proto 1 _ HO.out.rb (by rw [hlen]; omega) (by omega) (by omega) (by show h.proto < 256; omega)).mono ?_
    rintro e w1 ⟨v1, rfl, ho, hg⟩
    have hG := hG.step hg
    have hC := hC.gr hg
    have hlen1 : (l6 ++ bput h.proto 1).length = 10 := by rw [List.length_append, bput_len, hlen]
    obtain ⟨l7, hl7⟩ : ∃ l', l' = l6 ++ bput h.proto 1 := ⟨_, rfl⟩
    rw [← hl7] at ho hlen1
    have HO := Lib.hid ho
    obtain ⟨a1, c1, rfl, -, -⟩ := ho.rb.form
    clear hlen hg ho
    have hlen := hlen1
    clear hlen1
    rw [hlen] at HO ⊢
    go_wp2_with fail
    have HB7 : Hid (l7 = rhB h n) := Lib.hid (by rw [hl7, hl6, hl5, hl4, hl3, hl2, hl1, hl0, ← HFL.out]; rfl)
    rw [HB7.out] at HO
    clear hl0 hl1 hl2 hl3 hl4 hl5 hl6 hl7 hlen HN
    have HC := Lib.hid hC
    have HOB := Lib.hid (HO.out.base hbase0)
    clear hC
    have eW1 : IntKind.i64.wrap (h.src : Int) = (h.src : Int) := by rw [IntWalk.i64_in _ (by omega)]
    have eW2 : IntKind.i64.wrap (h.dst : Int) = (h.dst : Int) := by rw [IntWalk.i64_in _ (by omega)]
    have hS : Gr w1 w1.drew := Gr.drew (Gr.refl _)
    refine region_plain (Gr w1) (by kernel_rfl) ?_
    refine take_at 0 (some 34) (v := ?vfalse0) rfl rfl (by kernel_rfl) (by kernel_rfl) (by kernel_rfl) (by rfl) ?yfalse0 hS ?tfalse0
    case yfalse0 =>
      intro w' hSw
      obtain ⟨⟨q0, q1, q2, q3, q4, q5, q6⟩, -⟩ := (HC.out.gr hSw).seven
      go_simp
      (try with_reducible rfl)
    simp only [Act.put, List.setIfInBounds_toArray, List.set_cons_zero, List.set_cons_succ]
    refine take_at 1 (some 35) (v := ?vfalse1) rfl rfl (by kernel_rfl) (by kernel_rfl) (by kernel_rfl) (by rfl) ?yfalse1 hS ?tfalse1
    case yfalse1 =>
      intro w' hSw
      obtain ⟨⟨q0, q1, q2, q3, q4, q5, q6⟩, -⟩ := (HC.out.gr hSw).seven
      go_simp
      (try with_reducible rfl)
    simp only [Act.put, List.setIfInBounds_toArray, List.set_cons_zero, List.set_cons_succ]
    refine take_at 2 (some 36) (v := ?vfalse2) rfl rfl (by kernel_rfl) (by kernel_rfl) (by kernel_rfl) (by rfl) ?yfalse2 hS ?tfalse2
    case yfalse2 =>
      intro w' hSw
      obtain ⟨⟨q0, q1, q2, q3, q4, q5, q6⟩, -⟩ := (HC.out.gr hSw).seven
      go_simp
      (try with_reducible rfl)
    simp only [Act.put, List.setIfInBounds_toArray, List.set_cons_zero, List.set_cons_succ]
    refine take_at 4 (some 38) (v := ?vfalse4) rfl rfl (by kernel_rfl) (by kernel_rfl) (by kernel_rfl) (by rfl) ?yfalse4 hS ?tfalse4
    case yfalse4 =>
      intro w' hSw
      obtain ⟨⟨q0, q1, q2, q3, q4, q5, q6⟩, -⟩ := (HC.out.gr hSw).seven
      go_simp
      (try with_reducible rfl)
    simp only [Act.put, List.setIfInBounds_toArray, List.set_cons_zero, List.set_cons_succ]
    refine take_at 5 (some 39) (v := ?vfalse5) rfl rfl (by kernel_rfl) (by kernel_rfl) (by kernel_rfl) (by rfl) ?yfalse5 hS ?tfalse5
    case yfalse5 =>
      intro w' hSw
      obtain ⟨⟨q0, q1, q2, q3, q4, q5, q6⟩, -⟩ := (HC.out.gr hSw).seven
      go_simp
      (try with_reducible rfl)
    simp only [Act.put, List.setIfInBounds_toArray, List.set_cons_zero, List.set_cons_succ]
    refine take_at 6 (some 40) (v := ?vfalse6) rfl rfl (by kernel_rfl) (by kernel_rfl) (by kernel_rfl) (by rfl) ?yfalse6 hS ?tfalse6
    case yfalse6 =>
      intro w' hSw
      obtain ⟨⟨q0, q1, q2, q3, q4, q5, q6⟩, -⟩ := (HC.out.gr hSw).seven
      go_simp
      (try with_reducible rfl)
    simp only [Act.put, List.setIfInBounds_toArray, List.set_cons_zero, List.set_cons_succ]
    refine next_at 3 rfl (by kernel_rfl) (by rfl) (fun K hK => ?_)
    go_simp
    refine (rpush_any h.src 4 _ (Rb.nil (fun _ => True) _) (by simp) (by omega) (by omega) (by show h.src < 4294967296; omega)).mono ?_
    rintro e w2 ⟨v2, rfl, ho2, hg2⟩
    have hS2 := Gr.step hS hg2
    have HS2 := Lib.hid ho2.rb
    obtain ⟨a2, c2, rfl, -, -⟩ := ho2.rb.form
    refine hK _ _ hS2 ?_
    clear hK K hS ho2 hg2
    have hS := hS2
    clear hS2
    refine next_at 7 rfl (by kernel_rfl) (by rfl) (fun K hK => ?_)
    go_simp
    refine (rpush_any h.dst 4 _ HS2.out (by rw [List.length_append, bput_len]; simp) (by omega) (by omega) (by show h.dst < 4294967296; omega)).mono ?_
    rintro e w3 ⟨v3, rfl, ho3, hg3⟩
    have hS3 := Gr.step hS hg3
    have hT : Rb (fun _ => True) w3 v3 (rhT h) := ho3.rb.any
    refine hK _ _ hS3 ?_
    clear hK K hS ho3 hg3 HS2
    have hS := hS3
    clear hS3
    obtain ⟨a3, c3, rfl, -, -⟩ := hT.form
    rw [rhT_len] at hT ⊢
    have HT := Lib.hid hT
    clear hT
    refine next_at 8 rfl (by kernel_rfl) (by rfl) (fun K hK => ?_)
    go_simp
    refine hK _ _ hS ?_
    clear hK K
    refine wpAnyH_done (by kernel_rfl) ?_ _
    refine qz_normal ?_
    have hG3 := hG.step hS
    have HO3 := Lib.hid (HOB.out.gr hS)
    have HLB := Lib.hid (rhB_len h n)
    have HLT := Lib.hid (rhT_len h)
    clear hS
    go_wp2_with (first
      | (at_builtin
         refine wpList_app (base := w3.heap.size) rfl (.const (.slice none 0 0)) (.tmp 42) rfl rfl (OwB.nil _ _) rfl HO3.out.rb (by rw [HLB.out]; simp) (Nat.le_refl _) ?_
         intro v4 w4 ho4 g4
         have hg4 : Gr w3 w4 := Gr.grownNew (Gr.refl _) g4 (fun _ h => by cases h)
         rw [List.nil_append] at ho4
         have HO4 := Lib.hid ho4
         clear ho4 g4)
      | (at_builtin
         refine wpList_app (base := w4.heap.size) rfl (.tmp 44) (.tmp 45) rfl rfl (owb_zeros w4) rfl ((HT.out.gr hg4).gr (Gr.alloc (Gr.refl _) _)) (by rw [HLT.out]; simp) (by simp) ?_
         intro v5 w5 ho5 g5
         have hg5 : Gr w4 w5 := (Gr.alloc (Gr.refl w4) _).grownNew g5 (fun k hk => by cases hk; exact Nat.le_refl _)
         have HO5 := Lib.hid ho5
         clear ho5 g5)
      | (at_builtin
         refine wpList_app (base := w3.heap.size) rfl (.tmp 43) (.tmp 46) rfl rfl (HO4.out.gr hg5) rfl HO5.out.rb (by rw [HLB.out, List.length_append, HLT.out]; simp) (Nat.le_trans (Gr.size hg4) (Gr.size hg5)) ?_
         intro v6 w6 ho6 g6
         have hg6 : Gr w3 w6 := (hg4.step hg5).grownNew g6 HO4.out.above
         have HO6 := Lib.hid ho6
         clear ho6 g6))
    have hrw := HO6.out.rb
    rw [rh_raw K.out] at hrw
    have HCK := Lib.hid (rwchk_any w6 hrw (by rw [hraw_len]; omega))
    have e2 : (65535 : Int) - ((oc (wsum false (hraw h n 0)) : Nat) : Int) = ((hsum h n : Nat) : Int) := by have := oc_le (wsum false (hraw h n 0)); unfold hsum; omega
    rw [e2] at HCK
    have hSm := hsum_le h n
    clear e2 hrw
    refine HCK.out.mono ?_
    rintro e w7 ⟨rfl, rfl⟩
    have HFIN : Hid (rhB h n ++ bput (hsum h n) 2 ++ rhT h = hbytes h n) := Lib.hid (rh_fin K.out n _)
    generalize hsum h n = S at *
    have hsz3 := Gr.size hG3
    go_wp2_with (first
      | (at_builtin
         refine wpList_app (base := w6.heap.size) rfl (.tmp 51) (.tmp 52) rfl rfl ho7 rfl ((HT.out.gr hg6).gr hg7) (by rw [HLT.out, List.length_append, HLB.out, bput_len]; omega) (Gr.size hg7) ?_
         intro v8 w8 ho8 g8
         have hg8 : Gr w6 w8 := hg7.grownNew g8 ho7.above
         have HO8 := Lib.hid ho8
         clear ho8 g8)
      | (go_at_call 81
         refine (rpush_any S 2 _ (HO3.out.rb.gr hg6) (by rw [HLB.out]; omega) (by omega) (by omega) (by show S < 65536; omega)).mono ?_
         rintro e w7 ⟨v7, rfl, ho7, hg7⟩))
    go_ret
    have hf := HO8.out.base (b := w.heap.size) (by have := Gr.size hg6; omega)
    rw [HFIN.out] at hf
    exact ⟨_, rfl, hf, (hG3.step hg6).step hg8⟩
  | true =>
    have hC := CL.new w [.int .i64 h.tos, .int .i64 h.id, .int .i64 h.ttl, .int .i64 h.proto, .bool true, .int .u32 h.src, .int .u32 h.dst] 83 _ rfl
    have hG := Gr.alloc (Gr.refl w) (.cells #[.int .i64 h.tos, .int .i64 h.id, .int .i64 h.ttl, .int .i64 h.proto, .bool true, .int .u32 h.src, .int .u32 h.dst] 83)
    have HFL := Lib.hid (show h.fl = 16384 by unfold Hd.fl; rw [hk]; rfl)
    unfold Hd.v hdV
    rw [hk]
    clear hk
    obtain ⟨l0, hl0⟩ : ∃ l : List Nat, l = [] := ⟨_, rfl⟩
    have hlen : l0.length = 0 := by rw [hl0]; rfl
    have HN := Lib.hid (fun w : World => (by rw [hl0]; exact Rb.nil _ _ : Rb (fun _ => True) w (.slice none 0 0) l0))
    go_enter Try.func99, Try.ntmps99
    obtain ⟨⟨x0, x1, x2, x3, x4, x5, x6⟩, -⟩ := hC.seven
    go_wp2_with fail
    clear x0 x1 x2 x3 x4 x5 x6
    refine (rpush_any 69 1 _ (HN.out _) (by rw [hlen]; omega) (by omega) (by omega) (by decide)).mono ?_
    rintro e w1 ⟨v1, rfl, ho, hg⟩
    have hG := hG.step hg
    have hC := hC.gr hg
    have hlen1 : (l0 ++ bput 69 1).length = 1 := by rw [List.length_append, bput_len, hlen]
    obtain ⟨l1, hl1⟩ : ∃ l', l' = l0 ++ bput 69 1 := ⟨_, rfl⟩
    rw [← hl1] at ho hlen1
    have HO := Lib.hid ho
    obtain ⟨a1, c1, rfl, -, -⟩ := ho.rb.form
    clear hlen hg ho
    have hlen := hlen1
    clear hlen1
    rw [hlen] at HO ⊢
    obtain ⟨⟨x0, x1, x2, x3, x4, x5, x6⟩, -⟩ := hC.seven
    go_wp2_with fail
    clear x0 x1 x2 x3 x4 x5 x6
    refine (rpush_any h.tos 1 _ HO.out.rb (by rw [hlen]; omega) (by omega) (by omega) (by show h.tos < 256; omega)).mono ?_
    rintro e w1 ⟨v1, rfl, ho, hg⟩
    have hG := hG.step hg
    have hC := hC.gr hg
    have hlen1 : (l1 ++ bput h.tos 1).length = 2 := by rw [List.length_append, bput_len, hlen]
    obtain ⟨l2, hl2⟩ : ∃ l', l' = l1 ++ bput h.tos 1 := ⟨_, rfl⟩
    rw [← hl2] at ho hlen1
    have HO := Lib.hid ho
    obtain ⟨a1, c1, rfl, -, -⟩ := ho.rb.form
    clear hlen hg ho
    have hlen := hlen1
    clear hlen1
    rw [hlen] at HO ⊢
    obtain ⟨⟨x0, x1, x2, x3, x4, x5, x6⟩, -⟩ := hC.seven
    go_wp2_with fail
    clear x0 x1 x2 x3 x4 x5 x6
    refine (rpush_any n 2 _ HO.out.rb (by rw [hlen]; omega) (by omega) (by omega) (hn)).mono ?_
    rintro e w1 ⟨v1, rfl, ho, hg⟩
    have hG := hG.step hg
    have hC := hC.gr hg
    have hlen1 : (l2 ++ bput n 2).length = 4 := by rw [List.length_append, bput_len, hlen]
    obtain ⟨l3, hl3⟩ : ∃ l', l' = l2 ++ bput n 2 := ⟨_, rfl⟩
    rw [← hl3] at ho hlen1
    have HO := Lib.hid ho
    obtain ⟨a1, c1, rfl, -, -⟩ := ho.rb.form
    clear hlen hg ho
    have hlen := hlen1
    clear hlen1
    rw [hlen] at HO ⊢
    obtain ⟨⟨x0, x1, x2, x3, x4, x5, x6⟩, -⟩ := hC.seven
    go_wp2_with fail
    clear x0 x1 x2 x3 x4 x5 x6
    refine (rpush_any h.id 2 _ HO.out.rb (by rw [hlen]; omega) (by omega) (by omega) (by show h.id < 65536; omega)).mono ?_
    rintro e w1 ⟨v1, rfl, ho, hg⟩
    have hG := hG.step hg
    have hC := hC.gr hg
    have hlen1 : (l3 ++ bput h.id 2).length = 6 := by rw [List.length_append, bput_len, hlen]
    obtain ⟨l4, hl4⟩ : ∃ l', l' = l3 ++ bput h.id 2 := ⟨_, rfl⟩
    rw [← hl4] at ho hlen1
    have HO := Lib.hid ho
    obtain ⟨a1, c1, rfl, -, -⟩ := ho.rb.form
    clear hlen hg ho
    have hlen := hlen1
    clear hlen1
    rw [hlen] at HO ⊢
    obtain ⟨⟨x0, x1, x2, x3, x4, x5, x6⟩, -⟩ := hC.seven
    go_wp2_with fail
    clear x0 x1 x2 x3 x4 x5 x6
    refine (rpush_any 16384 2 _ HO.out.rb (by rw [hlen]; omega) (by omega) (by omega) (by decide)).mono ?_
    rintro e w1 ⟨v1, rfl, ho, hg⟩
    have hG := hG.step hg
    have hC := hC.gr hg
    have hlen1 : (l4 ++ bput 16384 2).length = 8 := by rw [List.length_append, bput_len, hlen]
    obtain ⟨l5, hl5⟩ : ∃ l', l' = l4 ++ bput 16384 2 := ⟨_, rfl⟩
    rw [← hl5] at ho hlen1
    have HO := Lib.hid ho
    obtain ⟨a1, c1, rfl, -, -⟩ := ho.rb.form
    clear hlen hg ho
    have hlen := hlen1
    clear hlen1
    rw [hlen] at HO ⊢
    obtain ⟨⟨x0, x1, x2, x3, x4, x5, x6⟩, -⟩ := hC.seven
    go_wp2_with fail
    clear x0 x1 x2 x3 x4 x5 x6
    refine (rpush_any h.ttl 1 _ HO.out.rb (by rw [hlen]; omega) (by omega) (by omega) (by show h.ttl < 256; omega)).mono ?_
    rintro e w1 ⟨v1, rfl, ho, hg⟩
    have hG := hG.step hg
    have hC := hC.gr hg
    have hlen1 : (l5 ++ bput h.ttl 1).length = 9 := by rw [List.length_append, bput_len, hlen]
    obtain ⟨l6, hl6⟩ : ∃ l', l' = l5 ++ bput h.ttl 1 := ⟨_, rfl⟩
    rw [← hl6] at ho hlen1
    have HO := Lib.hid ho
    obtain ⟨a1, c1, rfl, -, -⟩ := ho.rb.form
    clear hlen hg ho
    have hlen := hlen1
    clear hlen1
    rw [hlen] at HO ⊢
    obtain ⟨⟨x0, x1, x2, x3, x4, x5, x6⟩, -⟩ := hC.seven
    go_wp2_with fail
    clear x0 x1 x2 x3 x4 x5 x6
    have hbase0 := Gr.size hG
    refine (rpush_any h.proto 1 _ HO.out.rb (by rw [hlen]; omega) (by omega) (by omega) (by show h.proto < 256; omega)).mono ?_
    rintro e w1 ⟨v1, rfl, ho, hg⟩
    have hG := hG.step hg
    have hC := hC.gr hg
    have hlen1 : (l6 ++ bput h.proto 1).length = 10 := by rw [List.length_append, bput_len, hlen]
    obtain ⟨l7, hl7⟩ : ∃ l', l' = l6 ++ bput h.proto 1 := ⟨_, rfl⟩
    rw [← hl7] at ho hlen1
    have HO := Lib.hid ho
    obtain ⟨a1, c1, rfl, -, -⟩ := ho.rb.form
    clear hlen hg ho
    have hlen := hlen1
    clear hlen1
    rw [hlen] at HO ⊢
    go_wp2_with fail
    have HB7 : Hid (l7 = rhB h n) := Lib.hid (by rw [hl7, hl6, hl5, hl4, hl3, hl2, hl1, hl0, ← HFL.out]; rfl)
    rw [HB7.out] at HO
    clear hl0 hl1 hl2 hl3 hl4 hl5 hl6 hl7 hlen HN
    have HC := Lib.hid hC
    have HOB := Lib.hid (HO.out.base hbase0)
    clear hC
    have eW1 : IntKind.i64.wrap (h.src : Int) = (h.src : Int) := by rw [IntWalk.i64_in _ (by omega)]
    have eW2 : IntKind.i64.wrap (h.dst : Int) = (h.dst : Int) := by rw [IntWalk.i64_in _ (by omega)]
    have hS : Gr w1 w1.drew := Gr.drew (Gr.refl _)
    refine region_plain (Gr w1) (by kernel_rfl) ?_
    refine take_at 0 (some 34) (v := ?vtrue0) rfl rfl (by kernel_rfl) (by kernel_rfl) (by kernel_rfl) (by rfl) ?ytrue0 hS ?ttrue0
    case ytrue0 =>
      intro w' hSw
      obtain ⟨⟨q0, q1, q2, q3, q4, q5, q6⟩, -⟩ := (HC.out.gr hSw).seven
      go_simp
      (try with_reducible rfl)
    simp only [Act.put, List.setIfInBounds_toArray, List.set_cons_zero, List.set_cons_succ]
    refine take_at 1 (some 35) (v := ?vtrue1) rfl rfl (by kernel_rfl) (by kernel_rfl) (by kernel_rfl) (by rfl) ?ytrue1 hS ?ttrue1
    case ytrue1 =>
      intro w' hSw
      obtain ⟨⟨q0, q1, q2, q3, q4, q5, q6⟩, -⟩ := (HC.out.gr hSw).seven
      go_simp
      (try with_reducible rfl)
    simp only [Act.put, List.setIfInBounds_toArray, List.set_cons_zero, List.set_cons_succ]
    refine take_at 2 (some 36) (v := ?vtrue2) rfl rfl (by kernel_rfl) (by kernel_rfl) (by kernel_rfl) (by rfl) ?ytrue2 hS ?ttrue2
    case ytrue2 =>
      intro w' hSw
      obtain ⟨⟨q0, q1, q2, q3, q4, q5, q6⟩, -⟩ := (HC.out.gr hSw).seven
      go_simp
      (try with_reducible rfl)
    simp only [Act.put, List.setIfInBounds_toArray, List.set_cons_zero, List.set_cons_succ]
    refine take_at 4 (some 38) (v := ?vtrue4) rfl rfl (by kernel_rfl) (by kernel_rfl) (by kernel_rfl) (by rfl) ?ytrue4 hS ?ttrue4
    case ytrue4 =>
      intro w' hSw
      obtain ⟨⟨q0, q1, q2, q3, q4, q5, q6⟩, -⟩ := (HC.out.gr hSw).seven
      go_simp
      (try with_reducible rfl)
    simp only [Act.put, List.setIfInBounds_toArray, List.set_cons_zero, List.set_cons_succ]
    refine take_at 5 (some 39) (v := ?vtrue5) rfl rfl (by kernel_rfl) (by kernel_rfl) (by kernel_rfl) (by rfl) ?ytrue5 hS ?ttrue5
    case ytrue5 =>
      intro w' hSw
      obtain ⟨⟨q0, q1, q2, q3, q4, q5, q6⟩, -⟩ := (HC.out.gr hSw).seven
      go_simp
      (try with_reducible rfl)
    simp only [Act.put, List.setIfInBounds_toArray, List.set_cons_zero, List.set_cons_succ]
    refine take_at 6 (some 40) (v := ?vtrue6) rfl rfl (by kernel_rfl) (by kernel_rfl) (by kernel_rfl) (by rfl) ?ytrue6 hS ?ttrue6
    case ytrue6 =>
      intro w' hSw
      obtain ⟨⟨q0, q1, q2, q3, q4, q5, q6⟩, -⟩ := (HC.out.gr hSw).seven
      go_simp
      (try with_reducible rfl)
    simp only [Act.put, List.setIfInBounds_toArray, List.set_cons_zero, List.set_cons_succ]
    refine next_at 3 rfl (by kernel_rfl) (by rfl) (fun K hK => ?_)
    go_simp
    refine (rpush_any h.src 4 _ (Rb.nil (fun _ => True) _) (by simp) (by omega) (by omega) (by show h.src < 4294967296; omega)).mono ?_
    rintro e w2 ⟨v2, rfl, ho2, hg2⟩
    have hS2 := Gr.step hS hg2
    have HS2 := Lib.hid ho2.rb
    obtain ⟨a2, c2, rfl, -, -⟩ := ho2.rb.form
    refine hK _ _ hS2 ?_
    clear hK K hS ho2 hg2
    have hS := hS2
    clear hS2
    refine next_at 7 rfl (by kernel_rfl) (by rfl) (fun K hK => ?_)
    go_simp
    refine (rpush_any h.dst 4 _ HS2.out (by rw [List.length_append, bput_len]; simp) (by omega) (by omega) (by show h.dst < 4294967296; omega)).mono ?_
    rintro e w3 ⟨v3, rfl, ho3, hg3⟩
    have hS3 := Gr.step hS hg3
    have hT : Rb (fun _ => True) w3 v3 (rhT h) := ho3.rb.any
    refine hK _ _ hS3 ?_
    clear hK K hS ho3 hg3 HS2
    have hS := hS3
    clear hS3
    obtain ⟨a3, c3, rfl, -, -⟩ := hT.form
    rw [rhT_len] at hT ⊢
    have HT := Lib.hid hT
    clear hT
    refine next_at 8 rfl (by kernel_rfl) (by rfl) (fun K hK => ?_)
    go_simp
    refine hK _ _ hS ?_
    clear hK K
    refine wpAnyH_done (by kernel_rfl) ?_ _
    refine qz_normal ?_
    have hG3 := hG.step hS
    have HO3 := Lib.hid (HOB.out.gr hS)
    have HLB := Lib.hid (rhB_len h n)
    have HLT := Lib.hid (rhT_len h)
    clear hS
    go_wp2_with (first
      | (at_builtin
         refine wpList_app (base := w3.heap.size) rfl (.const (.slice none 0 0)) (.tmp 42) rfl rfl (OwB.nil _ _) rfl HO3.out.rb (by rw [HLB.out]; simp) (Nat.le_refl _) ?_
         intro v4 w4 ho4 g4
         have hg4 : Gr w3 w4 := Gr.grownNew (Gr.refl _) g4 (fun _ h => by cases h)
         rw [List.nil_append] at ho4
         have HO4 := Lib.hid ho4
         clear ho4 g4)
      | (at_builtin
         refine wpList_app (base := w4.heap.size) rfl (.tmp 44) (.tmp 45) rfl rfl (owb_zeros w4) rfl ((HT.out.gr hg4).gr (Gr.alloc (Gr.refl _) _)) (by rw [HLT.out]; simp) (by simp) ?_
         intro v5 w5 ho5 g5
         have hg5 : Gr w4 w5 := (Gr.alloc (Gr.refl w4) _).grownNew g5 (fun k hk => by cases hk; exact Nat.le_refl _)
         have HO5 := Lib.hid ho5
         clear ho5 g5)
      | (at_builtin
         refine wpList_app (base := w3.heap.size) rfl (.tmp 43) (.tmp 46) rfl rfl (HO4.out.gr hg5) rfl HO5.out.rb (by rw [HLB.out, List.length_append, HLT.out]; simp) (Nat.le_trans (Gr.size hg4) (Gr.size hg5)) ?_
         intro v6 w6 ho6 g6
         have hg6 : Gr w3 w6 := (hg4.step hg5).grownNew g6 HO4.out.above
         have HO6 := Lib.hid ho6
         clear ho6 g6))
    have hrw := HO6.out.rb
    rw [rh_raw K.out] at hrw
    have HCK := Lib.hid (rwchk_any w6 hrw (by rw [hraw_len]; omega))
    have e2 : (65535 : Int) - ((oc (wsum false (hraw h n 0)) : Nat) : Int) = ((hsum h n : Nat) : Int) := by have := oc_le (wsum false (hraw h n 0)); unfold hsum; omega
    rw [e2] at HCK
    have hSm := hsum_le h n
    clear e2 hrw
    refine HCK.out.mono ?_
    rintro e w7 ⟨rfl, rfl⟩
    have HFIN : Hid (rhB h n ++ bput (hsum h n) 2 ++ rhT h = hbytes h n) := Lib.hid (rh_fin K.out n _)
    generalize hsum h n = S at *
    have hsz3 := Gr.size hG3
    go_wp2_with (first
      | (at_builtin
         refine wpList_app (base := w6.heap.size) rfl (.tmp 51) (.tmp 52) rfl rfl ho7 rfl ((HT.out.gr hg6).gr hg7) (by rw [HLT.out, List.length_append, HLB.out, bput_len]; omega) (Gr.size hg7) ?_
         intro v8 w8 ho8 g8
         have hg8 : Gr w6 w8 := hg7.grownNew g8 ho7.above
         have HO8 := Lib.hid ho8
         clear ho8 g8)
      | (go_at_call 81
         refine (rpush_any S 2 _ (HO3.out.rb.gr hg6) (by rw [HLB.out]; omega) (by omega) (by omega) (by show S < 65536; omega)).mono ?_
         rintro e w7 ⟨v7, rfl, ho7, hg7⟩))
    go_ret
    have hf := HO8.out.base (b := w.heap.size) (by have := Gr.size hg6; omega)
    rw [HFIN.out] at hf
    exact ⟨_, rfl, hf, (hG3.step hg6).step hg8⟩
end Go.Proofs.Ytlkhdbgknkjioaa
/- The document's Encode; what Encode answers to any packet. -/
namespace Go.Proofs.Ytlkhdbgknkjioaa
open Go Go.RowKit Go.Sort
set_option maxRecDepth 100000
set_option linter.unusedVariables false
theorem rencode_bad {tos id ttl proto : Int} (keep : Bool) (src dst : Int) (a : Option Addr) (n c : Nat) (w : World) (hn : ¬ ckOk tos id ttl proto) :
    Calls Try.prog 70 #[pkV tos id ttl proto keep src dst (.slice a n c)] w fun e w' => e = .returned (.tuple #[.slice none 0 0, .int .i64 1]) ∧ Gr w w' := by
  have HK := Lib.hid (fun w => rcheck_any tos id ttl proto keep src dst w)
  rw [ckE_no hn] at HK
  clear hn
  unfold pkV hdV at *
  go_enter Try.func70, Try.ntmps70
  go_wp2_with fail
  refine (HK.out _).mono ?_
  rintro e w1 ⟨rfl, hg⟩
  go_wp2_with fail
  go_ret2
  exact ⟨rfl, (Gr.alloc (Gr.refl w) _).step hg⟩
theorem rencode_long {tos id ttl proto : Int} (keep : Bool) (src dst : Int) (a : Option Addr) (n c : Nat) (w : World) (hn : ckOk tos id ttl proto) (hl : 1480 < n) (hm : n ≤ 100000) :
    Calls Try.prog 70 #[pkV tos id ttl proto keep src dst (.slice a n c)] w fun e w' => e = .returned (.tuple #[.slice none 0 0, .int .i64 5]) ∧ Gr w w' := by
  have HK := Lib.hid (fun w => rcheck_any tos id ttl proto keep src dst w)
  rw [ckE_yes hn] at HK
  clear hn
  obtain ⟨N, hN⟩ : ∃ N, N = n + 20 := ⟨_, rfl⟩
  have e20 : (n : Int) + 20 = (N : Int) := by omega
  have d1 : decide ((1500 : Int) < (N : Int)) = true := by rw [decide_eq_true_eq]; omega
  have hN2 : N ≤ 100020 := by omega
  clear hN
  have HC := Lib.hid (C8.new w tos id ttl proto keep src dst (.slice a n c) 85 _ rfl)
  unfold pkV hdV at *
  go_enter Try.func70, Try.ntmps70
  go_wp2_with fail
  refine (HK.out _).mono ?_
  rintro e w1 ⟨rfl, hg⟩
  have hC := HC.out.gr hg
  obtain ⟨q0, q1, q2, q3, q4, q5, q6, q7⟩ := hC
  go_wp2_with fail
  go_ret2
  exact ⟨rfl, (Gr.alloc (Gr.refl w) _).step hg⟩
set_option maxHeartbeats 400000 in
theorem rencode_ok {p : Nat → Prop} {v : Value} {d : List Nat} (h : Hd) (k : h.ok) (w : World) (hr : Rb p w v d) (hl : d.length ≤ 1480) :
    Calls Try.prog 70 #[h.p v] w fun e w' => ∃ v', e = .returned (.tuple #[v', .int .i64 0]) ∧ OwB w.heap.size w' v' (hbytes h (20 + d.length) ++ d) ∧ Gr w w' := by
  obtain ⟨a, cap, rfl, hcap, hmx⟩ := hr.form
  have HK := Lib.hid (fun w => rcheck_any h.tos h.id h.ttl h.proto h.keep h.src h.dst w)
  rw [ckE_yes (ckOk_of k)] at HK
  obtain ⟨N, hN⟩ : ∃ N, N = 20 + d.length := ⟨_, rfl⟩
  rw [← hN]
  have HHD := Lib.hid (fun w => rheader_any h k N (by omega) w)
  have HR := Lib.hid hr
  have HC := Lib.hid (C8.new w h.tos h.id h.ttl h.proto h.keep h.src h.dst (.slice a d.length cap) 85 _ rfl)
  have e20 : (d.length : Int) + 20 = (N : Int) := by omega
  have d1 : decide ((1500 : Int) < (N : Int)) = false := by rw [decide_eq_false_iff_not]; omega
  have KO := Lib.hid (hbytes_len h N)
  have HN := Lib.hid hN
  have eW : IntKind.i64.wrap (N : Int) = (N : Int) := by rw [IntWalk.i64_in _ (by omega)]
  clear hr k hN
  unfold Hd.p pkV Hd.v hdV at *
  go_enter Try.func70, Try.ntmps70
  go_wp2_with fail
  refine (HK.out _).mono ?_
  rintro e w1 ⟨rfl, hg⟩
  have HC := Lib.hid (HC.out.gr hg)
  obtain ⟨q0, q1, q2, q3, q4, q5, q6, q7⟩ := HC.out
  have hG := (Gr.alloc (Gr.refl w) _).step hg
  clear hg HK
  go_wp2_with fail
  clear q0 q1 q2 q3 q4 q5 q6 q7
  have hS : Gr w1 w1.drew := Gr.drew (Gr.refl _)
  refine region_plain (Gr w1) (by kernel_rfl) ?_
  refine take_at 0 (some 16) (v := ?v0) rfl rfl (by kernel_rfl) (by kernel_rfl) (by kernel_rfl) (by rfl) ?y0 hS ?t0
  case y0 =>
    intro w' hSw
    obtain ⟨q0, q1, q2, q3, q4, q5, q6, q7⟩ := HC.out.gr hSw
    go_simp
    (try with_reducible rfl)
  simp only [Act.put, List.setIfInBounds_toArray, List.set_cons_zero, List.set_cons_succ]
  refine take_at 1 (some 17) (v := ?v1) rfl rfl (by kernel_rfl) (by kernel_rfl) (by kernel_rfl) (by rfl) ?y1 hS ?t1
  case y1 =>
    intro w' hSw
    obtain ⟨q0, q1, q2, q3, q4, q5, q6, q7⟩ := HC.out.gr hSw
    go_simp
    (try with_reducible rfl)
  simp only [Act.put, List.setIfInBounds_toArray, List.set_cons_zero, List.set_cons_succ]
  refine take_at 2 (some 18) (v := ?v2) rfl rfl (by kernel_rfl) (by kernel_rfl) (by kernel_rfl) (by rfl) ?y2 hS ?t2
  case y2 =>
    intro w' hSw
    obtain ⟨q0, q1, q2, q3, q4, q5, q6, q7⟩ := HC.out.gr hSw
    go_simp
    (try with_reducible rfl)
  simp only [Act.put, List.setIfInBounds_toArray, List.set_cons_zero, List.set_cons_succ]
  refine take_at 3 (some 19) (v := ?v3) rfl rfl (by kernel_rfl) (by kernel_rfl) (by kernel_rfl) (by rfl) ?y3 hS ?t3
  case y3 =>
    intro w' hSw
    obtain ⟨q0, q1, q2, q3, q4, q5, q6, q7⟩ := HC.out.gr hSw
    go_simp
    (try with_reducible rfl)
  simp only [Act.put, List.setIfInBounds_toArray, List.set_cons_zero, List.set_cons_succ]
  refine take_at 4 (some 20) (v := ?v4) rfl rfl (by kernel_rfl) (by kernel_rfl) (by kernel_rfl) (by rfl) ?y4 hS ?t4
  case y4 =>
    intro w' hSw
    obtain ⟨q0, q1, q2, q3, q4, q5, q6, q7⟩ := HC.out.gr hSw
    go_simp
    (try with_reducible rfl)
  simp only [Act.put, List.setIfInBounds_toArray, List.set_cons_zero, List.set_cons_succ]
  refine take_at 5 (some 21) (v := ?v5) rfl rfl (by kernel_rfl) (by kernel_rfl) (by kernel_rfl) (by rfl) ?y5 hS ?t5
  case y5 =>
    intro w' hSw
    obtain ⟨q0, q1, q2, q3, q4, q5, q6, q7⟩ := HC.out.gr hSw
    go_simp
    (try with_reducible rfl)
  simp only [Act.put, List.setIfInBounds_toArray, List.set_cons_zero, List.set_cons_succ]
  refine take_at 7 (some 23) (v := ?v7) rfl rfl (by kernel_rfl) (by kernel_rfl) (by kernel_rfl) (by rfl) ?y7 hS ?t7
  case y7 =>
    intro w' hSw
    obtain ⟨q0, q1, q2, q3, q4, q5, q6, q7⟩ := HC.out.gr hSw
    go_simp
    (try with_reducible rfl)
  simp only [Act.put, List.setIfInBounds_toArray, List.set_cons_zero, List.set_cons_succ]
  refine take_at 8 (some 24) (v := ?v8) rfl rfl (by kernel_rfl) (by kernel_rfl) (by kernel_rfl) (by rfl) ?y8 hS ?t8
  case y8 =>
    intro w' hSw
    obtain ⟨q0, q1, q2, q3, q4, q5, q6, q7⟩ := HC.out.gr hSw
    go_simp
    (try with_reducible rfl)
  simp only [Act.put, List.setIfInBounds_toArray, List.set_cons_zero, List.set_cons_succ]
  refine next_at 6 rfl (by kernel_rfl) (by rfl) (fun K hK => ?_)
  go_simp
  refine (HHD.out _).mono ?_
  rintro e w2 ⟨vh, rfl, hvh, hg2⟩
  have hS2 := Gr.step (Gr.drew (Gr.refl w1)) hg2
  have HV := Lib.hid (hvh.base (b := w1.heap.size) (by simp))
  refine hK _ _ hS2 ?_
  clear hK K hvh hS
  have hS := hS2
  refine next_at 9 rfl (by kernel_rfl) (by rfl) (fun K hK => ?_)
  refine oper_app _ _ rfl rfl HV.out rfl (HR.out.gr (hG.step hS)) (by rw [KO.out]; omega) (Gr.size hS) ?_
  intro v4 w4 ho4 g4
  have hS4 := hS.grownNew g4 HV.out.above
  have HO4 := Lib.hid (ho4.base (b := w.heap.size) (Gr.size hG))
  have hG4 := hG.step hS4
  refine hK _ _ hS4 ?_
  simp only [Act.put, List.setIfInBounds_toArray]
  clear hK K ho4 hS hS2 g4 HV
  have hS := hS4
  refine next_at 10 rfl (by kernel_rfl) (by rfl) (fun K hK => ?_)
  go_simp
  refine hK _ _ hS ?_
  clear hK K
  refine next_at 11 rfl (by kernel_rfl) (by rfl) (fun K hK => ?_)
  go_simp
  refine hK _ _ hS ?_
  clear hK K
  refine wpAnyH_done (by kernel_rfl) ?_ _
  refine qz_normal ?_
  go_wp2_with fail
  go_ret2
  exact ⟨_, rfl, HO4.out, hG4⟩
/-- what Encode answers -/
def enE (tos id ttl proto : Int) (n : Nat) : Int := if ckOk tos id ttl proto then (if 1480 < n then 5 else 0) else 1
def enH (tos id ttl proto : Int) (keep : Bool) (src dst : Nat) : Hd := ⟨tos.toNat, id.toNat, ttl.toNat, proto.toNat, keep, src, dst⟩
def enL (tos id ttl proto : Int) (keep : Bool) (src dst : Nat) (d : List Nat) : List Nat := if ckOk tos id ttl proto ∧ d.length ≤ 1480 then hbytes (enH tos id ttl proto keep src dst) (20 + d.length) ++ d else []
theorem enL_len (tos id ttl proto : Int) (keep : Bool) (src dst : Nat) (d : List Nat) : (enL tos id ttl proto keep src dst d).length ≤ 1500 := by
  unfold enL; split
  · next h => rw [List.length_append, hbytes_len]; omega
  · simp
theorem enH_ok {tos id ttl proto : Int} (keep : Bool) {src dst : Nat} (h : ckOk tos id ttl proto) (h1 : src < 4294967296) (h2 : dst < 4294967296) : (enH tos id ttl proto keep src dst).ok := by
  unfold ckOk inB at h
  constructor <;> simp only [enH] <;> omega
theorem enH_p {tos id ttl proto : Int} (keep : Bool) (src dst : Nat) (v : Value) (h : ckOk tos id ttl proto) : (enH tos id ttl proto keep src dst).p v = pkV tos id ttl proto keep src dst v := by
  unfold ckOk inB at h
  unfold Hd.p enH
  simp only
  rw [Int.toNat_of_nonneg (by omega), Int.toNat_of_nonneg (by omega), Int.toNat_of_nonneg (by omega), Int.toNat_of_nonneg (by omega)]
def EnRes (w : World) (tos id ttl proto : Int) (keep : Bool) (src dst : Nat) (d : List Nat) (e : Ending) (w' : World) : Prop :=
  ∃ v', e = .returned (.tuple #[v', .int .i64 (enE tos id ttl proto d.length)]) ∧ OwB w.heap.size w' v' (enL tos id ttl proto keep src dst d) ∧ Gr w w'
theorem encode_res {p : Nat → Prop} {v : Value} {d : List Nat} (tos id ttl proto : Int) (keep : Bool) (src dst : Nat) (w : World) (hr : Rb p w v d) (hs : src < 4294967296) (hd : dst < 4294967296) (hl : d.length ≤ 100000) :
    Calls Try.prog 68 #[pkV tos id ttl proto keep src dst v] w (EnRes w tos id ttl proto keep src dst d) := by
  by_cases h1 : ckOk tos id ttl proto
  · by_cases h2 : 1480 < d.length
    · obtain ⟨a, c, rfl, -, -⟩ := hr.form
      refine (encode_long keep src dst a d.length c w h1 h2 (by omega)).mono ?_
      rintro e w' ⟨rfl, hg⟩
      refine ⟨_, by unfold enE; rw [if_pos h1, if_pos h2], ?_, hg⟩
      unfold enL; rw [if_neg (fun k => by have := k.2; omega)]
      exact OwB.nil _ _
    · have h := encode_ok (enH tos id ttl proto keep src dst) (enH_ok keep h1 hs hd) w hr (by omega)
      rw [enH_p keep src dst v h1] at h
      refine h.mono ?_
      rintro e w' ⟨v', rfl, ho, hg⟩
      refine ⟨_, by unfold enE; rw [if_pos h1, if_neg h2], ?_, hg⟩
      unfold enL; rw [if_pos ⟨h1, by omega⟩]
      exact ho
  · obtain ⟨a, c, rfl, -, -⟩ := hr.form
    refine (encode_bad keep src dst a d.length c w h1).mono ?_
    rintro e w' ⟨rfl, hg⟩
    refine ⟨_, by unfold enE; rw [if_neg h1], ?_, hg⟩
    unfold enL; rw [if_neg (fun k => h1 k.1)]
    exact OwB.nil _ _
theorem rencode_res {p : Nat → Prop} {v : Value} {d : List Nat} (tos id ttl proto : Int) (keep : Bool) (src dst : Nat) (w : World) (hr : Rb p w v d) (hs : src < 4294967296) (hd : dst < 4294967296) (hl : d.length ≤ 100000) :
    Calls Try.prog 70 #[pkV tos id ttl proto keep src dst v] w (EnRes w tos id ttl proto keep src dst d) := by
  by_cases h1 : ckOk tos id ttl proto
  · by_cases h2 : 1480 < d.length
    · obtain ⟨a, c, rfl, -, -⟩ := hr.form
      refine (rencode_long keep src dst a d.length c w h1 h2 (by omega)).mono ?_
      rintro e w' ⟨rfl, hg⟩
      refine ⟨_, by unfold enE; rw [if_pos h1, if_pos h2], ?_, hg⟩
      unfold enL; rw [if_neg (fun k => by have := k.2; omega)]
      exact OwB.nil _ _
    · have h := rencode_ok (enH tos id ttl proto keep src dst) (enH_ok keep h1 hs hd) w hr (by omega)
      rw [enH_p keep src dst v h1] at h
      refine h.mono ?_
      rintro e w' ⟨v', rfl, ho, hg⟩
      refine ⟨_, by unfold enE; rw [if_pos h1, if_neg h2], ?_, hg⟩
      unfold enL; rw [if_pos ⟨h1, by omega⟩]
      exact ho
  · obtain ⟨a, c, rfl, -, -⟩ := hr.form
    refine (rencode_bad keep src dst a d.length c w h1).mono ?_
    rintro e w' ⟨rfl, hg⟩
    refine ⟨_, by unfold enE; rw [if_neg h1], ?_, hg⟩
    unfold enL; rw [if_neg (fun k => h1 k.1)]
    exact OwB.nil _ _
end Go.Proofs.Ytlkhdbgknkjioaa
