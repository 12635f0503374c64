/- Several texts in one. -/
import Derived.Test.YtkpejaiigopmgaaGreatDoorGE
import Derived.WalkKit
import Derived.WalkSpells
import Derived.WalkLawsBesides
import Derived.WalkSmall
import Derived.Handy
import Derived.BigQuiet
import Derived.Deep.QuietTactic
import Derived.Deep.RegionHeld3
import Derived.Deep.DeepFit
import Derived.Below
import Derived.Lib.Hide
import Derived.Lib.QuietBelow
import Derived.Test.YtkpejaiigopmgaaGreatDoorIc
import Derived.Test.YtkpejaiigopmgaaGreatDoorGB
import Derived.Test.YtkpejaiigopmgaaGreatDoorGD
import Derived.Test.YtkpejaiigopmgaaGreatDoorGA
/- The document's package wire: Put. -/
namespace Go.Proofs.YtkpejaiigopmgaaGreatDoor
open Go Go.RowKit Go.Sort
set_option maxRecDepth 100000
set_option linter.unusedVariables false
theorem bput_step (n k t : Nat) (h : t < k) : (bput n k).take (t + 1) = (bput n k).take t ++ [n / 256 ^ (k - 1 - t) % 256] := by
  rw [take_add_one _ (by rw [bput_len]; exact h)]
  have := bput_at n k (k - 1 - t) (by omega)
  rw [show k - 1 - (k - 1 - t) = t by omega] at this
  rw [this]
theorem owb_one (w : World) (x : Nat) (hx : x < 256) : OwB w.heap.size (w.alloc (.cells #[.int .u8 (x : Int)] 5)) (.slice (some ⟨w.heap.size, 0, none⟩) 1 1) [x] := by
  have h := World.ownsRow_lit (base := w.heap.size) (e := 5) (size := 1) w #[.int .u8 (x : Int)] 1 (Nat.le_refl _) (by unfold maxLen; omega) (by simp)
  exact ⟨h, fun y hy => by rw [List.mem_singleton] at hy; subst hy; exact hx⟩
set_option maxHeartbeats 2000000 in
theorem rput_own {p : Nat → Prop} {v : Value} {l : List Nat} (n k : Nat) (w : World) (h : Rb p w v l) (hl : l.length ≤ 90000) (hk0 : 1 ≤ k) (hk1 : k ≤ 7) (hn : n < 256 ^ k) :
    Calls Tryz.prog 93 #[v, .int .i64 n, .int .i64 k] w fun e w' => ∃ v', e = .returned (.tuple #[v', .int .i64 0]) ∧ OwB w.heap.size w' v' (l ++ bput n k) ∧ Gr w w' := by
  have H := Lib.hid h
  obtain ⟨a, cap, rfl, hcap, hmx⟩ := h.form
  have hp7 := pow_256_le hk1
  have hsh := wrap_pow hk1
  have d0 : decide ((k : Int) < 1) = false := by rw [decide_eq_false_iff_not]; omega
  have d0b : decide ((7 : Int) < (k : Int)) = false := by rw [decide_eq_false_iff_not]; omega
  have d1 : decide ((n : Int) < 0) = false := by rw [decide_eq_false_iff_not]; omega
  have d2 : decide (((256 ^ k : Nat) : Int) ≤ (n : Int)) = false := by simp; exact_mod_cast hn
  have d3 : decide (256 ^ k ≤ n) = false := by simp; exact hn
  clear h hn
  generalize 256 ^ k = P at *
  go_enter Tryz.func93, Tryz.ntmps93
  go_wp2_with (at_builtin; refine wpList_app (base := w.heap.size) rfl (.const (.slice none 0 0)) (.tmp 27) rfl rfl (OwB.nil _ _) rfl H.out (by simp; omega) (Nat.le_refl _) ?_; intro v1 w1 ho1 g1; have hG1 : Gr w w1 := Gr.grownNew (Gr.refl _) g1 (fun _ h => by cases h); rw [List.nil_append] at ho1; clear g1)
  have HO1 := Lib.hid ho1
  have HG1 := Lib.hid hG1
  clear ho1 hG1 d0 d0b d1 d2 d3 hsh
  go_loopw [8, 9] (fun s i wr => ∃ t : Nat, t ≤ k ∧ i = .int .i64 ((k : Int) - 1 - (t : Int)) ∧ OwB w.heap.size wr s (l ++ (bput n k).take t) ∧ Gr w wr) (fun _ i _ => (intOf i + 1).toNat)
  case atStart => exact ⟨0, Nat.zero_le _, by simp, by rw [List.take_zero, List.append_nil]; exact HO1.out, HG1.out⟩
  case round =>
    obtain ⟨t, ht, rfl, ho, hgr⟩ := hrel
    have HO := Lib.hid ho
    clear ho
    by_cases hlt : t < k
    · obtain ⟨j, hj⟩ : ∃ j, j = k - 1 - t := ⟨_, rfl⟩
      have e0 : (k : Int) - 1 - (t : Int) = (j : Int) := by omega
      have hj7 : j ≤ 7 := by omega
      have HB := Lib.hid (bput_step n k t hlt)
      rw [← hj] at HB
      have HJ := Lib.hid (show (j : Int) - 1 = (k : Int) - 1 - ((t + 1 : Nat) : Int) by omega)
      have e5 : (n : Int) / 2 ^ (8 * j) = ((n / 256 ^ j : Nat) : Int) := by rw [pow_256, ← Int.natCast_ediv]
      rw [e0]
      generalize n / 256 ^ j = M at *
      have e6 : (M : Int) % 256 = ((M % 256 : Nat) : Int) := by omega
      have e7 := wrap_byte M
      have hB256 : M % 256 < 256 := Nat.mod_lt _ (by omega)
      generalize M % 256 = B at *
      have HL := Lib.hid (show (l ++ (bput n k).take t).length + [B].length ≤ 100000 by rw [List.length_append, List.length_take, bput_len, List.length_singleton]; omega)
      have hsz := Gr.size hgr
      clear hj e0
      go_wp2_with (at_builtin; refine wpList_app (base := w.heap.size) rfl (.tmp 35) (.tmp 41) rfl rfl (HO.out.gr (Gr.alloc (Gr.refl _) _)) rfl (owb_one wr B hB256).rb HL.out (by simp; omega) ?_; intro v2 w2 ho2 g2)
      have hG2 : Gr w w2 := (hgr.alloc _).grownNew g2 HO.out.above
      go_roundw
      case rel => exact ⟨t + 1, by omega, by rw [← HJ.out], by rw [HB.out, ← List.append_assoc]; exact ho2, hG2⟩
      case measure => simp [intOf]
    · obtain rfl : t = k := by omega
      have e : (bput n t).take t = bput n t := List.take_of_length_le (by rw [bput_len]; exact Nat.le_refl _)
      rw [e] at HO
      have R := Lib.hid HO.out
      obtain ⟨a2, c2, hv2, -, -⟩ := HO.out.rb.form
      subst hv2
      go_wp2
      exact bodyPost_ret (v := .tuple #[.slice a2 (l ++ bput n t).length c2, .int .i64 0]) (by simp [results, Tryz.results93, go_sem]) rfl ⟨_, rfl, R.out, hgr⟩
theorem rput_yes {p : Nat → Prop} {v : Value} {l : List Nat} (n k : Nat) (w : World) (h : Rb p w v l) (hl : l.length ≤ 90000) (hk0 : 1 ≤ k) (hk1 : k ≤ 7) (hn : n < 256 ^ k) :
    Calls Tryz.prog 93 #[v, .int .i64 n, .int .i64 k] w fun e w' => ∃ v', e = .returned (.tuple #[v', .int .i64 0]) ∧ Rb (fun _ => True) w' v' (l ++ bput n k) ∧ Gr w w' := by
  refine (rput_own n k w h hl hk0 hk1 hn).mono ?_
  rintro e w' ⟨v', rfl, ho, hg⟩
  exact ⟨v', rfl, ho.rb.any, hg⟩
theorem rput_no (a : Option Addr) (len cap : Nat) (n k : Int) (w : World) (h : ¬ ((1 ≤ k ∧ k ≤ 7) ∧ 0 ≤ n ∧ n < (256 ^ k.toNat : Nat))) :
    Calls Tryz.prog 93 #[.slice a len cap, .int .i64 n, .int .i64 k] w fun e w' => e = .returned (.tuple #[.slice none 0 0, .int .i64 1]) ∧ w = w' := by
  by_cases h1 : k < 1
  · have d1 : decide (k < 1) = true := by simpa using h1
    clear h
    go_enter Tryz.func93, Tryz.ntmps93
    go_wp2
    go_ret2
    exact ⟨rfl, rfl⟩
  have d1 : decide (k < 1) = false := by simpa using h1
  by_cases h2 : 7 < k
  · have d2 : decide (7 < k) = true := by simpa using h2
    clear h
    go_enter Tryz.func93, Tryz.ntmps93
    go_wp2
    go_ret2
    exact ⟨rfl, rfl⟩
  have d2 : decide (7 < k) = false := by simpa using h2
  by_cases hn : n < 0
  · have d3 : decide (n < 0) = true := by simpa using hn
    clear h
    go_enter Tryz.func93, Tryz.ntmps93
    go_wp2
    go_ret2
    exact ⟨rfl, rfl⟩
  have d3 : decide (n < 0) = false := by simpa using hn
  obtain ⟨n, rfl⟩ := Int.eq_ofNat_of_zero_le (show 0 ≤ n by omega)
  obtain ⟨k, rfl⟩ := Int.eq_ofNat_of_zero_le (show 0 ≤ k by omega)
  have hp7 := pow_256_le (k := k) (by omega)
  have hsh := wrap_pow (k := k) (by omega)
  have hge : 256 ^ k ≤ n := by
    rcases Nat.lt_or_ge n (256 ^ k) with h2 | h2
    · exact absurd ⟨⟨by omega, by omega⟩, by omega, by simpa using (by exact_mod_cast h2)⟩ h
    · exact h2
  clear h
  generalize 256 ^ k = P at *
  have d4 : decide ((P : Int) ≤ (n : Int)) = true := by rw [decide_eq_true_eq]; omega
  have d5 : decide (P ≤ n) = true := by simpa using hge
  go_enter Tryz.func93, Tryz.ntmps93
  go_wp2
  go_ret2
  exact ⟨rfl, rfl⟩
theorem rput_any {p : Nat → Prop} {v : Value} {l : List Nat} (n k : Int) (w : World) (h : Rb p w v l) (hl : l.length ≤ 90000) :
    Calls Tryz.prog 93 #[v, .int .i64 n, .int .i64 k] w (PtPost w l n k) := by
  by_cases hr : (1 ≤ k ∧ k ≤ 7) ∧ 0 ≤ n ∧ n < (256 ^ k.toNat : Nat)
  · obtain ⟨n, rfl⟩ := Int.eq_ofNat_of_zero_le hr.2.1
    obtain ⟨k, rfl⟩ := Int.eq_ofNat_of_zero_le (show 0 ≤ k by omega)
    refine (rput_yes n k w h hl (by omega) (by omega) (by have := hr.2.2; rw [Int.toNat_natCast] at this; omega)).mono ?_
    rintro e w' ⟨v', rfl, hv, hg⟩
    exact ⟨v', 0, rfl, .inl ⟨hr, rfl, hv⟩, hg⟩
  · obtain ⟨a, cap, rfl, -, -⟩ := h.form
    refine (rput_no a _ cap n k w hr).mono ?_
    rintro e w' ⟨rfl, rfl⟩
    exact ⟨_, 1, rfl, .inr ⟨hr, rfl, rfl⟩, Gr.refl _⟩
end Go.Proofs.YtkpejaiigopmgaaGreatDoor
/- The document's Push, At; Check of headers. -/
namespace Go.Proofs.YtkpejaiigopmgaaGreatDoor
open Go Go.RowKit Go.Sort
set_option maxRecDepth 100000
set_option linter.unusedVariables false
theorem rpush_any {p : Nat → Prop} {v : Value} {l : List Nat} (n k : Nat) (w : World) (h : Rb p w v l) (hl : l.length ≤ 90000) (hk0 : 1 ≤ k) (hk1 : k ≤ 7) (hn : n < 256 ^ k) :
    Calls Tryz.prog 69 #[v, .int .i64 n, .int .i64 k] w fun e w' => ∃ v', e = .returned v' ∧ OwB w.heap.size w' v' (l ++ bput n k) ∧ Gr w w' := by
  have HP := Lib.hid (rput_own n k w h hl hk0 hk1 hn)
  obtain ⟨a, cap, rfl, -, -⟩ := h.form
  clear h hn
  go_enter Tryz.func69, Tryz.ntmps69
  go_wp2_with fail
  refine HP.out.mono ?_
  rintro e w1 ⟨v1, rfl, ho, hg⟩
  go_wp2_with fail
  go_ret
  exact ⟨_, rfl, ho, hg⟩
theorem rat_any {p : Nat → Prop} {v : Value} {l : List Nat} (i k : Nat) (w : World) (h : Rb p w v l) (hk0 : 1 ≤ k) (hk1 : k ≤ 7) (hik : i + k ≤ l.length) (hl : l.length ≤ 100000) :
    Calls Tryz.prog 71 #[v, .int .i64 i, .int .i64 k] w fun e w' => e = .returned (.int .i64 (gN l i k : Nat)) ∧ w = w' := by
  have HP := Lib.hid (rget_yes i k w h hk0 hk1 hik hl)
  obtain ⟨a, cap, rfl, -, -⟩ := h.form
  clear h hik
  unfold gN
  go_enter Tryz.func71, Tryz.ntmps71
  go_wp2_with fail
  refine HP.out.mono ?_
  rintro e w1 ⟨rfl, rfl⟩
  go_wp2_with fail
  go_ret
  exact ⟨rfl, rfl⟩
set_option maxHeartbeats 4000000 in
theorem rcheck_any (tos id ttl proto : Int) (keep : Bool) (src dst : Int) (w : World) :
    Calls Tryz.prog 67 #[hdV tos id ttl proto keep src dst] w fun e w' => e = .returned (.int .i64 (ckE tos id ttl proto)) ∧ Gr w w' := by
  by_cases a1 : tos < 0
  · have d1 : decide (tos < 0) = true := by simpa using a1
    have H := Lib.hid (ckE_no (a := tos) (b := id) (c := ttl) (d := proto) (fun h => by have h1 := h.1; have h2 := h.2.1; have h3 := h.2.2.1; have h4 := h.2.2.2; unfold inB at h1 h2 h3; omega))
    clear a1
    unfold hdV
    go_enter Tryz.func67, Tryz.ntmps67
    go_wp2_with fail
    go_ret
    exact ⟨ret_int H.out.symm, Gr.alloc (Gr.refl _) _⟩
  have d1 : decide (tos < 0) = false := by simpa using a1
  by_cases a2 : 255 < tos
  · have d2 : decide (255 < tos) = true := by simpa using a2
    have H := Lib.hid (ckE_no (a := tos) (b := id) (c := ttl) (d := proto) (fun h => by have h1 := h.1; have h2 := h.2.1; have h3 := h.2.2.1; have h4 := h.2.2.2; unfold inB at h1 h2 h3; omega))
    clear a1 a2
    unfold hdV
    go_enter Tryz.func67, Tryz.ntmps67
    go_wp2_with fail
    go_ret
    exact ⟨ret_int H.out.symm, Gr.alloc (Gr.refl _) _⟩
  have d2 : decide (255 < tos) = false := by simpa using a2
  by_cases a3 : ttl < 0
  · have d3 : decide (ttl < 0) = true := by simpa using a3
    have H := Lib.hid (ckE_no (a := tos) (b := id) (c := ttl) (d := proto) (fun h => by have h1 := h.1; have h2 := h.2.1; have h3 := h.2.2.1; have h4 := h.2.2.2; unfold inB at h1 h2 h3; omega))
    clear a1 a2 a3
    unfold hdV
    go_enter Tryz.func67, Tryz.ntmps67
    go_wp2_with fail
    go_ret
    exact ⟨ret_int H.out.symm, Gr.alloc (Gr.refl _) _⟩
  have d3 : decide (ttl < 0) = false := by simpa using a3
  by_cases a4 : 255 < ttl
  · have d4 : decide (255 < ttl) = true := by simpa using a4
    have H := Lib.hid (ckE_no (a := tos) (b := id) (c := ttl) (d := proto) (fun h => by have h1 := h.1; have h2 := h.2.1; have h3 := h.2.2.1; have h4 := h.2.2.2; unfold inB at h1 h2 h3; omega))
    clear a1 a2 a3 a4
    unfold hdV
    go_enter Tryz.func67, Tryz.ntmps67
    go_wp2_with fail
    go_ret
    exact ⟨ret_int H.out.symm, Gr.alloc (Gr.refl _) _⟩
  have d4 : decide (255 < ttl) = false := by simpa using a4
  by_cases a5 : proto < 0
  · have d5 : decide (proto < 0) = true := by simpa using a5
    have H := Lib.hid (ckE_no (a := tos) (b := id) (c := ttl) (d := proto) (fun h => by have h1 := h.1; have h2 := h.2.1; have h3 := h.2.2.1; have h4 := h.2.2.2; unfold inB at h1 h2 h3; omega))
    clear a1 a2 a3 a4 a5
    unfold hdV
    go_enter Tryz.func67, Tryz.ntmps67
    go_wp2_with fail
    go_ret
    exact ⟨ret_int H.out.symm, Gr.alloc (Gr.refl _) _⟩
  have d5 : decide (proto < 0) = false := by simpa using a5
  by_cases a6 : 255 < proto
  · have d6 : decide (255 < proto) = true := by simpa using a6
    have H := Lib.hid (ckE_no (a := tos) (b := id) (c := ttl) (d := proto) (fun h => by have h1 := h.1; have h2 := h.2.1; have h3 := h.2.2.1; have h4 := h.2.2.2; unfold inB at h1 h2 h3; omega))
    clear a1 a2 a3 a4 a5 a6
    unfold hdV
    go_enter Tryz.func67, Tryz.ntmps67
    go_wp2_with fail
    go_ret
    exact ⟨ret_int H.out.symm, Gr.alloc (Gr.refl _) _⟩
  have d6 : decide (255 < proto) = false := by simpa using a6
  by_cases a7 : id < 0
  · have d7 : decide (id < 0) = true := by simpa using a7
    have H := Lib.hid (ckE_no (a := tos) (b := id) (c := ttl) (d := proto) (fun h => by have h1 := h.1; have h2 := h.2.1; have h3 := h.2.2.1; have h4 := h.2.2.2; unfold inB at h1 h2 h3; omega))
    clear a1 a2 a3 a4 a5 a6 a7
    unfold hdV
    go_enter Tryz.func67, Tryz.ntmps67
    go_wp2_with fail
    go_ret
    exact ⟨ret_int H.out.symm, Gr.alloc (Gr.refl _) _⟩
  have d7 : decide (id < 0) = false := by simpa using a7
  by_cases a8 : 65535 < id
  · have d8 : decide (65535 < id) = true := by simpa using a8
    have H := Lib.hid (ckE_no (a := tos) (b := id) (c := ttl) (d := proto) (fun h => by have h1 := h.1; have h2 := h.2.1; have h3 := h.2.2.1; have h4 := h.2.2.2; unfold inB at h1 h2 h3; omega))
    clear a1 a2 a3 a4 a5 a6 a7 a8
    unfold hdV
    go_enter Tryz.func67, Tryz.ntmps67
    go_wp2_with fail
    go_ret
    exact ⟨ret_int H.out.symm, Gr.alloc (Gr.refl _) _⟩
  have d8 : decide (65535 < id) = false := by simpa using a8
  have H := Lib.hid (ckE_yes (a := tos) (b := id) (c := ttl) (d := proto) ⟨⟨by omega, by omega⟩, ⟨by omega, by omega⟩, ⟨by omega, by omega⟩, by omega, by omega⟩)
  clear a1 a2 a3 a4 a5 a6 a7 a8
  unfold hdV
  go_enter Tryz.func67, Tryz.ntmps67
  go_wp2_with fail
  go_ret
  exact ⟨ret_int H.out.symm, Gr.alloc (Gr.refl _) _⟩
end Go.Proofs.YtkpejaiigopmgaaGreatDoor
/- A piece of code that ends in one way, whatever its order. -/
namespace Go.Proofs.YtkpejaiigopmgaaGreatDoor
open Go Go.RowKit
theorem region_cut {P : Program} {c : Code} {Q : Exit → Act → World → Prop} {a : Act} {w : World} (aF : Act) (R : World → Prop) (h : c.wp P (fun e a' w' => e = .normal ∧ a' = aF ∧ R w') a w) (k : ∀ w', R w' → Q .normal aF w') : c.wp P Q a w := by
  refine Code.wp_mono (fun e a' w' h' => ?_) h
  obtain ⟨he, ha, hr⟩ := h'
  rw [he, ha]
  exact k _ hr
end Go.Proofs.YtkpejaiigopmgaaGreatDoor
/- An append of bytes in a region that draws its order. -/
namespace Go.Proofs.YtkpejaiigopmgaaGreatDoor
open Go Go.RowKit Go.Sort
set_option maxRecDepth 100000
set_option linter.unusedVariables false
theorem run_app {base : Nat} {p : Nat → Prop} {w : World} {ty : TypeId} {v xv : Value} {l m : List Nat} (hown : OwB base w v l) (hr : Rb p w xv m) (h63 : l.length + m.length ≤ 100000) (hbase : base ≤ w.heap.size) :
    ∃ v' w', (Builtin.append_ #[22, 22] ty #[v, xv]).run Tryz.prog w = .ok v' w' ∧ OwB base w' v' (l ++ m) ∧ w.grownBy w' v.ownBlock := by
  obtain ⟨i, hi1, hi2, hi3, hi4⟩ := byteInfoB
  obtain ⟨ad, cap, rfl, hl, hc, hn, hb, H⟩ := hr
  have hlt : ∀ y ∈ l ++ m, y < 256 := fun y hy => (List.mem_append.1 hy).elim (hown.2 y) (hb y)
  cases ad with
  | none =>
    have hm : m = [] := by
      cases m with
      | nil => rfl
      | cons y t => obtain ⟨b, off, e, _⟩ := H 0 (by simp); cases e
    subst hm
    obtain rfl := hn rfl
    have hrun := run_append_owned_none (P := Tryz.prog) w base 22 ty 5 i 1 Tryz.underlying22 hi1 v l.length (cellsB l) hown.1
    exact ⟨v, w, hrun, by rw [List.append_nil]; exact hown, ⟨rfl, rfl, rfl, Nat.le_refl _, fun _ _ _ => rfl⟩⟩
  | some ad =>
    obtain ⟨v', w', hrn, h2, h3, -, -⟩ := run_append_own_at (P := Tryz.prog) w base 22 ty 5 i (.int .u8 0) 1 1 Tryz.underlying22 hi1 hi2 hi3 hi4 rfl (by decide) v l.length (cellsB l) hown.1 ad m.length cap (cellsB m) (by rw [cellsB_len, Nat.mul_one]) (by
      intro j u hj
      have hjm : j < m.length := by
        rcases Nat.lt_or_ge j m.length with h | h
        · exact h
        · rw [List.getElem?_eq_none (by rw [cellsB_len]; exact h)] at hj; cases hj
      rw [cellsB_at m hjm] at hj
      obtain rfl := Option.some.inj hj
      obtain ⟨b, off, e, _, hcell⟩ := H j hjm
      cases e
      rw [show (⟨b, off, none⟩ : Addr).add j = ⟨b, off + j, none⟩ by unfold Addr.add; split <;> simp_all]
      exact hcell) (cellsB_one m) (by unfold maxLen; omega) (by omega) hbase
    refine ⟨v', w', hrn, ⟨?_, hlt⟩, h3⟩
    rw [List.length_append, cellsB_append]
    exact h2
theorem oper_app {base : Nat} {p : Nat → Prop} {w : World} {o : Oper} {a : Act} {Q : Exit → Act → World → Prop} {K : Act → World → Prop} (s x : Operand)
    (ho : o.op = .call { callee := .builtin .append, args := #[s, x], argTypes := #[22, 22] }) {v xv : Value} {l m : List Nat}
    (hs : a.eval s = v) (hown : OwB base w v l) (hx : a.eval x = xv) (hr : Rb p w xv m) (h63 : l.length + m.length ≤ 100000) (hbase : base ≤ w.heap.size)
    (h : ∀ v' w', OwB base w' v' (l ++ m) → w.grownBy w' v.ownBlock → K (a.put o.dst v') w') : o.wp Tryz.prog a w K Q := by
  obtain ⟨v', w', hrn, h2, h3⟩ := run_app (ty := o.type) hown hr h63 hbase
  have hk := h v' w' h2 h3
  unfold Oper.wp execOp
  simp only [ho, resolve, invoke, builtin, Sem.run_bind, Sem.run_pure, Result.andThen_ok, List.map_toArray, List.map_cons, List.map_nil, hs, hx, hrn]
  exact hk
end Go.Proofs.YtkpejaiigopmgaaGreatDoor
