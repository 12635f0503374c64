/- The package transport: numbers that fit, numbers put, a number got. -/
import Derived.Test.YtlkhdbgknkjioaaIh
import Derived.Test.YtlkhdbgknkjioaaWp
import Derived.Test.YtlkhdbgknkjioaaCl
import Derived.Test.YtlkhdbgknkjioaaKm
import Derived.WalkKit
import Derived.WalkSpells
import Derived.WalkLawsBesides
import Derived.WalkSmall
import Derived.Handy
import Derived.BigQuiet
import Derived.Deep.QuietTactic
import Derived.Deep.RegionHeld3
import Derived.Deep.DeepFit
import Derived.Below
import Derived.Lib.Hide
import Derived.Lib.QuietBelow
namespace Go.Proofs.Ytlkhdbgknkjioaa
open Go Go.RowKit Go.Sort
set_option maxRecDepth 100000
set_option linter.unusedVariables false
/-- numbers that are passed as further arguments -/
def ints (ns : List Int) : List Value := ns.map (Value.int .i64)
theorem ints_len (ns : List Int) : (ints ns).length = ns.length := by simp [ints]
theorem ints_at {ns : List Int} {i : Nat} (h : i < ns.length) : (ints ns)[i]? = some (.int .i64 (ns.getD i 0)) := by
  simp [ints, List.getD_eq_getElem?_getD, List.getElem?_eq_getElem h]
def fitB (k : Nat) (ns : List Int) : Prop := ∀ n ∈ ns, 0 ≤ n ∧ n < (256 ^ k : Nat)
instance (k : Nat) (ns : List Int) : Decidable (fitB k ns) := by unfold fitB; infer_instance
theorem mem_getD {ns : List Int} {i : Nat} (h : i < ns.length) : ns.getD i 0 ∈ ns := by
  rw [List.getD_eq_getElem?_getD, List.getElem?_eq_getElem h]; exact List.getElem_mem _
theorem take_snoc {ns : List Int} {i : Nat} (h : i < ns.length) : ns.take (i + 1) = ns.take i ++ [ns.getD i 0] := by
  rw [List.take_succ_eq_append_getElem h, List.getD_eq_getElem?_getD, List.getElem?_eq_getElem h]; rfl
set_option maxHeartbeats 2000000 in
theorem fit_any (g cap k : Nat) (ns : List Int) (w : World) (hC : CL w g (ints ns)) (hk0 : 1 ≤ k) (hk1 : k ≤ 7) (hn : ns.length ≤ 100) (c : Bool) (hc : c = decide (fitB k ns)) :
    Calls Try.prog 55 #[.int .i64 k, .slice (some ⟨g, 0, none⟩) ns.length cap] w fun e w' => e = .returned (.bool c) ∧ w = w' := by
  have hp7 := pow_256_le hk1
  have hsh := wrap_pow hk1
  have HC := Lib.hid hC
  have H := Lib.hid hc
  have HN := Lib.hid (show ∀ n ∈ ns, 0 ≤ n ∧ n < (256 ^ k : Nat) ↔ 0 ≤ n ∧ n < (256 ^ k : Nat) from fun _ _ => Iff.rfl)
  have HF : Hid (fitB k ns ↔ ∀ n ∈ ns, 0 ≤ n ∧ n < ((256 ^ k : Nat) : Int)) := Lib.hid Iff.rfl
  clear hC hc HN
  generalize 256 ^ k = P at *
  go_enter Try.func55, Try.ntmps55
  go_wp2
  go_loop [9] (fun i => ∃ t : Nat, t ≤ ns.length ∧ i = .int .i64 t ∧ ∀ n ∈ ns.take t, 0 ≤ n ∧ n < (P : Int)) (fun i => ns.length - (intOf i).toNat)
  case atStart => exact ⟨0, Nat.zero_le _, rfl, fun n h => by simp at h⟩
  case round =>
    obtain ⟨t, ht, rfl, hall⟩ := hrel
    have HA := Lib.hid hall
    clear hall
    by_cases hlt : t < ns.length
    · have d1 : (t : Int) < (ns.length : Int) := by omega
      have hcell := (HC.out.at' t _ (ints_at hlt)).1
      have HM := Lib.hid (mem_getD hlt)
      have HT := Lib.hid (take_snoc hlt)
      generalize ns.getD t 0 = x at *
      by_cases hx : x < 0
      · have d2 : decide (x < 0) = true := by simpa using hx
        have HX := Lib.hid (show c = false by rw [H.out, decide_eq_false_iff_not, HF.out]; intro h; have := h x HM.out; omega)
        clear hx
        go_wp2
        go_ret
        exact ⟨ret_bool HX.out.symm, rfl⟩
      · have d2 : decide (x < 0) = false := by simpa using hx
        by_cases hP : (P : Int) ≤ x
        · have d3 : decide ((P : Int) ≤ x) = true := by simpa using hP
          have HX := Lib.hid (show c = false by rw [H.out, decide_eq_false_iff_not, HF.out]; intro h; have := h x HM.out; omega)
          clear hx hP
          go_wp2
          go_ret
          exact ⟨ret_bool HX.out.symm, rfl⟩
        · have d3 : decide ((P : Int) ≤ x) = false := by simpa using hP
          have HX := Lib.hid (show 0 ≤ x ∧ x < (P : Int) by omega)
          clear hx hP
          go_wp2
          go_round
          case rel =>
            refine ⟨t + 1, by omega, by go_num, fun n hn => ?_⟩
            rw [HT.out] at hn
            rcases List.mem_append.1 hn with hn | hn
            · exact HA.out n hn
            · rw [List.mem_singleton] at hn
              subst hn
              exact HX.out
          case measure => simp [intOf]; omega
    · obtain rfl : t = ns.length := by omega
      have HX := Lib.hid (show c = true by rw [H.out, decide_eq_true_eq, HF.out]; have := HA.out; rw [List.take_length] at this; exact this)
      clear hlt
      go_wp2
      go_ret
      exact ⟨ret_bool HX.out.symm, rfl⟩
def bputs (k : Nat) (ns : List Nat) : List Nat := ns.flatMap fun n => bput n k
theorem bputs_len (k : Nat) (ns : List Nat) : (bputs k ns).length = k * ns.length := by
  induction ns with
  | nil => rfl
  | cons n t ih => simp only [bputs, List.flatMap_cons, List.length_append, bput_len, List.length_cons] at ih ⊢; rw [ih, Nat.mul_succ, Nat.add_comm]
def nats (ns : List Nat) : List Int := ns.map fun n : Nat => (n : Int)
theorem nats_len (ns : List Nat) : (nats ns).length = ns.length := by simp [nats]
theorem nats_at {ns : List Nat} {i : Nat} (h : i < ns.length) : (ints (nats ns))[i]? = some (.int .i64 (ns.getD i 0 : Nat)) := by
  simp [ints, nats, List.getD_eq_getElem?_getD, List.getElem?_eq_getElem h]
theorem bputs_take {k : Nat} {ns : List Nat} {i : Nat} (h : i < ns.length) : bputs k (ns.take (i + 1)) = bputs k (ns.take i) ++ bput (ns.getD i 0) k := by
  rw [List.take_succ_eq_append_getElem h, List.getD_eq_getElem?_getD, List.getElem?_eq_getElem h, bputs, List.flatMap_append, List.flatMap_singleton]; rfl
theorem mem_getDn {ns : List Nat} {i : Nat} (h : i < ns.length) : ns.getD i 0 ∈ ns := by
  rw [List.getD_eq_getElem?_getD, List.getElem?_eq_getElem h]; exact List.getElem_mem _
theorem bputs_short {k : Nat} {ns : List Nat} (t : Nat) : (bputs k (ns.take t)).length ≤ k * ns.length := by
  rw [bputs_len, List.length_take]; exact Nat.mul_le_mul_left _ (Nat.min_le_right _ _)
set_option maxHeartbeats 2000000 in
theorem tput_any {p : Nat → Prop} {v : Value} {l : List Nat} (g cap k : Nat) (ns : List Nat) (w : World) (h : Rb p w v l) (hl : l.length ≤ 50000) (hC : CL w g (ints (nats ns))) (hk0 : 1 ≤ k) (hk1 : k ≤ 7) (hn : ns.length ≤ 100) (h0 : 0 < ns.length) (hfit : ∀ n ∈ ns, n < 256 ^ k) :
    Calls Try.prog 57 #[v, .int .i64 k, .slice (some ⟨g, 0, none⟩) ns.length cap] w fun e w' => ∃ v', e = .returned v' ∧ OwB w.heap.size w' v' (l ++ bputs k ns) ∧ Gr w w' := by
  have HR := Lib.hid h
  have HC := Lib.hid hC
  have HK := Lib.hid (show k * ns.length ≤ 700 from Nat.le_trans (Nat.mul_le_mul hk1 hn) (Nat.le_refl _))
  have HF := Lib.hid hfit
  obtain ⟨a, c, rfl, -, -⟩ := h.form
  clear h hC hfit
  go_enter Try.func57, Try.ntmps57
  go_wp2
  go_loopw [0, 11] (fun bv i wr => ∃ (t : Nat) (u : Value), u = bv ∧ t ≤ ns.length ∧ i = .int .i64 t ∧ ((t = 0 ∧ u = .slice a l.length c) ∨ (0 < t ∧ OwB w.heap.size wr u (l ++ bputs k (ns.take t)))) ∧ Gr w wr) (fun _ i _ => ns.length - (intOf i).toNat)
  case atStart => exact ⟨0, _, rfl, Nat.zero_le _, rfl, .inl ⟨rfl, rfl⟩, Gr.refl _⟩
  case round =>
    obtain ⟨t, bv, rfl, ht, rfl, hb, hgr⟩ := hrel
    by_cases hlt : t < ns.length
    · have d1 : (t : Int) < (ns.length : Int) := by omega
      have hcell := ((HC.out.gr hgr).at' t _ (nats_at hlt)).1
      have HM := Lib.hid (HF.out _ (mem_getDn hlt))
      have HT := Lib.hid (bputs_take (k := k) hlt)
      generalize ns.getD t 0 = x at *
      have hpost : ∃ q : Nat → Prop, Rb q wr bv (l ++ bputs k (ns.take t)) := by
        rcases hb with ⟨rfl, rfl⟩ | ⟨_, hb⟩
        · exact ⟨p, by simp only [List.take_zero, bputs, List.flatMap_nil, List.append_nil]; exact HR.out.gr hgr⟩
        · exact ⟨_, hb.rb⟩
      obtain ⟨q, hq⟩ := hpost
      have HP := Lib.hid (put_own x k wr hq (by rw [List.length_append]; have := bputs_short (k := k) (ns := ns) t; have := HK.out; omega) hk0 hk1 HM.out)
      obtain ⟨a2, c2, rfl, -, -⟩ := hq.form
      have hsz := Gr.size hgr
      clear hb hq
      generalize (l ++ bputs k (ns.take t)).length = N at HP ⊢
      go_wp2_with fail
      refine HP.out.mono ?_
      rintro e w1 ⟨v1, rfl, ho, hg⟩
      have HO := Lib.hid (ho.base hsz)
      clear ho
      go_wp2_with fail
      case roundEnd =>
        refine ⟨⟨t + 1, _, rfl, by omega, by simp, .inr ⟨by omega, ?_⟩, hgr.step hg⟩, by simp [intOf]; omega⟩
        rw [HT.out, ← List.append_assoc]
        exact HO.out
    · obtain rfl : t = ns.length := by omega
      rcases hb with ⟨h0', -⟩ | ⟨-, hb⟩
      · omega
      · rw [List.take_length] at hb
        go_wp2_with fail
        go_ret
        exact ⟨_, rfl, hb, hgr⟩
theorem tget_any {p : Nat → Prop} {v : Value} {l : List Nat} (i k : Nat) (w : World) (h : Rb p w v l) (hk0 : 1 ≤ k) (hk1 : k ≤ 7) (hik : i + k ≤ l.length) :
    Calls Try.prog 63 #[v, .int .i64 i, .int .i64 k] w fun e w' => e = .returned (.int .i64 (gN l i k : Nat)) ∧ w = w' := by
  have HP := Lib.hid (get_yes i k w h hk0 hk1 hik)
  obtain ⟨a, cap, rfl, -, -⟩ := h.form
  clear h hik
  unfold gN
  go_enter Try.func63, Try.ntmps63
  go_wp2_with fail
  refine HP.out.mono ?_
  rintro e w1 ⟨rfl, rfl⟩
  go_wp2_with fail
  go_ret
  exact ⟨rfl, rfl⟩
end Go.Proofs.Ytlkhdbgknkjioaa
