/- Several texts in one. -/
import Derived.Test.YtikkobmccagdlaaGreatDoorNmul
import Derived.Test.YtikkobmccagdlaaGreatDoorNsub
import Derived.WalkKit
import Derived.WalkSpells
import Derived.WalkLawsBesides
import Derived.WalkSmall
import Derived.Handy
import Derived.BigQuiet
import Derived.Deep.QuietTactic
import Derived.Deep.RegionHeld3
import Derived.Deep.DeepFit
import Derived.Below
import Derived.Lib.Hide
import Derived.Lib.QuietBelow
import Derived.Test.YtikkobmccagdlaaGreatDoorNtx
import Derived.Test.YtikkobmccagdlaaGreatDoorNvl
import Derived.Test.YtikkobmccagdlaaGreatDoorNsc
import Derived.Test.YtikkobmccagdlaaGreatDoorNsh
import Derived.Deep.DeepCutAuto
import Derived.Test.YtikkobmccagdlaaGreatDoorStr
import Derived.Test.YtikkobmccagdlaaGreatDoorNtm
import Derived.Lib.SmallJoins
import Derived.Test.YtikkobmccagdlaaGreatDoorRs
import Derived.Test.YtikkobmccagdlaaGreatDoorNwo
import Derived.Test.YtikkobmccagdlaaGreatDoorNde
import Derived.Test.YtikkobmccagdlaaGreatDoorFw
import Derived.Test.YtikkobmccagdlaaGreatDoorEA
import Derived.Test.YtikkobmccagdlaaGreatDoorRt
import Derived.Lib.ItoaNum
import Derived.Test.YtikkobmccagdlaaGreatDoorRp
import Derived.Test.YtikkobmccagdlaaGreatDoorBr
import Derived.Laws.BytesArg
import Derived.Test.YtikkobmccagdlaaGreatDoorRh
import Derived.Test.YtikkobmccagdlaaGreatDoorNsm
import Derived.Test.YtikkobmccagdlaaGreatDoorNgc
import Derived.Test.YtikkobmccagdlaaGreatDoorRg
import Derived.Test.YtikkobmccagdlaaGreatDoorNdr
/- Lists of numbers; sums, differences and products without an error. -/
namespace Go.Proofs.YtikkobmccagdlaaGreatDoor
open Go Go.RowKit Go.Sort
set_option maxRecDepth 100000
set_option linter.unusedVariables false

/-- numbers that can be read -/
def Nums (w : World) (l : List (Value × Nat)) : Prop := ∀ p ∈ l, Num w p.1 p.2
theorem Nums.nil (w : World) : Nums w [] := fun _ h => by cases h
theorem Nums.gr {w w' : World} {l : List (Value × Nat)} (h : Nums w l) (g : Gr w w') : Nums w' l := fun p hp => (h p hp).gr g
theorem Nums.cons {w : World} {l : List (Value × Nat)} (h : Nums w l) {v : Value} {N : Nat} (hv : Num w v N) : Nums w ((v, N) :: l) := fun p hp => by
  rcases List.mem_cons.1 hp with rfl | hp
  · exact hv
  · exact h p hp
theorem Nums.get {w : World} {l : List (Value × Nat)} (h : Nums w l) (v : Value) (N : Nat) (hm : (v, N) ∈ l) : Num w v N := h _ hm
theorem nd_add_len {A B k : Nat} (hA : (nd A).length ≤ k) (hB : (nd B).length ≤ k) : (nd (A + B)).length ≤ k + 1 := by
  rw [nd_len] at *; rw [bp_succ]; omega
theorem nd_mul_len {A B j k : Nat} (hA : (nd A).length ≤ j) (hB : (nd B).length ≤ k) : (nd (A * B)).length ≤ j + k := by
  rw [nd_len] at *
  rw [Nat.pow_add]
  exact Nat.mul_lt_mul_of_lt_of_le hA (Nat.le_of_lt hB) (bp_pos k)
/-- a number without an error -/
def Ok2 (w : World) (N : Nat) (e : Ending) (w' : World) : Prop := ∃ v, e = .returned (.tuple #[v, .int .i64 0]) ∧ Num w' v N ∧ Gr w w'
theorem Res.ok {w w' : World} {N : Nat} {e : Ending} (h : Res w N e w') (hN : (nd N).length ≤ 256) : Ok2 w N e w' := by
  obtain ⟨v, er, rfl, ⟨-, rfl, hn⟩ | ⟨hf, -⟩, hg⟩ := h
  · exact ⟨v, rfl, hn, hg⟩
  · omega
theorem add_ok {A B : Nat} (va vb : Value) (w : World) (hA : Num w va A) (hB : Num w vb B) (lA : (nd A).length ≤ 100) (lB : (nd B).length ≤ 100) : Calls Tryz.prog 8 #[va, vb] w (Ok2 w (A + B)) :=
  (add_any va vb w hA hB (by omega) (by omega)).mono fun _ _ h => h.ok (by have := nd_add_len lA lB; omega)
theorem mul_ok {A B : Nat} (va vb : Value) (w : World) (hA : Num w va A) (hB : Num w vb B) (lA : (nd A).length ≤ 100) (lB : (nd B).length ≤ 100) : Calls Tryz.prog 13 #[va, vb] w (Ok2 w (A * B)) :=
  (mul_any va vb w hA hB (by omega) (by omega)).mono fun _ _ h => h.ok (by have := nd_mul_len lA lB; omega)
theorem sub_ok {A B : Nat} (va vb : Value) (w : World) (hA : Num w va A) (hB : Num w vb B) (hBA : B ≤ A) (lA : (nd A).length ≤ 100) (lB : (nd B).length ≤ 100) : Calls Tryz.prog 11 #[va, vb] w (Ok2 w (A - B)) :=
  (sub_any va vb w hA hB (by omega) (by omega)).mono fun _ _ h => by
    obtain ⟨v, er, rfl, ⟨-, rfl, hn⟩ | ⟨hf, -⟩, hg⟩ := h
    · exact ⟨v, rfl, hn, hg⟩
    · omega
end Go.Proofs.YtikkobmccagdlaaGreatDoor
/- Text of any number. -/
namespace Go.Proofs.YtikkobmccagdlaaGreatDoor
open Go Go.RowKit Go.Sort
set_option maxRecDepth 100000
set_option linter.unusedVariables false
theorem text_nought (v : Value) (w : World) (hN : Num w v 0) :
    Calls Tryz.prog 22 #[v] w fun e w' => e = .returned (.string (str (Lib.decDigits 0))) ∧ Gr w w' := by
  have hV := Lib.hid (num_valid hN (by rw [nd_zero]; simp))
  unfold Num at hN
  rw [nd_zero] at hN
  obtain ⟨a, c, rfl, -, -, -⟩ := hN
  have e0 : str (Lib.decDigits 0) = ⟨#[48]⟩ := by rw [dd_one (by omega)]; rfl
  rw [e0]
  go_enter Tryz.func22, Tryz.ntmps22
  go_wp2_with fail
  refine hV.out.mono ?_
  rintro e w' ⟨rfl, rfl⟩
  go_wp2_with fail
  go_ret
  exact ⟨rfl, Gr.refl _⟩
theorem text_full {N : Nat} (v : Value) (w : World) (hN : Num w v N) (hl : (nd N).length ≤ 256) (ht : Tab w) :
    Calls Tryz.prog 22 #[v] w fun e w' => e = .returned (.string (str (Lib.decDigits N))) ∧ Gr w w' := by
  rcases Nat.eq_zero_or_pos N with rfl | h0
  · exact text_nought v w hN
  · exact text_any v w hN h0 hl ht
theorem dd_pos (N : Nat) : 0 < (Lib.decDigits N).length := by rw [Lib.decDigits_length]; exact Lib.nDigits_pos N
theorem dd_short {N k : Nat} (hN : (nd N).length ≤ k) (hk : 0 < k) : (Lib.decDigits N).length ≤ 10 * k := by
  rw [nd_len] at hN
  have h2 : (1073741824 : Nat) ^ k ≤ (10 ^ 10) ^ k := Nat.pow_le_pow_left (by decide) k
  rw [← Nat.pow_mul] at h2
  rw [Lib.decDigits_length]
  exact (pd_digits (10 * k) N (Nat.lt_of_lt_of_le hN h2) (by omega)).1
end Go.Proofs.YtikkobmccagdlaaGreatDoor
/- Valid at any list of ints, both sides. -/
namespace Go.Proofs.YtikkobmccagdlaaGreatDoor
open Go Go.RowKit Go.Sort
set_option maxRecDepth 100000
set_option linter.unusedVariables false
/-- a slice of ints that reads as l -/
def RdI (w : World) (v : Value) (l : List Int) : Prop :=
  ∃ (a : Option Addr) (cap : Nat), v = .slice a l.length cap ∧ l.length ≤ cap ∧ cap ≤ 9223372036854775807 ∧
    ∀ i, i < l.length → ∃ b off : Nat, a = some ⟨b, off, none⟩ ∧ w.cell? ⟨b, off + i, none⟩ = some (.int .i64 (l.getD i 0))
theorem RdI.gr {w w' : World} {v : Value} {l : List Int} (h : RdI w v l) (g : Gr w w') : RdI w' v l := by
  obtain ⟨a, cap, e, h1, h2, H⟩ := h
  refine ⟨a, cap, e, h1, h2, fun i hi => ?_⟩
  obtain ⟨b, off, ea, hc⟩ := H i hi
  exact ⟨b, off, ea, by rw [(Gr.cells g).1 b _ (World.block_lt_of_cell? _ _ hc)]; exact hc⟩
def inLimb (x : Int) : Prop := 0 ≤ x ∧ x < 1073741824
instance (x : Int) : Decidable (inLimb x) := inferInstanceAs (Decidable (_ ∧ _))
/-- what Valid answers -/
def vraw (l : List Int) : Bool := decide (l.length ≤ 256) && (l.all (fun x => decide (inLimb x)) && (l.length == 0 || l.getD (l.length - 1) 0 != 0))
theorem vraw_long {l : List Int} (h : 256 < l.length) : vraw l = false := by
  unfold vraw
  rw [decide_eq_false (by omega)]; rfl
theorem vraw_no {l : List Int} {k : Nat} (hk : k < l.length) (h : ¬ inLimb (l.getD k 0)) : vraw l = false := by
  unfold vraw
  have : l.all (fun x => decide (inLimb x)) = false := by
    rw [List.all_eq_false]
    refine ⟨l[k], List.getElem_mem hk, ?_⟩
    rw [List.getD_eq_getElem?_getD, List.getElem?_eq_getElem hk] at h
    simpa using h
  rw [this]; simp
theorem vraw_end {l : List Int} (H : ∀ j, j < l.length → inLimb (l.getD j 0)) : vraw l = (decide (l.length ≤ 256) && (l.length == 0 || l.getD (l.length - 1) 0 != 0)) := by
  unfold vraw
  have : l.all (fun x => decide (inLimb x)) = true := by
    rw [List.all_eq_true]
    intro x hx
    obtain ⟨j, hj, rfl⟩ := List.getElem_of_mem hx
    have := H j hj
    rw [List.getD_eq_getElem?_getD, List.getElem?_eq_getElem hj] at this
    simpa using this
  rw [this, Bool.true_and]
theorem nraw_any (v : Value) (l : List Int) (w : World) (h : RdI w v l) :
    Calls Tryz.prog 35 #[v] w fun e w' => e = .returned (.bool (vraw l)) ∧ w = w' := by
  obtain ⟨a, cap, rfl, hl', hcap, H⟩ := h
  have HH := Lib.hid H
  clear H
  by_cases hn : 256 < l.length
  · have d : decide (256 < l.length) = true := by simpa using hn
    have HV := Lib.hid (vraw_long hn)
    have hn2 : (256 : Int) < (l.length : Int) := by omega
    clear hn
    go_enter Tryz.func35, Tryz.ntmps35
    go_wp2
    all_goals first
      | (go_ret; exact ⟨ret_bool HV.out.symm, rfl⟩)
      | (exfalso; omega)
  have d : decide (256 < l.length) = false := by simpa using hn
  go_enter Tryz.func35, Tryz.ntmps35
  go_wp2
  go_loop [9] (fun s => ∃ k : Nat, k ≤ l.length ∧ s = .int .i64 k ∧ Hid (∀ j, j < k → inLimb (l.getD j 0))) (fun s => l.length - (intOf s).toNat)
  case atStart => exact ⟨0, Nat.zero_le _, rfl, Lib.hid (fun j hj => absurd hj (Nat.not_lt_zero j))⟩
  case round =>
    obtain ⟨k, hk, rfl, HK⟩ := hrel
    by_cases hlt : k < l.length
    · obtain ⟨b, off, rfl, hc⟩ := HH.out k hlt
      by_cases hx : inLimb (l.getD k 0)
      · have HK2 := Lib.hid (show ∀ j, j < k + 1 → inLimb (l.getD j 0) from fun j hj => by
          rcases Nat.lt_or_eq_of_le (Nat.le_of_lt_succ hj) with h | rfl
          · exact HK.out j h
          · exact hx)
        unfold inLimb at hx
        clear HK
        generalize l.getD k 0 = x at *
        have x1 : x ≤ 1073741823 := by omega
        have x0 : 0 ≤ x := by omega
        go_wp2
        go_round
        case rel => exact ⟨k + 1, by omega, by go_num, HK2⟩
        case measure => simp [intOf]; omega
      · have HV := Lib.hid (vraw_no hlt hx)
        unfold inLimb at hx
        clear HK
        generalize l.getD k 0 = x at *
        by_cases hx0 : x < 0
        · have d1 : decide (x < 0) = true := by simpa using hx0
          clear hx
          go_wp2
          go_ret
          exact ⟨ret_bool HV.out.symm, rfl⟩
        · have d1 : decide (x < 0) = false := by simpa using hx0
          have d2 : decide (1073741823 < x) = true := by rw [decide_eq_true_eq]; omega
          clear hx
          go_wp2
          go_ret
          exact ⟨ret_bool HV.out.symm, rfl⟩
    · obtain rfl : k = l.length := by omega
      have hv := vraw_end HK.out
      rw [decide_eq_true (show l.length ≤ 256 by omega), Bool.true_and] at hv
      clear HK
      by_cases h0 : l.length = 0
      · have d2 : ((l.length : Int) == 0) = true := by rw [beq_iff_eq]; omega
        have HV : Hid (vraw l = true) := Lib.hid (by rw [hv, h0]; rfl)
        clear hv
        go_wp2
        go_ret
        exact ⟨ret_bool HV.out.symm, rfl⟩
      · obtain ⟨b, off, rfl, hc⟩ := HH.out (l.length - 1) (by omega)
        have d2 : ((l.length : Int) == 0) = false := by rw [beq_eq_false_iff_ne]; omega
        have d4 : (l.length : Int) - 1 = ((l.length - 1 : Nat) : Int) := by omega
        have HV : Hid (vraw l = (l.getD (l.length - 1) 0 != 0)) := Lib.hid (by rw [hv, beq_eq_false_iff_ne.2 h0, Bool.false_or])
        clear hv
        generalize l.getD (l.length - 1) 0 = x at *
        go_wp2
        go_ret
        exact ⟨ret_bool HV.out.symm, rfl⟩
theorem rraw_any (v : Value) (l : List Int) (w : World) (h : RdI w v l) :
    Calls Tryz.prog 36 #[v] w fun e w' => e = .returned (.bool (vraw l)) ∧ w = w' := by
  obtain ⟨a, cap, rfl, hl', hcap, H⟩ := h
  have HH := Lib.hid H
  clear H
  go_enter Tryz.func36, Tryz.ntmps36
  go_wp2
  go_loop [3] (fun s => ∃ k : Nat, k ≤ l.length ∧ s = .int .i64 k ∧ Hid (∀ j, j < k → inLimb (l.getD j 0))) (fun s => l.length - (intOf s).toNat)
  case atStart => exact ⟨0, Nat.zero_le _, rfl, Lib.hid (fun j hj => absurd hj (Nat.not_lt_zero j))⟩
  case round =>
    obtain ⟨k, hk, rfl, HK⟩ := hrel
    by_cases hlt : k < l.length
    · obtain ⟨b, off, rfl, hc⟩ := HH.out k hlt
      by_cases hx : inLimb (l.getD k 0)
      · have HK2 := Lib.hid (show ∀ j, j < k + 1 → inLimb (l.getD j 0) from fun j hj => by
          rcases Nat.lt_or_eq_of_le (Nat.le_of_lt_succ hj) with h | rfl
          · exact HK.out j h
          · exact hx)
        unfold inLimb at hx
        clear HK
        generalize l.getD k 0 = x at *
        have d1 : decide (x < 0) = false := by rw [decide_eq_false_iff_not]; omega
        have d2 : decide (1073741824 ≤ x) = false := by rw [decide_eq_false_iff_not]; omega
        clear hx
        go_wp2
        go_round
        case rel => exact ⟨k + 1, by omega, by go_num, HK2⟩
        case measure => simp [intOf]; omega
      · have HV := Lib.hid (vraw_no hlt hx)
        unfold inLimb at hx
        clear HK
        generalize l.getD k 0 = x at *
        by_cases hx0 : x < 0
        · have d1 : decide (x < 0) = true := by simpa using hx0
          clear hx
          go_wp2
          go_ret
          exact ⟨ret_bool HV.out.symm, rfl⟩
        · have d1 : decide (x < 0) = false := by simpa using hx0
          have d2 : decide (1073741824 ≤ x) = true := by rw [decide_eq_true_eq]; omega
          clear hx
          go_wp2
          go_ret
          exact ⟨ret_bool HV.out.symm, rfl⟩
    · obtain rfl : k = l.length := by omega
      have hv := vraw_end HK.out
      clear HK
      by_cases hn : l.length ≤ 256
      · rw [decide_eq_true hn, Bool.true_and] at hv
        have dn : decide ((l.length : Int) ≤ 256) = true := by rw [decide_eq_true_eq]; omega
        by_cases h0 : l.length = 0
        · have d2 : ((l.length : Int) == 0) = true := by rw [beq_iff_eq]; omega
          have HV : Hid (vraw l = true) := Lib.hid (by rw [hv, h0]; rfl)
          clear hv
          go_wp2
          go_ret
          exact ⟨ret_bool HV.out.symm, rfl⟩
        · obtain ⟨b, off, rfl, hc⟩ := HH.out (l.length - 1) (by omega)
          have d2 : ((l.length : Int) == 0) = false := by rw [beq_eq_false_iff_ne]; omega
          have d4 : (l.length : Int) - 1 = ((l.length - 1 : Nat) : Int) := by omega
          have HV : Hid (vraw l = (l.getD (l.length - 1) 0 != 0)) := Lib.hid (by rw [hv, beq_eq_false_iff_ne.2 h0, Bool.false_or])
          clear hv
          generalize l.getD (l.length - 1) 0 = x at *
          go_wp2
          go_ret
          exact ⟨ret_bool HV.out.symm, rfl⟩
      · rw [decide_eq_false hn, Bool.false_and] at hv
        have dn : decide ((l.length : Int) ≤ 256) = false := by rw [decide_eq_false_iff_not]; omega
        have HV := Lib.hid hv
        clear hv
        go_wp2
        go_ret
        exact ⟨ret_bool HV.out.symm, rfl⟩
end Go.Proofs.YtikkobmccagdlaaGreatDoor
/- Choose. -/
namespace Go.Proofs.YtikkobmccagdlaaGreatDoor
open Go Go.RowKit Go.Sort
set_option maxRecDepth 100000
set_option linter.unusedVariables false

/-- the number of subsets -/
def bin : Nat → Nat → Nat
  | _, 0 => 1
  | 0, _ + 1 => 0
  | n + 1, k + 1 => bin n k + bin n (k + 1)
theorem bin_zero (n : Nat) : bin n 0 = 1 := by cases n <;> rfl
theorem bin_succ (n k : Nat) : bin (n + 1) (k + 1) = bin n k + bin n (k + 1) := rfl
theorem bin_gt {n k : Nat} (h : n < k) : bin n k = 0 := by
  induction n generalizing k with
  | zero => cases k with
    | zero => omega
    | succ k => rfl
  | succ n ih => cases k with
    | zero => omega
    | succ k => rw [bin_succ, ih (by omega), ih (by omega)]
theorem bin_self (n : Nat) : bin n n = 1 := by
  induction n with
  | zero => rfl
  | succ n ih => rw [bin_succ, ih, bin_gt (by omega)]
theorem bin_mul (n k : Nat) (h : k ≤ n) : bin n (k + 1) * (k + 1) = bin n k * (n - k) := by
  induction n generalizing k with
  | zero => obtain rfl : k = 0 := by omega
            rfl
  | succ n ih =>
    cases k with
    | zero =>
      have := ih 0 (Nat.zero_le _)
      rw [bin_zero, bin_succ, bin_zero] at *
      simp at this ⊢; omega
    | succ k =>
      by_cases hk : k + 1 ≤ n
      · have h1 := ih k (by omega)
        have h2 := ih (k + 1) hk
        rw [bin_succ, bin_succ n k]
        obtain ⟨c, rfl⟩ : ∃ c, n = k + 1 + c := ⟨n - (k + 1), by omega⟩
        rw [show k + 1 + c - k = c + 1 by omega] at h1
        rw [show k + 1 + c - (k + 1) = c by omega] at h2
        rw [show k + 1 + c + 1 - (k + 1) = c + 1 by omega]
        generalize bin (k + 1 + c) k = x at *
        generalize bin (k + 1 + c) (k + 1) = y at *
        generalize bin (k + 1 + c) (k + 1 + 1) = z at *
        grind
      · obtain rfl : k = n := by omega
        rw [bin_gt (by omega), Nat.sub_self]; simp
theorem bin_symm (n k : Nat) (h : k ≤ n) : bin n k = bin n (n - k) := by
  induction n generalizing k with
  | zero => obtain rfl : k = 0 := by omega
            rfl
  | succ n ih =>
    cases k with
    | zero => rw [bin_zero, Nat.sub_zero, bin_self]
    | succ k =>
      by_cases hk : k = n
      · subst hk; rw [Nat.sub_self, bin_zero, bin_self]
      · have h1 := ih k (by omega)
        have h2 := ih (k + 1) (by omega)
        obtain ⟨c, rfl⟩ : ∃ c, n = k + 1 + c := ⟨n - (k + 1), by omega⟩
        rw [show k + 1 + c - k = c + 1 by omega] at h1
        rw [show k + 1 + c - (k + 1) = c by omega] at h2
        rw [show k + 1 + c + 1 - (k + 1) = c + 1 by omega, bin_succ, bin_succ, h1, h2, Nat.add_comm]
theorem bin_pos {n k : Nat} (h : k ≤ n) : 0 < bin n k := by
  induction n generalizing k with
  | zero => obtain rfl : k = 0 := by omega
            exact Nat.one_pos
  | succ n ih => cases k with
    | zero => rw [bin_zero]; omega
    | succ k => rw [bin_succ]; have := ih (k := k) (by omega); omega
theorem bin_le (n k : Nat) : bin n k ≤ 2 ^ n := by
  induction n generalizing k with
  | zero => cases k <;> simp [bin]
  | succ n ih => cases k with
    | zero => rw [bin_zero]; exact Nat.pow_pos (by omega)
    | succ k => rw [bin_succ, Nat.pow_succ]; have := ih k; have := ih (k + 1); omega
theorem two_lt {n j : Nat} (h : n < 30 * j) : 2 ^ n < 1073741824 ^ j := by
  rw [show (1073741824 : Nat) = 2 ^ 30 from rfl, ← Nat.pow_mul]
  exact Nat.pow_lt_pow_right (by omega) h
theorem bin_len {n : Nat} (k : Nat) (h : n ≤ 1024) : (nd (bin n k)).length ≤ 35 := by
  rw [nd_len]
  refine Nat.lt_of_le_of_lt (bin_le n k) ?_
  exact two_lt (by omega)
theorem bin_next {n i : Nat} (h : i ≤ n) : (0 + (n - i) * bin n i) / (i + 1) = bin n (i + 1) := by
  rw [Nat.zero_add, Nat.mul_comm, ← bin_mul n i h, Nat.mul_div_cancel _ (by omega)]

def ChRel (w : World) (n m : Nat) (s v : Value) (wr : World) : Prop := ∃ i : Nat, s = .int .i64 i ∧ i ≤ m ∧ Num wr v (bin n i) ∧ Gr w wr
/-- a result without an error -/
def ChPost (w : World) (N : Nat) (e : Ending) (w' : World) : Prop := ∃ v, e = .returned (.tuple #[v, .int .i64 0]) ∧ Num w' v N ∧ Gr w w'
set_option maxHeartbeats 2000000 in
theorem choose_any (n k : Nat) (w : World) (hn1 : n ≤ 1024) (hk1 : k ≤ 1024) :
    Calls Tryz.prog 27 #[.int .i64 n, .int .i64 k] w (ChPost w (bin n k)) := by
  have n0 : (0 : Int) ≤ (n : Int) := by omega
  have n1 : (n : Int) ≤ 1024 := by omega
  have k0 : (0 : Int) ≤ (k : Int) := by omega
  have k1 : (k : Int) ≤ 1024 := by omega
  have hl1 : Num (w.alloc (.cells #[.int .i64 1] 3)) (.slice (some ⟨w.heap.size, 0, none⟩) 1 1) (bin n 0) := by
    rw [bin_zero]
    unfold Num
    rw [nd_pos (by omega), show (1 : Nat) / 1073741824 = 0 from rfl, nd_zero]
    refine ⟨_, 1, rfl, Nat.le_refl _, by omega, fun i hi => ⟨w.heap.size, 0, rfl, trivial, ?_⟩⟩
    obtain rfl : i = 0 := by simp at hi; omega
    simp
  have HL1 := Lib.hid hl1
  clear hl1
  by_cases hkn : n < k
  · have d : decide (n < k) = true := by simpa using hkn
    go_enter Tryz.func27, Tryz.ntmps27
    go_wp2
    go_ret2
    exact ⟨_, rfl, by rw [bin_gt hkn]; exact Num.nil _, Gr.refl _⟩
  · have d : decide (n < k) = false := by simpa using hkn
    by_cases hm : k ≤ n - k
    · have e2 : (k : Int) ≤ (n : Int) - (k : Int) := by omega
      go_enter Tryz.func27, Tryz.ntmps27
      go_wp2
      go_loopw [31, 6] (fun s v wr => ChRel w n k s v wr) (fun s _ _ => k - (intOf s).toNat)
      case atStart => exact ⟨0, rfl, Nat.zero_le _, HL1.out, Gr.alloc (Gr.refl _) _⟩
      case round =>
        obtain ⟨i, rfl, hi, hn, hg⟩ := hrel
        have HN := Lib.hid hn
        clear hn
        by_cases hlt : i < k
        · have hlen := bin_len (n := n) i hn1
          have hf : n - i < 1073741824 := by omega
          have hsc := scale_any _ _ (n - i) 0 wr HN.out (lim_nd _) (by omega) hf (by omega)
          rw [show ((n - i : Nat) : Int) = (n : Int) - (i : Int) by omega, nv_nd] at hsc
          have HSC := Lib.hid hsc
          have i1 : (i : Int) < (n : Int) := by omega
          clear hsc hf
          go_wp2_with fail
          refine HSC.out.mono ?_
          rintro e w2 ⟨v2, rfl, ⟨g, cap, rfl, hb, hc, hm, ha⟩, hg2⟩
          have hpos : 0 < 0 + (n - i) * bin n i := by rw [Nat.zero_add]; exact Nat.mul_pos (by omega) (bin_pos (by omega))
          have hl2 : (nd (0 + (n - i) * bin n i)).length ≤ 100 := by
            rw [Nat.zero_add]
            have h1 : (nd (n - i)).length ≤ 1 := by rw [nd_len]; omega
            have h2 : (nd (bin n i)).length ≤ 35 := hlen
            rw [nd_len] at h1 h2 ⊢
            have h3 : (n - i) * bin n i < 1073741824 ^ 1 * 1073741824 ^ 35 := Nat.mul_lt_mul_of_lt_of_le h1 (Nat.le_of_lt h2) (Nat.pow_pos (by omega))
            rw [← Nat.pow_add] at h3
            exact Nat.lt_of_lt_of_le h3 (bp_mono (by omega))
          have hne : 0 < (nd (0 + (n - i) * bin n i)).length := by rw [nd_pos hpos]; simp
          have hsh := shrink_any _ (i + 1) g cap w2 ha (lim_nd _) (by omega) hne (by omega) (by omega)
          have HSH := Lib.hid hsh
          have HE := Lib.hid (bin_next (n := n) (i := i) (by omega))
          generalize 0 + (n - i) * bin n i = T at *
          clear hsh ha
          go_wp2_with fail
          refine HSH.out.mono ?_
          rintro e w3 ⟨Q, rfl, hQl, hQL, hQv, hQa, hex⟩
          rw [nv_nd, HE.out] at hQv
          have hrd : Rd (fun _ => True) w3 (.slice (some ⟨g, 0, none⟩) (nd T).length cap) Q := by
            have := hQa.rd (p := fun _ => True) (cap := cap) (by rw [hQl]; exact hc) hm trivial
            rwa [hQl] at this
          have htr := trim_any w3 hrd hQL
          have HTR := Lib.hid htr
          have hG3 : Gr w w3 := hg.step (Ex.gr hg2 hb hex)
          have HQV := Lib.hid hQv
          clear htr hrd hQa hQv
          go_wp2_with fail
          refine HTR.out.mono ?_
          rintro e w4 ⟨v4, rfl, hv4, rfl⟩
          rw [HQV.out] at hv4
          have HV4 := Lib.hid hv4
          clear hv4
          go_wp2_with fail
          go_roundw
          case rel => exact ⟨i + 1, by go_num, by omega, HV4.out, hG3⟩
          case measure => simp only [intOf]; omega
        · obtain rfl : i = k := by omega
          go_wp2_with fail
          go_ret2
          exact ⟨_, rfl, HN.out, hg⟩
    · have e2 : ¬ (k : Int) ≤ (n : Int) - (k : Int) := by omega
      have e3 : (n : Int) - (k : Int) = ((n - k : Nat) : Int) := by omega
      have hsym := Lib.hid (bin_symm n k (by omega))
      go_enter Tryz.func27, Tryz.ntmps27
      go_wp2
      obtain ⟨m, hmm⟩ : ∃ m, m = n - k := ⟨_, rfl⟩
      rw [← hmm] at hsym ⊢
      have hmn : m ≤ n := by omega
      have hm2 : m ≤ 1024 := by omega
      have hmk : (m : Int) ≤ (k : Int) := by omega
      clear e3 hmm
      rw [show min (k : Int) (m : Int) = (m : Int) by omega]
      go_loopw [31, 6] (fun s v wr => ChRel w n m s v wr) (fun s _ _ => m - (intOf s).toNat)
      case atStart => exact ⟨0, rfl, Nat.zero_le _, HL1.out, Gr.alloc (Gr.refl _) _⟩
      case round =>
        obtain ⟨i, rfl, hi, hn, hg⟩ := hrel
        have HN := Lib.hid hn
        clear hn
        by_cases hlt : i < m
        · have hlen := bin_len (n := n) i hn1
          have hf : n - i < 1073741824 := by omega
          have hsc := scale_any _ _ (n - i) 0 wr HN.out (lim_nd _) (by omega) hf (by omega)
          rw [show ((n - i : Nat) : Int) = (n : Int) - (i : Int) by omega, nv_nd] at hsc
          have HSC := Lib.hid hsc
          have i1 : (i : Int) < (n : Int) := by omega
          clear hsc hf
          go_wp2_with fail
          refine HSC.out.mono ?_
          rintro e w2 ⟨v2, rfl, ⟨g, cap, rfl, hb, hc, hm, ha⟩, hg2⟩
          have hpos : 0 < 0 + (n - i) * bin n i := by rw [Nat.zero_add]; exact Nat.mul_pos (by omega) (bin_pos (by omega))
          have hl2 : (nd (0 + (n - i) * bin n i)).length ≤ 100 := by
            rw [Nat.zero_add]
            have h1 : (nd (n - i)).length ≤ 1 := by rw [nd_len]; omega
            have h2 : (nd (bin n i)).length ≤ 35 := hlen
            rw [nd_len] at h1 h2 ⊢
            have h3 : (n - i) * bin n i < 1073741824 ^ 1 * 1073741824 ^ 35 := Nat.mul_lt_mul_of_lt_of_le h1 (Nat.le_of_lt h2) (Nat.pow_pos (by omega))
            rw [← Nat.pow_add] at h3
            exact Nat.lt_of_lt_of_le h3 (bp_mono (by omega))
          have hne : 0 < (nd (0 + (n - i) * bin n i)).length := by rw [nd_pos hpos]; simp
          have hsh := shrink_any _ (i + 1) g cap w2 ha (lim_nd _) (by omega) hne (by omega) (by omega)
          have HSH := Lib.hid hsh
          have HE := Lib.hid (bin_next (n := n) (i := i) (by omega))
          generalize 0 + (n - i) * bin n i = T at *
          clear hsh ha
          go_wp2_with fail
          refine HSH.out.mono ?_
          rintro e w3 ⟨Q, rfl, hQl, hQL, hQv, hQa, hex⟩
          rw [nv_nd, HE.out] at hQv
          have hrd : Rd (fun _ => True) w3 (.slice (some ⟨g, 0, none⟩) (nd T).length cap) Q := by
            have := hQa.rd (p := fun _ => True) (cap := cap) (by rw [hQl]; exact hc) hm trivial
            rwa [hQl] at this
          have htr := trim_any w3 hrd hQL
          have HTR := Lib.hid htr
          have hG3 : Gr w w3 := hg.step (Ex.gr hg2 hb hex)
          have HQV := Lib.hid hQv
          clear htr hrd hQa hQv
          go_wp2_with fail
          refine HTR.out.mono ?_
          rintro e w4 ⟨v4, rfl, hv4, rfl⟩
          rw [HQV.out] at hv4
          have HV4 := Lib.hid hv4
          clear hv4
          go_wp2_with fail
          go_roundw
          case rel => exact ⟨i + 1, by go_num, by omega, HV4.out, hG3⟩
          case measure => simp only [intOf]; omega
        · obtain rfl : i = m := by omega
          go_wp2_with fail
          go_ret2
          exact ⟨_, rfl, (hsym.out ▸ HN.out), hg⟩
end Go.Proofs.YtikkobmccagdlaaGreatDoor
/- isText. -/
namespace Go.Proofs.YtikkobmccagdlaaGreatDoor
open Go Go.RowKit Go.Sort
set_option maxRecDepth 100000
set_option linter.unusedVariables false
theorem isText_yes (s : ByteArray) (w : World) (hd : digs s.data.toList) (h0 : 0 < s.size) (hs : s.size ≤ 9223372036854775807) (hl : (s[0].toNat : Int) ≠ 48) :
    Calls Tryz.prog 92 #[.string s] w fun e w' => e = .returned (.bool true) ∧ w = w' := by
  have t0 : s.toList.isEmpty = false := by
    rw [Lib.toList_data]
    cases h : s.data.toList with
    | nil => have := Lib.size_eq s; rw [h, List.length_nil] at this; omega
    | cons => rfl
  have d0 : ((s[0].toNat : Int) == 48) = false := by simpa using hl
  have HD := Lib.hid hd
  clear hd hl
  go_enter Tryz.func92, Tryz.ntmps92
  go_wp2
  go_loop [17] (fun i => ∃ k : Nat, k ≤ s.size ∧ i = .int .i64 k) (fun i => s.size - (intOf i).toNat)
  case atStart => exact ⟨0, Nat.zero_le _, rfl⟩
  case round =>
    obtain ⟨k, hk, rfl⟩ := hrel
    by_cases hlt : k < s.size
    · have hdk := HD.out s[k] (by
        have hL := Lib.size_eq s
        have e : s.data.toList[k]'(by omega) = s[k] := rfl
        rw [← e]; exact List.getElem_mem _)
      have u0 : 48 ≤ (s[k].toNat : Int) := by omega
      have u1 : (s[k].toNat : Int) ≤ 57 := by omega
      clear hdk
      go_wp2
      go_round
      case rel => exact ⟨k + 1, by omega, by go_num⟩
      case measure => simp [intOf]; omega
    · go_wp2
      go_ret
      exact ⟨rfl, rfl⟩
theorem isText_lead (s : ByteArray) (w : World) (h0 : 1 < s.size) (hs : s.size ≤ 9223372036854775807) (hl : (s[0].toNat : Int) = 48) :
    Calls Tryz.prog 92 #[.string s] w fun e w' => e = .returned (.bool false) ∧ w = w' := by
  have t0 : s.toList.isEmpty = false := by
    rw [Lib.toList_data]
    cases h : s.data.toList with
    | nil => have := Lib.size_eq s; rw [h, List.length_nil] at this; omega
    | cons => rfl
  have t1 : (s.toList == [48]) = false := by
    rw [beq_eq_false_iff_ne, Lib.toList_data]; intro e
    have := Lib.size_eq s
    rw [e] at this
    simp at this; omega
  have d0 : ((s[0].toNat : Int) == 48) = true := by simpa using hl
  clear hl
  go_enter Tryz.func92, Tryz.ntmps92
  go_wp2
  go_ret
  exact ⟨rfl, rfl⟩
theorem isText_nought (s : ByteArray) (w : World) (hl : s.data.toList = [48]) :
    Calls Tryz.prog 92 #[.string s] w fun e w' => e = .returned (.bool true) ∧ w = w' := by
  have h1 : s.size = 1 := by rw [Lib.size_eq, hl]; rfl
  have h0 : 0 < s.size := by omega
  have t0 : s.toList.isEmpty = false := by rw [Lib.toList_data, hl]; rfl
  have t1 : (s.toList == [48]) = true := by rw [Lib.toList_data, hl]; rfl
  have HD := Lib.hid (show digs s.data.toList by rw [hl]; intro c hc; rw [List.mem_singleton] at hc; subst hc; decide)
  have hs0 : (s[0].toNat : Int) = 48 := by
    have e : s.data.toList[0]'(by rw [hl]; simp) = s[0] := rfl
    rw [← e]; simp [hl]
  have d0 : ((s[0].toNat : Int) == 48) = true := by simpa using hs0
  clear hl
  go_enter Tryz.func92, Tryz.ntmps92
  go_wp2
  go_loop [17] (fun i => ∃ k : Nat, k ≤ s.size ∧ i = .int .i64 k) (fun i => s.size - (intOf i).toNat)
  case atStart => exact ⟨0, Nat.zero_le _, rfl⟩
  case round =>
    obtain ⟨k, hk, rfl⟩ := hrel
    by_cases hlt : k < s.size
    · have hdk := HD.out s[k] (by
        have hL := Lib.size_eq s
        have e : s.data.toList[k]'(by omega) = s[k] := rfl
        rw [← e]; exact List.getElem_mem _)
      have u0 : 48 ≤ (s[k].toNat : Int) := by omega
      have u1 : (s[k].toNat : Int) ≤ 57 := by omega
      clear hdk
      go_wp2
      go_round
      case rel => exact ⟨k + 1, by omega, by go_num⟩
      case measure => simp [intOf]; omega
    · go_wp2
      go_ret
      exact ⟨rfl, rfl⟩
end Go.Proofs.YtikkobmccagdlaaGreatDoor
/- Parse. -/
namespace Go.Proofs.YtikkobmccagdlaaGreatDoor
open Go Go.RowKit Go.Sort
set_option maxRecDepth 100000
set_option linter.unusedVariables false
theorem atoi_any (l : List UInt8) (w : World) (h : digs l) (h0 : 0 < l.length) (h1 : l.length ≤ 9) :
    Calls Tryz.prog 93 #[.string (str l)] w fun e w' => e = .returned (.tuple #[.int .i64 (nval l : Nat), .nilIface]) ∧ Gr w w' := by
  refine (Tryz.strconv_Atoi (str l) (nval l : Nat) (by rw [str_size]; omega) (by rw [str_data]; exact atoi_digs h (by intro e; subst e; simp at h0)) w).mono fun e w' ⟨he, t, hw⟩ => ⟨he, ?_⟩
  rw [hw]
  exact Go.Joins.below_bytesWorld _ _ _ _ (Nat.le_refl _)
theorem scale_int (f : Int) (F c : Nat) {N : Nat} (v : Value) (w : World) (hf : f = F) (hn : Num w v N) (hl : (nd N).length ≤ 100000) (hF : F < 1073741824) (hc : c < 1073741824) :
    Calls Tryz.prog 90 #[v, .int .i64 f, .int .i64 (c : Nat)] w (ScPost w (c + F * N)) := by
  subst hf
  have := scale_any v (nd N) F c w hn (lim_nd N) hl hF hc
  rwa [nv_nd] at this
theorem group_len {N c k : Nat} (h : (nd N).length ≤ k) (hc : c < 1000000000) : (nd (c + 1000000000 * N)).length ≤ k + 1 := by
  rw [nd_len] at *
  rw [bp_succ]
  omega
theorem digs_take {l : List UInt8} (h : digs l) (k : Nat) : digs (l.take k) := fun c hc => h c (List.mem_of_mem_take hc)
theorem digs_drop {l : List UInt8} (h : digs l) (k : Nat) : digs (l.drop k) := fun c hc => h c (List.mem_of_mem_drop hc)
def slen (v : Value) : Nat := match v with
  | .string s => s.size
  | _ => 0
def PrRel (w : World) (T V : Nat) (s v : Value) (wr : World) : Prop :=
  ∃ (l : List UInt8) (N : Nat), s = .string (str l) ∧ digs l ∧ (nd N).length + l.length ≤ T ∧ Num wr v N ∧ N * 10 ^ l.length + nval l = V ∧ (N = 0 ∨ l.length % 9 = 0) ∧ Gr w wr
/-- one group of digits more -/
theorem pr_step {N V m : Nat} {l : List UInt8} (h : N * 10 ^ l.length + nval l = V) (hm : m ≤ l.length) (hz : N = 0 ∨ m = 9) :
    (nval (l.take m) + 1000000000 * N) * 10 ^ (l.drop m).length + nval (l.drop m) = V := by
  have e : nval l = nval (l.take m) * 10 ^ (l.drop m).length + nval (l.drop m) := by rw [← nval_append, List.take_append_drop]
  have hp : 10 ^ l.length = 10 ^ m * 10 ^ (l.drop m).length := by rw [← Nat.pow_add, List.length_drop]; congr 1; omega
  rw [e, hp] at h
  generalize 10 ^ (l.drop m).length = P at *
  rcases hz with rfl | rfl
  · rw [← h]; simp
  · rw [← h, Nat.add_mul, show (10 : Nat) ^ 9 = 1000000000 from rfl, ← Nat.mul_assoc, Nat.mul_comm N]; omega
set_option maxHeartbeats 1000000 in
theorem parse_ok (l : List UInt8) (w : World) (hd : digs l) (hl : l.length ≤ 2400) (hT : ∀ w, Calls Tryz.prog 92 #[.string (str l)] w fun e w' => e = .returned (.bool true) ∧ w = w') :
    Calls Tryz.prog 33 #[.string (str l)] w (Res w (nval l)) := by
  have HT := Lib.hid hT
  have sz : (str l).size = l.length := str_size l
  have hl1 : (l.length : Int) ≤ 2400 := by omega
  clear hT
  go_enter Tryz.func33, Tryz.ntmps33
  go_wp2_with fail
  refine (HT.out _).mono ?_
  rintro e w' ⟨rfl, rfl⟩
  go_wp2_with fail
  go_loopw [0, 4] (fun s v wr => PrRel w l.length (nval l) s v wr) (fun s _ _ => slen s)
  case atStart => exact ⟨l, 0, rfl, hd, by rw [nd_zero]; simp, Num.nil _, by simp, .inl rfl, Gr.refl _⟩
  case round =>
    obtain ⟨r, N, rfl, hr, hT2, hn, hv, hz, hg⟩ := hrel
    clear sz
    have sz : (str r).size = r.length := str_size r
    have HV := Lib.hid hv
    have HZ := Lib.hid hz
    have HR := Lib.hid hr
    have HN := Lib.hid hn
    have HT2 := Lib.hid hT2
    have hrl : (r.length : Int) ≤ 2400 := by omega
    have hnl : (nd N).length ≤ 2400 := by omega
    clear hv hz hr hn hT2
    by_cases h0 : 0 < r.length
    · obtain ⟨m, hm⟩ : ∃ m, m = (r.length - 1) % 9 + 1 := ⟨_, rfl⟩
      have e1 : ((r.length : Int) - 1) % 9 + 1 = (m : Int) := by omega
      have m9 : m ≤ 9 := by omega
      have m0 : 0 < m := by omega
      have mr : m ≤ r.length := by omega
      have HM := Lib.hid hm
      clear hm
      have m9' : (m : Int) ≤ 9 := by omega
      have mr' : (m : Int) ≤ (r.length : Int) := by omega
      have m0' : (0 : Int) ≤ (m : Int) := by omega
      have x1 : (str r).extract 0 m = str (r.take m) := by rw [str_ext, str_data]; simp
      have x2 : (str r).extract m r.length = str (r.drop m) := by rw [str_ext, str_data, List.take_of_length_le (by simp)]
      have htl : (r.take m).length = m := by rw [List.length_take]; omega
      have hc : nval (r.take m) < 1000000000 := by
        have := nval_lt (digs_take HR.out m)
        rw [htl] at this
        exact Nat.lt_of_lt_of_le this (Nat.pow_le_pow_right (n := 10) (by omega) m9)
      have HTL := Lib.hid htl
      have HC := Lib.hid hc
      clear htl hc
      go_wp2_with fail
      refine (atoi_any (r.take m) _ (digs_take HR.out m) (by rw [HTL.out]; exact m0) (by rw [HTL.out]; exact m9)).mono ?_
      rintro e w2 ⟨rfl, hg2⟩
      go_wp2_with fail
      refine (scale_int 1000000000 1000000000 (nval (r.take m)) _ _ rfl (HN.out.gr hg2) (by omega) (by omega) (by have := HC.out; omega)).mono ?_
      rintro e w3 ⟨v3, rfl, hn3, hg3⟩
      have HN3 := Lib.hid hn3.num
      clear hn3
      go_wp2_with fail
      have hdl : (r.drop m).length = r.length - m := List.length_drop
      refine ⟨⟨r.drop m, _, rfl, digs_drop HR.out m, ?_, HN3.out, ?_, .inr ?_, (hg.step hg2).step hg3⟩, ?_⟩
      · have := group_len (Nat.le_refl _) HC.out (N := N)
        have := HT2.out
        omega
      · refine pr_step HV.out mr (HZ.out.imp id fun h => ?_)
        have := HM.out; omega
      · have := HM.out; omega
      · show (str (r.drop m)).size < (str r).size
        rw [str_size, str_size]; omega
    · obtain rfl : r = [] := List.length_eq_zero_iff.1 (by omega)
      have hv := HV.out
      rw [List.length_nil, Nat.pow_zero, Nat.mul_one, show nval [] = 0 from rfl, Nat.add_zero] at hv
      have hF := num_fit HN.out hg
      rw [hv] at hF
      have HF := Lib.hid hF
      clear hv hF
      go_wp2_with fail
      refine HF.out.mono ?_
      rintro e w' ⟨v, er, rfl, hres, hg⟩
      go_wp2_with fail
      go_ret2
      exact ⟨v, er, rfl, hres, hg⟩
end Go.Proofs.YtikkobmccagdlaaGreatDoor
/- Parse of the package natural at any string. -/
namespace Go.Proofs.YtikkobmccagdlaaGreatDoor
open Go Go.RowKit Go.Sort
set_option maxRecDepth 100000
set_option linter.unusedVariables false
/-- what isText answers -/
def txt (l : List UInt8) : Prop := digs l ∧ l ≠ [] ∧ (l = [48] ∨ l.head? ≠ some 48)
instance (l : List UInt8) : Decidable (digs l) := inferInstanceAs (Decidable (∀ c ∈ l, _))
instance (l : List UInt8) : Decidable (txt l) := inferInstanceAs (Decidable (_ ∧ _))
theorem isText_empty (w : World) :
    Calls Tryz.prog 92 #[.string (str [])] w fun e w' => e = .returned (.bool false) ∧ w = w' := by
  have t0 : (str []).toList.isEmpty = true := by rw [Lib.toList_data, str_data]; rfl
  go_enter Tryz.func92, Tryz.ntmps92
  go_wp2
  go_ret
  exact ⟨rfl, rfl⟩
theorem isText_bad (s : ByteArray) (w : World) (h0 : 0 < s.size) (hs : s.size ≤ 9223372036854775807) (hl : (s[0].toNat : Int) ≠ 48) (hb : ¬ digs s.data.toList) :
    Calls Tryz.prog 92 #[.string s] w fun e w' => e = .returned (.bool false) ∧ w = w' := by
  have t0 : s.toList.isEmpty = false := by
    rw [Lib.toList_data]
    cases h : s.data.toList with
    | nil => have := Lib.size_eq s; rw [h, List.length_nil] at this; omega
    | cons => rfl
  have d0 : ((s[0].toNat : Int) == 48) = false := by simpa using hl
  have HB := Lib.hid hb
  clear hl hb
  go_enter Tryz.func92, Tryz.ntmps92
  go_wp2
  go_loop [17] (fun i => ∃ k : Nat, k ≤ s.size ∧ i = .int .i64 k ∧ Hid (∀ j (hj : j < s.size), j < k → 48 ≤ s[j].toNat ∧ s[j].toNat ≤ 57)) (fun i => s.size - (intOf i).toNat)
  case atStart => exact ⟨0, Nat.zero_le _, rfl, Lib.hid (fun j _ hj => absurd hj (Nat.not_lt_zero j))⟩
  case round =>
    obtain ⟨k, hk, rfl, HK⟩ := hrel
    by_cases hlt : k < s.size
    · by_cases hd : 48 ≤ s[k].toNat ∧ s[k].toNat ≤ 57
      · have HK2 := Lib.hid (show ∀ j (hj : j < s.size), j < k + 1 → 48 ≤ s[j].toNat ∧ s[j].toNat ≤ 57 from fun j hj h => by
          rcases Nat.lt_or_eq_of_le (Nat.le_of_lt_succ h) with h | rfl
          · exact HK.out j hj h
          · exact hd)
        have u0 : 48 ≤ (s[k].toNat : Int) := by omega
        have u1 : (s[k].toNat : Int) ≤ 57 := by omega
        clear hd HK
        go_wp2
        go_round
        case rel => exact ⟨k + 1, by omega, by go_num, HK2⟩
        case measure => simp [intOf]; omega
      · clear HK
        by_cases h48 : s[k].toNat < 48
        · have u0 : (s[k].toNat : Int) < 48 := by omega
          clear hd h48
          go_wp2
          go_ret
          exact ⟨rfl, rfl⟩
        · have u0 : ¬ (s[k].toNat : Int) < 48 := by omega
          have u1 : 57 < (s[k].toNat : Int) := by omega
          clear hd h48
          go_wp2
          go_ret
          exact ⟨rfl, rfl⟩
    · exfalso
      refine HB.out fun c hc => ?_
      obtain ⟨j, hj, rfl⟩ := List.getElem_of_mem hc
      have hsz := Lib.size_eq s
      exact HK.out j (by omega) (by omega)
theorem digs_nil : digs [] := fun _ h => by cases h
/-- isText at any text -/
theorem isText_any (l : List UInt8) (w : World) (hl : l.length ≤ 1000000) :
    Calls Tryz.prog 92 #[.string (str l)] w fun e w' => e = .returned (.bool (decide (txt l))) ∧ w = w' := by
  cases hc : l with
  | nil =>
    rw [decide_eq_false (fun h => h.2.1 rfl)]
    exact isText_empty w
  | cons c r =>
    rw [← hc]
    have hsz : (str l).size = l.length := str_size l
    have h0 : 0 < (str l).size := by rw [hsz, hc]; simp
    have e0 : (str l)[0] = c := by
      have e : (str l).data.toList[0]'(by rw [str_data, hc]; simp) = (str l)[0] := rfl
      rw [← e]; simp [str_data, hc]
    by_cases h48 : c = 48
    · by_cases hr : r = []
      · have hl2 : l = [48] := by rw [hc, h48, hr]
        have ht : txt l := by
          rw [hl2]; exact ⟨fun x hx => by rw [List.mem_singleton] at hx; subst hx; decide, by simp, .inl rfl⟩
        rw [decide_eq_true ht]
        exact isText_nought _ w (by rw [str_data]; exact hl2)
      · have ht : ¬ txt l := fun h => by
          rcases h.2.2 with h | h
          · rw [hc] at h; simp at h; exact hr h.2
          · rw [hc, h48] at h; exact h rfl
        rw [decide_eq_false ht]
        refine isText_lead _ w ?_ (by omega) (by rw [e0, h48]; rfl)
        rw [hsz, hc]
        cases r with
        | nil => exact absurd rfl hr
        | cons => simp
    · have hne : ((str l)[0].toNat : Int) ≠ 48 := by
        rw [e0]; intro h
        exact h48 (UInt8.toNat_inj.1 (by show c.toNat = 48; omega))
      by_cases hd : digs l
      · have ht : txt l := ⟨hd, by rw [hc]; simp, .inr (by rw [hc]; simpa using h48)⟩
        rw [decide_eq_true ht]
        exact isText_yes _ w (by rw [str_data]; exact hd) h0 (by omega) hne
      · rw [decide_eq_false (fun h => hd h.1)]
        exact isText_bad _ w h0 (by omega) hne (by rw [str_data]; exact hd)
/-- a number, or ErrForm, or ErrLimit -/
def PsRes (w : World) (l : List UInt8) (e : Ending) (w' : World) : Prop :=
  if ¬ txt l then e = .returned (.tuple #[.slice none 0 0, .int .i64 2]) ∧ Gr w w' else if 2400 < l.length then e = .returned (.tuple #[.slice none 0 0, .int .i64 5]) ∧ Gr w w' else Res w (nval l) e w'
theorem parse_any (l : List UInt8) (w : World) (hl : l.length ≤ 1000000) :
    Calls Tryz.prog 33 #[.string (str l)] w (PsRes w l) := by
  by_cases ht : txt l
  · by_cases h24 : 2400 < l.length
    · have hT := isText_any l w hl
      rw [decide_eq_true ht] at hT
      have HT := Lib.hid hT
      have sz : (str l).size = l.length := str_size l
      have d1 : decide ((2400 : Int) < (l.length : Int)) = true := by rw [decide_eq_true_eq]; omega
      have HP : Hid (∀ e w', PsRes w l e w' ↔ (e = .returned (.tuple #[.slice none 0 0, .int .i64 5]) ∧ Gr w w')) := Lib.hid fun e w' => by unfold PsRes; rw [if_neg (by simpa using ht), if_pos h24]
      clear hT ht h24
      go_enter Tryz.func33, Tryz.ntmps33
      go_wp2_with fail
      refine HT.out.mono ?_
      rintro e w' ⟨rfl, rfl⟩
      go_wp2_with fail
      go_ret2
      exact (HP.out _ _).2 ⟨rfl, Gr.refl _⟩
    · have hP := parse_ok l w ht.1 (by omega) (fun w => by
        have := isText_any l w hl
        rw [decide_eq_true ht] at this
        exact this)
      refine hP.mono fun e w' h => ?_
      unfold PsRes
      rw [if_neg (by simpa using ht), if_neg h24]
      exact h
  · have hT := isText_any l w hl
    rw [decide_eq_false ht] at hT
    have HT := Lib.hid hT
    have HP : Hid (∀ e w', PsRes w l e w' ↔ (e = .returned (.tuple #[.slice none 0 0, .int .i64 2]) ∧ Gr w w')) := Lib.hid fun e w' => by unfold PsRes; rw [if_pos ht]
    clear hT ht
    go_enter Tryz.func33, Tryz.ntmps33
    go_wp2_with fail
    refine HT.out.mono ?_
    rintro e w' ⟨rfl, rfl⟩
    go_wp2_with fail
    go_ret2
    exact (HP.out _ _).2 ⟨rfl, Gr.refl _⟩
end Go.Proofs.YtikkobmccagdlaaGreatDoor
/- The document's Digits. -/
namespace Go.Proofs.YtikkobmccagdlaaGreatDoor
open Go Go.RowKit Go.Sort
set_option maxRecDepth 100000
set_option linter.unusedVariables false
theorem txt_end {s : ByteArray} (H : ∀ j (hj : j < s.size), 48 ≤ s[j].toNat ∧ s[j].toNat ≤ 57) : digs s.data.toList := fun c hc => by
  obtain ⟨j, hj, rfl⟩ := List.getElem_of_mem hc
  have hsz := Lib.size_eq s
  exact H j (by omega)
theorem txt_not {s : ByteArray} {k : Nat} (hk : k < s.size) (h : ¬ (48 ≤ s[k].toNat ∧ s[k].toNat ≤ 57)) : ¬ txt s.data.toList := fun ht => by
  have hsz := Lib.size_eq s
  have e : s.data.toList[k]'(by omega) = s[k] := rfl
  exact h (e ▸ ht.1 _ (List.getElem_mem _))
theorem rdigits_any (s : ByteArray) (w : World) (hl : s.size ≤ 1000000) :
    Calls Tryz.prog 94 #[.string s] w fun e w' => e = .returned (.bool (decide (txt s.data.toList))) ∧ w = w' := by
  have hsz := Lib.size_eq s
  go_enter Tryz.func94, Tryz.ntmps94
  go_wp2
  go_loop [3] (fun i => ∃ k : Nat, k ≤ s.size ∧ i = .int .i64 k ∧ Hid (∀ j (hj : j < s.size), j < k → 48 ≤ s[j].toNat ∧ s[j].toNat ≤ 57)) (fun i => s.size - (intOf i).toNat)
  case atStart => exact ⟨0, Nat.zero_le _, rfl, Lib.hid (fun j _ hj => absurd hj (Nat.not_lt_zero j))⟩
  case round =>
    obtain ⟨k, hk, rfl, HK⟩ := hrel
    by_cases hlt : k < s.size
    · by_cases hd : 48 ≤ s[k].toNat ∧ s[k].toNat ≤ 57
      · have HK2 := Lib.hid (show ∀ j (hj : j < s.size), j < k + 1 → 48 ≤ s[j].toNat ∧ s[j].toNat ≤ 57 from fun j hj h => by
          rcases Nat.lt_or_eq_of_le (Nat.le_of_lt_succ h) with h | rfl
          · exact HK.out j hj h
          · exact hd)
        have u0 : ¬ (s[k].toNat : Int) < 48 := by omega
        have u1 : ¬ 57 < (s[k].toNat : Int) := by omega
        clear hd HK hsz
        go_wp2
        go_round
        case rel => exact ⟨k + 1, by omega, by go_num, HK2⟩
        case measure => simp [intOf]; omega
      · have HV := Lib.hid (decide_eq_false (txt_not hlt hd))
        clear HK
        by_cases h48 : s[k].toNat < 48
        · have u0 : (s[k].toNat : Int) < 48 := by omega
          clear hd h48 hsz
          go_wp2
          go_ret
          exact ⟨ret_bool HV.out.symm, rfl⟩
        · have u0 : ¬ (s[k].toNat : Int) < 48 := by omega
          have u1 : 57 < (s[k].toNat : Int) := by omega
          clear hd h48 hsz
          go_wp2
          go_ret
          exact ⟨ret_bool HV.out.symm, rfl⟩
    · obtain rfl : k = s.size := by omega
      have hd := txt_end (fun j hj => HK.out j hj hj)
      clear HK
      by_cases h0 : s.size = 0
      · have hz : s.data.toList.length = 0 := by rw [← hsz]; exact h0
        have ht : ¬ txt s.data.toList := fun h => h.2.1 (List.length_eq_zero_iff.1 hz)
        have HV := Lib.hid (decide_eq_false ht)
        have d0 : decide ((0 : Int) < (s.size : Int)) = false := by rw [decide_eq_false_iff_not]; omega
        clear hd ht hz hsz
        go_wp2
        go_ret
        exact ⟨ret_bool HV.out.symm, rfl⟩
      · have hs0 : 0 < s.size := by omega
        have d0 : decide ((0 : Int) < (s.size : Int)) = true := by rw [decide_eq_true_eq]; omega
        have e0 : s.data.toList[0]'(by omega) = s[0] := rfl
        have hh : s.data.toList.head? = some s[0] := by rw [List.head?_eq_getElem?, List.getElem?_eq_getElem (by omega), e0]
        have hne : s.data.toList ≠ [] := fun h => by have hq := congrArg List.length h; rw [List.length_nil] at hq; omega
        by_cases h1 : s.size = 1
        · have d1 : ((s.size : Int) == 1) = true := by rw [beq_iff_eq]; omega
          have ht : txt s.data.toList := by
            refine ⟨hd, hne, ?_⟩
            by_cases h48 : s[0] = 48
            · refine .inl ?_
              obtain ⟨c, hc⟩ := List.length_eq_one_iff.1 (show s.data.toList.length = 1 by omega)
              rw [hc] at hh
              rw [hc]
              simp at hh
              rw [hh, h48]
            · refine .inr ?_
              rw [hh]
              simpa using h48
          have HV := Lib.hid (decide_eq_true ht)
          clear hd ht e0 hsz hh hne
          go_wp2
          go_ret
          exact ⟨ret_bool HV.out.symm, rfl⟩
        · have d1 : ((s.size : Int) == 1) = false := by rw [beq_eq_false_iff_ne]; omega
          have HV : Hid (decide (txt s.data.toList) = (((s[0].toNat : Nat) : Int) != 48)) := Lib.hid (by
            rw [Bool.eq_iff_iff, decide_eq_true_eq, bne_iff_ne]
            constructor
            · intro h hc
              rcases h.2.2 with h | h
              · have hq := congrArg List.length h; rw [List.length_singleton] at hq; omega
              · exact h (by rw [hh]; exact congrArg some (UInt8.toNat_inj.1 (by show s[0].toNat = 48; omega)))
            · intro h
              refine ⟨hd, hne, .inr ?_⟩
              rw [hh]
              intro hc
              have := Option.some.inj hc
              exact h (by rw [this]; rfl))
          clear hd e0 hsz hh hne
          go_wp2
          go_ret
          exact ⟨ret_bool HV.out.symm, rfl⟩
end Go.Proofs.YtikkobmccagdlaaGreatDoor
/- The document's Limited, Add, Sub, Mul, DivMod, From. -/
namespace Go.Proofs.YtikkobmccagdlaaGreatDoor
open Go Go.RowKit Go.Sort
set_option maxRecDepth 100000
set_option linter.unusedVariables false
theorem limited_any {N : Nat} (v : Value) (w : World) (h : Num w v N) (hl : (nd N).length ≤ 100000) :
    Calls Tryz.prog 69 #[v] w (Res w N) := by
  have h0 := h
  obtain ⟨a, cap, rfl⟩ := num_slice h
  clear h
  by_cases hn : (nd N).length ≤ 256
  · have d1 : decide ((256 : Int) < ((nd N).length : Int)) = false := by rw [decide_eq_false_iff_not]; omega
    have H := Lib.hid h0
    have HN := Lib.hid hn
    clear h0 hn hl
    go_enter Tryz.func69, Tryz.ntmps69
    go_wp2_with fail
    go_ret2
    exact ⟨_, 0, rfl, .inl ⟨HN.out, rfl, H.out⟩, Gr.refl _⟩
  · have d1 : decide ((256 : Int) < ((nd N).length : Int)) = true := by rw [decide_eq_true_eq]; omega
    have HN := Lib.hid hn
    clear h0 hn hl
    go_enter Tryz.func69, Tryz.ntmps69
    go_wp2_with fail
    go_ret2
    exact ⟨_, 5, rfl, .inr ⟨by have := HN.out; omega, rfl, rfl⟩, Gr.refl _⟩
theorem radd_any {A B : Nat} (va vb : Value) (w : World) (hA : Num w va A) (hB : Num w vb B) (lA : (nd A).length ≤ 4000) (lB : (nd B).length ≤ 4000) :
    Calls Tryz.prog 9 #[va, vb] w (Res w (A + B)) := by
  have lS := nd_add' lA lB
  obtain ⟨aa, ca, rfl⟩ := num_slice hA
  obtain ⟨ab, cb, rfl⟩ := num_slice hB
  have HA := Lib.hid hA
  have HB := Lib.hid hB
  clear hA hB
  go_enter Tryz.func9, Tryz.ntmps9
  go_wp2_with fail
  refine (plus_any _ _ _ HA.out HB.out (by omega) (by omega)).mono ?_
  rintro e w1 ⟨v, rfl, hv, hg⟩
  obtain ⟨av, cv, rfl⟩ := num_slice hv
  have HV := Lib.hid hv
  clear hv
  go_wp2_with fail
  refine (limited_any _ _ HV.out (by omega)).mono ?_
  rintro e w2 ⟨v, er, rfl, hr, hg2⟩
  have HR := Lib.hid hr
  clear hr
  go_wp2_with fail
  go_ret2
  exact ⟨_, _, rfl, HR.out, hg.step hg2⟩
theorem rmul_any {A B : Nat} (va vb : Value) (w : World) (hA : Num w va A) (hB : Num w vb B) (lA : (nd A).length ≤ 4000) (lB : (nd B).length ≤ 4000) :
    Calls Tryz.prog 14 #[va, vb] w (Res w (A * B)) := by
  have lS := nd_mul' lA lB
  obtain ⟨aa, ca, rfl⟩ := num_slice hA
  obtain ⟨ab, cb, rfl⟩ := num_slice hB
  have HA := Lib.hid hA
  have HB := Lib.hid hB
  clear hA hB
  go_enter Tryz.func14, Tryz.ntmps14
  go_wp2_with fail
  refine (times_any _ _ _ HA.out HB.out (by omega) (by omega)).mono ?_
  rintro e w1 ⟨v, rfl, hv, hg⟩
  obtain ⟨av, cv, rfl⟩ := num_slice hv
  have HV := Lib.hid hv
  clear hv
  go_wp2_with fail
  refine (limited_any _ _ HV.out (by omega)).mono ?_
  rintro e w2 ⟨v, er, rfl, hr, hg2⟩
  have HR := Lib.hid hr
  clear hr
  go_wp2_with fail
  go_ret2
  exact ⟨_, _, rfl, HR.out, hg.step hg2⟩
theorem rfrom_any (n : Int) (w : World) (n0 : -9223372036854775808 ≤ n) (n1 : n ≤ 9223372036854775807) :
    Calls Tryz.prog 30 #[.int .i64 n] w fun e w' => ∃ (v : Value) (er : Int), e = .returned (.tuple #[v, .int .i64 er]) ∧ ((0 ≤ n ∧ er = 0 ∧ Num w' v n.toNat) ∨ (n < 0 ∧ er = 15 ∧ v = .slice none 0 0)) ∧ Gr w w' := by
  by_cases hn : n < 0
  · have d1 : decide (n < 0) = true := by simpa using hn
    go_enter Tryz.func30, Tryz.ntmps30
    go_wp2_with fail
    go_ret2
    exact ⟨_, 15, rfl, .inr ⟨hn, rfl, rfl⟩, Gr.refl _⟩
  · have d1 : decide (n < 0) = false := by simpa using hn
    obtain ⟨N, rfl⟩ := Int.eq_ofNat_of_zero_le (show 0 ≤ n by omega)
    go_enter Tryz.func30, Tryz.ntmps30
    go_wp2_with fail
    refine (word_int _ N _ (by first | rfl | omega) (by omega)).mono ?_
    rintro e w1 ⟨v, rfl, hv, hg⟩
    have HV := Lib.hid hv
    clear hv
    go_wp2_with fail
    go_ret2
    exact ⟨_, 0, rfl, .inl ⟨by omega, rfl, HV.out⟩, hg⟩
theorem rsub_any {A B : Nat} (va vb : Value) (w : World) (hA : Num w va A) (hB : Num w vb B) (lA : (nd A).length ≤ 4000) (lB : (nd B).length ≤ 4000) :
    Calls Tryz.prog 12 #[va, vb] w (SubRes w A B) := by
  obtain ⟨aa, ca, rfl⟩ := num_slice hA
  obtain ⟨ab, cb, rfl⟩ := num_slice hB
  have HA := Lib.hid hA
  have HB := Lib.hid hB
  clear hA hB
  by_cases hAB : A < B
  · have HC : Hid (ncmp A B = -1) := Lib.hid (ncmp_lt hAB)
    have HL := Lib.hid hAB
    clear hAB
    go_enter Tryz.func12, Tryz.ntmps12
    go_wp2_with fail
    refine (rcmp_nat _ _ _ HA.out HB.out (by omega) (by omega)).mono ?_
    rintro e w1 ⟨rfl, hg⟩
    rw [HC.out]
    go_wp2_with fail
    go_ret2
    exact ⟨_, 15, rfl, .inr ⟨HL.out, rfl, rfl⟩, hg⟩
  · have hd : decide (ncmp A B < 0) = false := by
      rw [decide_eq_false_iff_not]
      rcases Nat.lt_or_eq_of_le (Nat.le_of_not_lt hAB) with h | h
      · rw [ncmp_gt h]; omega
      · rw [h, ncmp_eq]; omega
    have HL : Hid (B ≤ A) := Lib.hid (by omega)
    clear hAB
    go_enter Tryz.func12, Tryz.ntmps12
    go_wp2_with fail
    refine (rcmp_nat _ _ _ HA.out HB.out (by omega) (by omega)).mono ?_
    rintro e w1 ⟨rfl, hg⟩
    generalize ncmp A B = c at *
    go_wp2_with fail
    refine (less_any _ _ _ (HA.out.gr hg) (HB.out.gr hg) HL.out (by omega)).mono ?_
    rintro e w2 ⟨v, rfl, hv, hg2⟩
    have HV := Lib.hid hv
    clear hv
    go_wp2_with fail
    go_ret2
    exact ⟨_, 0, rfl, .inl ⟨HL.out, rfl, HV.out⟩, hg.step hg2⟩
theorem rdivmod_any {A B : Nat} (va vb : Value) (w : World) (hA : Num w va A) (hB : Num w vb B) (hB0 : 0 < B) (lA : (nd A).length ≤ 4000) (lB : (nd B).length ≤ 4000) :
    Calls Tryz.prog 16 #[va, vb] w (DmPost w A B) := by
  obtain ⟨aa, ca, rfl⟩ := num_slice hA
  obtain ⟨ab, cb, rfl⟩ := num_slice hB
  have HA := Lib.hid hA
  have HB := Lib.hid hB
  have d0 : (((nd B).length : Int) == 0) = false := by rw [beq_eq_false_iff_ne, nd_pos hB0, List.length_cons]; omega
  have HB0 := Lib.hid hB0
  clear hA hB hB0
  go_enter Tryz.func16, Tryz.ntmps16
  go_wp2_with fail
  refine (split_any _ _ _ HA.out HB.out HB0.out (by omega) (by omega)).mono ?_
  rintro e w1 ⟨vq, vr, rfl, hq, hr, hg⟩
  have HQ := Lib.hid hq
  have HR := Lib.hid hr
  clear hq hr
  go_wp2_with fail
  go_ret3
  exact ⟨_, _, rfl, HQ.out.any, HR.out, hg⟩
theorem rdivmod_zero (va vb : Value) (w : World) (hB : Num w vb 0) :
    Calls Tryz.prog 16 #[va, vb] w fun e w' => e = .returned (.tuple #[.slice none 0 0, .slice none 0 0, .int .i64 14]) ∧ Gr w w' := by
  obtain ⟨ab, cb, rfl⟩ := num_slice hB
  have d0 : (((nd 0).length : Int) == 0) = true := by rw [nd_zero]; rfl
  clear hB
  go_enter Tryz.func16, Tryz.ntmps16
  go_wp2_with fail
  go_ret3
  exact ⟨rfl, Gr.refl _⟩
end Go.Proofs.YtikkobmccagdlaaGreatDoor
/- The document's Int. -/
namespace Go.Proofs.YtikkobmccagdlaaGreatDoor
open Go Go.RowKit Go.Sort
set_option maxRecDepth 100000
set_option linter.unusedVariables false
set_option maxHeartbeats 1000000 in
theorem rint_any {N : Nat} (v : Value) (w : World) (h : Num w v N) (hN : (nd N).length ≤ 4000) :
    Calls Tryz.prog 32 #[v] w (IntRes w N) := by
  obtain ⟨a, c, rfl⟩ := num_slice h
  have HN := Lib.hid h
  clear h
  go_enter Tryz.func32, Tryz.ntmps32
  go_wp2_with fail
  refine (word_int 4611686018427387904 4611686018427387904 w rfl (by omega)).mono ?_
  rintro e w1 ⟨v, rfl, hv, hg⟩
  obtain ⟨av, cv, rfl⟩ := num_slice hv
  have HV := Lib.hid hv
  have HN1 := Lib.hid (HN.out.gr hg)
  clear hv
  have l62 : (nd 4611686018427387904).length ≤ 3 := (nd_len 4611686018427387904 3).2 (by omega)
  go_wp2_with fail
  refine (rcmp_nat _ _ _ HN1.out HV.out (by omega) (by omega)).mono ?_
  rintro e w2 ⟨rfl, hg2⟩
  have hG := hg.step hg2
  have HN2 := Lib.hid (HN1.out.gr hg2)
  clear hg hg2 HN HN1 HV
  by_cases hle : N ≤ 4611686018427387904
  · have d : decide (0 < ncmp N 4611686018427387904) = false := by
      rw [decide_eq_false_iff_not]
      rcases Nat.eq_or_lt_of_le hle with h | h
      · rw [h, ncmp_eq]; omega
      · rw [ncmp_lt h]; omega
    have HLE := Lib.hid hle
    clear hle
    generalize ncmp N 4611686018427387904 = q at *
    go_wp2_with fail
    go_loopw [4, 5] (fun sv s wr => ∃ k : Nat, s = .int .i64 ((k : Int) - 1) ∧ sv = .int .i64 (nv ((nd N).drop k) : Nat) ∧ k ≤ (nd N).length ∧ Gr w2 wr) (fun _ s _ => (intOf s + 1).toNat)
    case atStart => exact ⟨(nd N).length, rfl, by rw [List.drop_length]; rfl, Nat.le_refl _, Gr.refl _⟩
    case round =>
      obtain ⟨k, rfl, rfl, hk, hgr⟩ := hrel
      by_cases hk0 : 0 < k
      · obtain ⟨j, rfl⟩ : ∃ j, k = j + 1 := ⟨k - 1, by omega⟩
        have hlt : j < (nd N).length := by omega
        have hd := nv_drop hlt
        have hub : nv ((nd N).drop j) ≤ N := by
          have := nv_take_drop (nd N) j (by omega)
          rw [nv_nd] at this
          have h1 : 1 * nv ((nd N).drop j) ≤ 1073741824 ^ j * nv ((nd N).drop j) := Nat.mul_le_mul_right _ (Nat.pos_of_ne_zero (by simp))
          omega
        have hle := HLE.out
        obtain ⟨b, off, rfl, -, hc⟩ := (HN2.out.gr hgr).at' hlt
        rw [hd] at hub
        have HD := Lib.hid hd
        have hj : ((j + 1 : Nat) : Int) - 1 = (j : Int) := by omega
        rw [hj]
        generalize (nd N).getD j 0 = x at *
        generalize nv ((nd N).drop (j + 1)) = s at *
        have j0 : (0 : Int) ≤ (j : Int) := by omega
        have j1 : (j : Int) < ((nd N).length : Int) := by omega
        have s0 : (0 : Int) ≤ (s : Int) := by omega
        have s1 : (s : Int) * 1073741824 + (x : Int) ≤ 4611686018427387904 := by omega
        have x0 : (0 : Int) ≤ (x : Int) := by omega
        have m1 : IntKind.i64.wrap ((s : Int) * 1073741824) = (s : Int) * 1073741824 := IntWalk.i64_in _ (by omega)
        have m2 : IntKind.i64.wrap ((s : Int) * 1073741824 + (x : Int)) = (s : Int) * 1073741824 + (x : Int) := IntWalk.i64_in _ (by omega)
        clear hd hub hle hj hk0 hN
        go_wp2_with fail
        have l3 : (nd N).length ≤ 3 := (nd_len N 3).2 (by have := HLE.out; omega)
        have m3 : wrap64 ((j : Int) - 1) = (j : Int) - 1 := IntWalk.wrap64_in _ ⟨by omega, by omega⟩
        rw [m3]
        exact ⟨⟨j, rfl, by rw [HD.out]; congr 1; omega, by omega, hgr⟩, by simp only [intOf]; omega⟩
      · obtain rfl : k = 0 := by omega
        have e0 : nv ((nd N).drop 0) = N := by rw [List.drop_zero, nv_nd]
        rw [e0]
        clear hk0
        go_wp2_with fail
        go_ret2
        have := HLE.out
        exact ⟨_, 0, rfl, .inl ⟨HLE.out, rfl, rfl⟩, by omega, by omega, hG.step hgr⟩
  · have d : decide (0 < ncmp N 4611686018427387904) = true := by rw [ncmp_gt (by omega)]; rfl
    have HGT := Lib.hid hle
    clear hle
    generalize ncmp N 4611686018427387904 = q at *
    go_wp2_with fail
    go_ret2
    exact ⟨_, 1, rfl, .inr ⟨by have := HGT.out; omega, rfl, rfl⟩, by omega, by omega, hG⟩
end Go.Proofs.YtikkobmccagdlaaGreatDoor
/- Pow at any number and any exponent, both sides. -/
namespace Go.Proofs.YtikkobmccagdlaaGreatDoor
open Go Go.RowKit Go.Sort Go.Shelf
set_option maxRecDepth 100000
set_option linter.unusedVariables false
theorem num_lit1 (w : World) {x : Nat} (h0 : 0 < x) (h1 : x < 1073741824) : Num (w.alloc (.cells #[.int .i64 (x : Nat)] 3)) (.slice (some ⟨w.heap.size, 0, none⟩) 1 1) x := by
  unfold Num
  rw [nd_one h0 h1]
  refine ⟨_, 1, rfl, Nat.le_refl _, by omega, fun i hi => ⟨w.heap.size, 0, rfl, trivial, ?_⟩⟩
  obtain rfl : i = 0 := by simp at hi; omega
  simp
theorem half_up (K m : Nat) : K / 2 ^ m = 2 * (K / 2 ^ (m + 1)) + K / 2 ^ m % 2 := by
  rw [Nat.pow_succ, ← Nat.div_div_eq_div_mul]; omega
theorem pow_lim {A a b : Nat} (h : a ≤ b) (hl : 256 < (nd (A ^ a)).length) : 256 < (nd (A ^ b)).length := by
  rcases Nat.eq_zero_or_pos A with rfl | hA
  · have : (nd (0 ^ a)).length ≤ 1 := by
      rw [nd_len]
      rcases Nat.eq_zero_or_pos a with rfl | ha
      · simp
      · rw [Nat.zero_pow ha]; omega
    omega
  · exact Nat.lt_of_lt_of_le hl (nd_mono (Nat.pow_le_pow_right hA h))
theorem div_pow_le (K m : Nat) : K / 2 ^ m ≤ K := Nat.div_le_self _ _
theorem and1 (n : Nat) : bits .and .i64 ((n : Nat) : Int) 1 = (n : Int) % 2 := by
  have h30 : (BitVec.ofInt 64 1).toNat = 2 ^ 1 - 1 := by decide
  have key : (BitVec.ofInt 64 n &&& BitVec.ofInt 64 1).toNat = ((n : Int) % ((2 ^ 64 : Nat) : Int)).toNat % 2 ^ 1 := by
    rw [BitVec.toNat_and, BitVec.toNat_ofInt, h30, Nat.and_two_pow_sub_one_eq_mod]
  show IntKind.i64.wrap ((BitVec.ofInt 64 n &&& BitVec.ofInt 64 1).toNat : Nat) = (n : Int) % 2
  rw [key, IntKind.wrap_i64]
  omega
def PwRel (w : World) (A K : Nat) (v e i : Value) (wr : World) : Prop :=
  ∃ (j : Nat) (x : Int), i = .int .i64 x ∧ x + 1 = j ∧ j ≤ 64 ∧ Gr w wr ∧
    ((e = .int .i64 0 ∧ Num wr v (A ^ (K / 2 ^ j)) ∧ (nd (A ^ (K / 2 ^ j))).length ≤ 256) ∨ (e = .int .i64 5 ∧ v = .slice none 0 0 ∧ 256 < (nd (A ^ K)).length))
set_option maxHeartbeats 1000000 in
theorem pow_all {A K : Nat} (va : Value) (w : World) (hA : Num w va A) (lA : (nd A).length ≤ 256) (hK : K ≤ 65536) :
    Calls Tryz.prog 25 #[va, .int .i64 (K : Nat)] w (Res w (A ^ K)) := by
  have HA := Lib.hid hA
  clear hA
  have k0 : (0 : Int) ≤ (K : Int) := by omega
  have k1 : (K : Int) ≤ 65536 := by omega
  have hlen := fun w => Tryz.bits_Len (K : Int) w (by omega) (by omega)
  rw [Int.toNat_natCast] at hlen
  obtain ⟨hL0, hL1⟩ : Lib.bitLen K ≤ 64 ∧ K < 2 ^ Lib.bitLen K := by
    rcases Nat.eq_zero_or_pos K with h | h
    · subst h; exact ⟨by decide, by decide⟩
    · obtain ⟨-, b, c⟩ := Lib.bitLenAux_bounds 64 K (by omega) (by omega)
      refine ⟨?_, c⟩
      unfold Lib.bitLen
      apply Decidable.byContradiction; intro hc
      have : 2 ^ 64 ≤ 2 ^ (Lib.bitLenAux 64 K - 1) := Nat.pow_le_pow_right (by omega) (by omega)
      omega
  generalize Lib.bitLen K = L at *
  have HLEN := Lib.hid hlen
  have HL1 := Lib.hid hL1
  have l0 : (0 : Int) ≤ (L : Int) := by omega
  have l1 : (L : Int) ≤ 64 := by omega
  have HN1 := Lib.hid (num_lit1 w (x := 1) (by omega) (by omega))
  clear hlen hL1
  go_enter Tryz.func25, Tryz.ntmps25
  go_wp2_with fail
  refine (HLEN.out _).mono ?_
  rintro e w' ⟨rfl, rfl⟩
  go_wp2_with fail
  go_loopw [6, 7, 8] (fun v e i wr => PwRel w A K v e i wr) (fun _ _ i _ => (intOf i + 1).toNat)
  case atStart => exact ⟨L, _, rfl, by omega, hL0, Gr.alloc (Gr.refl _) _, .inl ⟨rfl, by rw [Nat.div_eq_of_lt HL1.out, Nat.pow_zero]; exact HN1.out, by rw [Nat.div_eq_of_lt HL1.out, Nat.pow_zero, nd_one (by omega) (by omega)]; simp⟩⟩
  case round =>
    obtain ⟨j, x, rfl, hx, hj, hg, ⟨rfl, hn, hl⟩ | ⟨rfl, rfl, hl⟩⟩ := hrel
    · have HN := Lib.hid hn
      have HLN := Lib.hid hl
      clear hn hl
      rcases j with _ | m
      · obtain rfl : x = -1 := by omega
        have d0 : decide ((0 : Int) ≤ -1) = false := by decide
        have hn := HN.out
        have hl := HLN.out
        rw [Nat.pow_zero, Nat.div_one] at hn hl
        have HN := Lib.hid hn
        have HLN := Lib.hid hl
        clear hn hl
        go_wp2_with fail
        go_ret2
        exact ⟨_, _, rfl, .inl ⟨HLN.out, rfl, HN.out⟩, hg⟩
      · obtain rfl : x = (m : Int) := by omega
        have m0 : (0 : Int) ≤ (m : Int) := by omega
        have m1 : (m : Int) ≤ 63 := by omega
        have d0 : decide ((0 : Int) ≤ (m : Int)) = true := by simp
        obtain ⟨q, hq⟩ : ∃ q, q = K / 2 ^ (m + 1) := ⟨_, rfl⟩
        rw [← hq] at HN HLN
        have hm := mul_any _ _ _ HN.out HN.out HLN.out HLN.out
        have HM := Lib.hid hm
        have HQ := Lib.hid hq
        have hup := half_up K m
        rw [← hq] at hup
        have HUP := Lib.hid hup
        have hcast : (K : Int) / 2 ^ m = ((K / 2 ^ m : Nat) : Int) := by simp
        have hand : bits .and .i64 ((K : Int) / 2 ^ m) 1 = ((K / 2 ^ m % 2 : Nat) : Int) := by rw [hcast, and1]; simp
        clear hm hq hup hcast
        rcases Nat.mod_two_eq_zero_or_one (K / 2 ^ m) with hb | hb
        · rw [hb] at hand
          have HB := Lib.hid hb
          clear hb
          go_wp2_with fail
          refine HM.out.mono ?_
          rintro e w2 ⟨v2, er, rfl, hres, hg2⟩
          have hpe : A ^ q * A ^ q = A ^ (K / 2 ^ m) := by rw [HUP.out, HB.out, Nat.add_zero, ← Nat.pow_add]; congr 1; omega
          rw [hpe] at hres
          clear hpe
          rcases hres with ⟨hl2, rfl, hn2⟩ | ⟨hl2, rfl, rfl⟩
          · have HN2 := Lib.hid hn2
            have HL2 := Lib.hid hl2
            clear hn2 hl2
            go_wp2_with fail
            refine ⟨⟨m, _, rfl, by omega, by omega, hg.step hg2, .inl ⟨rfl, HN2.out, HL2.out⟩⟩, by simp only [intOf]; omega⟩
          · have HL2 := Lib.hid hl2
            clear hl2
            go_wp2_with fail
            refine ⟨⟨m, _, rfl, by omega, by omega, hg.step hg2, .inr ⟨rfl, rfl, pow_lim (div_pow_le K m) HL2.out⟩⟩, by simp only [intOf]; omega⟩
        · rw [hb] at hand
          have HB := Lib.hid hb
          clear hb
          go_wp2_with fail
          refine HM.out.mono ?_
          rintro e w2 ⟨v2, er, rfl, hres, hg2⟩
          have hpe : A ^ q * A ^ q * A = A ^ (K / 2 ^ m) := by rw [HUP.out, HB.out, ← Nat.pow_add, ← Nat.pow_succ]; congr 1; omega
          have HPE := Lib.hid hpe
          clear hpe
          rcases hres with ⟨hl2, rfl, hn2⟩ | ⟨hl2, rfl, rfl⟩
          · have hm2 := mul_any _ _ _ hn2 (HA.out.gr (hg.step hg2)) hl2 lA
            have HM2 := Lib.hid hm2
            clear hn2 hl2 hm2
            go_wp2_with fail
            refine HM2.out.mono ?_
            rintro e w3 ⟨v3, er, rfl, hres, hg3⟩
            rw [HPE.out] at hres
            rcases hres with ⟨hl3, rfl, hn3⟩ | ⟨hl3, rfl, rfl⟩
            · have HN3 := Lib.hid hn3
              have HL3 := Lib.hid hl3
              clear hn3 hl3
              go_wp2_with fail
              refine ⟨⟨m, _, rfl, by omega, by omega, (hg.step hg2).step hg3, .inl ⟨rfl, HN3.out, HL3.out⟩⟩, by simp only [intOf]; omega⟩
            · have HL3 := Lib.hid hl3
              clear hl3
              go_wp2_with fail
              refine ⟨⟨m, _, rfl, by omega, by omega, (hg.step hg2).step hg3, .inr ⟨rfl, rfl, pow_lim (div_pow_le K m) HL3.out⟩⟩, by simp only [intOf]; omega⟩
          · have HL2 := Lib.hid hl2
            clear hl2
            go_wp2_with fail
            have hq2 : 256 < (nd (A ^ (q + q))).length := by rw [Nat.pow_add]; exact HL2.out
            have hqk : q + q ≤ K := by have h1 := HUP.out; have h2 := HB.out; have h3 := div_pow_le K m; omega
            exact ⟨⟨m, _, rfl, by omega, by omega, hg.step hg2, .inr ⟨rfl, rfl, pow_lim hqk hq2⟩⟩, by simp only [intOf]; omega⟩
    · have HLN := Lib.hid hl
      clear hl
      by_cases hx0 : x < 0
      · go_wp2_with fail
        go_ret2
        exact ⟨_, _, rfl, .inr ⟨HLN.out, rfl, rfl⟩, hg⟩
      · have d0 : decide ((0 : Int) ≤ x) = true := by simp; omega
        go_wp2_with fail
        go_ret2
        exact ⟨_, _, rfl, .inr ⟨HLN.out, rfl, rfl⟩, hg⟩
/-- a power, or ErrLimit, or ErrRange -/
def PwPost (w : World) (A : Nat) (k : Int) (e : Ending) (w' : World) : Prop := if 0 ≤ k ∧ k ≤ 65536 then Res w (A ^ k.toNat) e w' else (e = .returned (.tuple #[.slice none 0 0, .int .i64 1]) ∧ Gr w w')
theorem pow_out (a : Option Addr) (n c : Nat) (k : Int) (w : World) (h : ¬ (0 ≤ k ∧ k ≤ 65536)) :
    Calls Tryz.prog 25 #[.slice a n c, .int .i64 k] w fun e w' => e = .returned (.tuple #[.slice none 0 0, .int .i64 1]) ∧ w = w' := by
  by_cases h0 : k < 0
  · have d0 : decide (k < 0) = true := by simpa using h0
    clear h
    go_enter Tryz.func25, Tryz.ntmps25
    go_wp2_with fail
    go_ret2
    exact ⟨rfl, rfl⟩
  · have d0 : decide (k < 0) = false := by simpa using h0
    have d1 : decide (65536 < k) = true := by rw [decide_eq_true_eq]; omega
    clear h
    go_enter Tryz.func25, Tryz.ntmps25
    go_wp2_with fail
    go_ret2
    exact ⟨rfl, rfl⟩
theorem pow_int {A : Nat} (va : Value) (k : Int) (w : World) (hA : Num w va A) (lA : (nd A).length ≤ 256) :
    Calls Tryz.prog 25 #[va, .int .i64 k] w (PwPost w A k) := by
  by_cases h : 0 ≤ k ∧ k ≤ 65536
  · obtain ⟨K, rfl⟩ := Int.eq_ofNat_of_zero_le h.1
    refine (pow_all (K := K) va w hA lA (by omega)).mono fun e w' hr => ?_
    unfold PwPost
    rw [if_pos h]
    exact hr
  · obtain ⟨a, c, rfl⟩ := num_slice hA
    refine (pow_out a _ c k w h).mono fun e w' hr => ?_
    unfold PwPost
    rw [if_neg h]
    exact ⟨hr.1, by rw [hr.2]; exact Gr.refl _⟩
theorem rpow_out (a : Option Addr) (n c : Nat) (k : Int) (w : World) (h : ¬ (0 ≤ k ∧ k ≤ 65536)) :
    Calls Tryz.prog 26 #[.slice a n c, .int .i64 k] w fun e w' => e = .returned (.tuple #[.slice none 0 0, .int .i64 1]) ∧ w = w' := by
  by_cases h0 : k < 0
  · have d0 : decide (k < 0) = true := by simpa using h0
    clear h
    go_enter Tryz.func26, Tryz.ntmps26
    go_wp2_with fail
    go_ret2
    exact ⟨rfl, rfl⟩
  · have d0 : decide (k < 0) = false := by simpa using h0
    have d1 : decide (65536 < k) = true := by rw [decide_eq_true_eq]; omega
    clear h
    go_enter Tryz.func26, Tryz.ntmps26
    go_wp2_with fail
    go_ret2
    exact ⟨rfl, rfl⟩
/-- the loop of the document's Pow -/
def RpRel (w : World) (A K : Nat) (v s : Value) (wr : World) : Prop := ∃ i : Nat, s = .int .i64 i ∧ i ≤ K ∧ Num wr v (A ^ i) ∧ (nd (A ^ i)).length ≤ 256 ∧ Gr w wr
set_option maxHeartbeats 1000000 in
theorem rpow_all {A K : Nat} (va : Value) (w : World) (hA : Num w va A) (lA : (nd A).length ≤ 256) (hK : K ≤ 65536) :
    Calls Tryz.prog 26 #[va, .int .i64 (K : Nat)] w (Res w (A ^ K)) := by
  have h0 := hA
  obtain ⟨aa, ca, rfl⟩ := num_slice h0
  have HA := Lib.hid hA
  clear hA h0
  have k0 : (0 : Int) ≤ (K : Int) := by omega
  have k1 : (K : Int) ≤ 65536 := by omega
  by_cases hK0 : K = 0
  · subst hK0
    have hg : Gr w w := Gr.refl w
    obtain ⟨K, hKK⟩ : ∃ K, K = 0 := ⟨_, rfl⟩
    rw [← hKK]
    have d0 : decide ((0 : Int) < (K : Int)) = false := by rw [decide_eq_false_iff_not]; omega
    have d0b : decide (0 < K) = false := by rw [decide_eq_false_iff_not]; omega
    have k2 : (K : Int) ≤ 65536 := by omega
    clear hKK k0 k1 hK
    go_enter Tryz.func26, Tryz.ntmps26
    have HN1 := Lib.hid (num_lit1 w (x := 1) (by omega) (by omega))
    have HGW := Lib.hid hg
    clear hg
    go_wp2_with fail
    go_loopw [6, 7] (fun v s wr => RpRel w A K v s wr) (fun _ s _ => K - (intOf s).toNat)
    case atStart => exact ⟨0, rfl, Nat.zero_le _, by rw [Nat.pow_zero]; exact HN1.out, by rw [Nat.pow_zero, nd_one (by omega) (by omega)]; simp, HGW.out.alloc _⟩
    case round =>
      obtain ⟨i, rfl, hi, hn, hl, hg⟩ := hrel
      by_cases hlt : i < K
      · have HT := Lib.hid (times_any _ _ _ hn (HA.out.gr hg) (by omega) (by omega))
        rw [← Nat.pow_succ] at HT
        have i1 : (i : Int) < (K : Int) := by omega
        clear hn hl
        go_wp2_with fail
        refine HT.out.mono ?_
        rintro e w2 ⟨v2, rfl, hn2, hg2⟩
        obtain ⟨a2, c2, rfl⟩ := num_slice hn2
        have HN2 := Lib.hid hn2
        have HG2 := Lib.hid (hg.step hg2)
        clear hn2 hg2 HT
        by_cases hl2 : (nd (A ^ (i + 1))).length ≤ 256
        · have d2 : decide ((256 : Int) < ((nd (A ^ (i + 1))).length : Int)) = false := by rw [decide_eq_false_iff_not]; omega
          have HL2 := Lib.hid hl2
          clear hl2
          go_wp2_with fail
          exact ⟨⟨i + 1, by go_num, by omega, HN2.out, HL2.out, HG2.out⟩, by simp only [intOf]; omega⟩
        · have d2 : decide ((256 : Int) < ((nd (A ^ (i + 1))).length : Int)) = true := by rw [decide_eq_true_eq]; omega
          have HL2 := Lib.hid (pow_lim (b := K) (show i + 1 ≤ K by omega) (show 256 < (nd (A ^ (i + 1))).length by omega))
          clear hl2
          go_wp2_with fail
          go_ret2
          exact ⟨_, _, rfl, .inr ⟨HL2.out, rfl, rfl⟩, HG2.out⟩
      · obtain rfl : i = K := by omega
        have HN := Lib.hid hn
        have HLN := Lib.hid hl
        clear hn hl
        go_wp2_with fail
        go_ret2
        exact ⟨_, _, rfl, .inl ⟨HLN.out, rfl, HN.out⟩, hg⟩
  have d0 : decide ((0 : Int) < (K : Int)) = true := by rw [decide_eq_true_eq]; omega
  have d0b : decide (0 < K) = true := by rw [decide_eq_true_eq]; omega
  by_cases hA0 : A = 0
  · have HZ : Hid (A ^ K = A) := Lib.hid (by rw [hA0]; exact Nat.zero_pow (by omega))
    have HL0 : Hid ((nd (A ^ K)).length ≤ 256) := Lib.hid (by rw [HZ.out]; exact lA)
    have d1 : (((nd A).length : Int) == 0) = true := by rw [hA0, nd_zero]; rfl
    clear hA0
    go_enter Tryz.func26, Tryz.ntmps26
    go_wp2_with fail
    go_ret2
    exact ⟨_, _, rfl, .inl ⟨HL0.out, rfl, by rw [HZ.out]; exact HA.out⟩, Gr.refl _⟩
  have d1 : (((nd A).length : Int) == 0) = false := by rw [beq_eq_false_iff_ne, nd_pos (by omega), List.length_cons]; omega
  have HN1' := Lib.hid (num_lit1 w (x := 1) (by omega) (by omega))
  have l1 : (nd 1).length ≤ 1 := by rw [nd_one (by omega) (by omega)]; simp
  by_cases hA1 : A = 1
  · have HZ : Hid (A ^ K = A) := Lib.hid (by rw [hA1]; exact Nat.one_pow K)
    have HL0 : Hid ((nd (A ^ K)).length ≤ 256) := Lib.hid (by rw [HZ.out]; exact lA)
    have HC : Hid (ncmp A 1 = 0) := Lib.hid (by rw [hA1]; exact ncmp_eq 1)
    clear hA0 hA1
    go_enter Tryz.func26, Tryz.ntmps26
    go_wp2_with fail
    refine (rcmp_nat _ _ _ (HA.out.gr (Gr.alloc (Gr.refl _) _)) HN1'.out (by omega) (by omega)).mono ?_
    rintro e w1 ⟨rfl, hg⟩
    rw [HC.out]
    go_wp2_with fail
    go_ret2
    exact ⟨_, _, rfl, .inl ⟨HL0.out, rfl, by rw [HZ.out]; exact HA.out.gr ((Gr.alloc (Gr.refl _) _).step hg)⟩, (Gr.alloc (Gr.refl _) _).step hg⟩
  · have HC : Hid ((ncmp A 1 == 0) = false) := Lib.hid (by rw [ncmp_gt (show 1 < A by omega)]; rfl)
    clear hA0 hA1
    go_enter Tryz.func26, Tryz.ntmps26
    go_wp2_with fail
    refine (rcmp_nat _ _ _ (HA.out.gr (Gr.alloc (Gr.refl _) _)) HN1'.out (by omega) (by omega)).mono ?_
    rintro e w1 ⟨rfl, hg1⟩
    have hc := HC.out
    generalize ncmp A 1 = c at *
    have hg := (Gr.alloc (Gr.refl w) (.cells #[.int .i64 1] 3)).step hg1
    clear hg1 HC
    have HN1 := Lib.hid (num_lit1 w1 (x := 1) (by omega) (by omega))
    have HGW := Lib.hid hg
    clear hg
    go_wp2_with fail
    go_loopw [6, 7] (fun v s wr => RpRel w A K v s wr) (fun _ s _ => K - (intOf s).toNat)
    case atStart => exact ⟨0, rfl, Nat.zero_le _, by rw [Nat.pow_zero]; exact HN1.out, by rw [Nat.pow_zero, nd_one (by omega) (by omega)]; simp, HGW.out.alloc _⟩
    case round =>
      obtain ⟨i, rfl, hi, hn, hl, hg⟩ := hrel
      by_cases hlt : i < K
      · have HT := Lib.hid (times_any _ _ _ hn (HA.out.gr hg) (by omega) (by omega))
        rw [← Nat.pow_succ] at HT
        have i1 : (i : Int) < (K : Int) := by omega
        clear hn hl
        go_wp2_with fail
        refine HT.out.mono ?_
        rintro e w2 ⟨v2, rfl, hn2, hg2⟩
        obtain ⟨a2, c2, rfl⟩ := num_slice hn2
        have HN2 := Lib.hid hn2
        have HG2 := Lib.hid (hg.step hg2)
        clear hn2 hg2 HT
        by_cases hl2 : (nd (A ^ (i + 1))).length ≤ 256
        · have d2 : decide ((256 : Int) < ((nd (A ^ (i + 1))).length : Int)) = false := by rw [decide_eq_false_iff_not]; omega
          have HL2 := Lib.hid hl2
          clear hl2
          go_wp2_with fail
          exact ⟨⟨i + 1, by go_num, by omega, HN2.out, HL2.out, HG2.out⟩, by simp only [intOf]; omega⟩
        · have d2 : decide ((256 : Int) < ((nd (A ^ (i + 1))).length : Int)) = true := by rw [decide_eq_true_eq]; omega
          have HL2 := Lib.hid (pow_lim (b := K) (show i + 1 ≤ K by omega) (show 256 < (nd (A ^ (i + 1))).length by omega))
          clear hl2
          go_wp2_with fail
          go_ret2
          exact ⟨_, _, rfl, .inr ⟨HL2.out, rfl, rfl⟩, HG2.out⟩
      · obtain rfl : i = K := by omega
        have HN := Lib.hid hn
        have HLN := Lib.hid hl
        clear hn hl
        go_wp2_with fail
        go_ret2
        exact ⟨_, _, rfl, .inl ⟨HLN.out, rfl, HN.out⟩, hg⟩
theorem rpow_int {A : Nat} (va : Value) (k : Int) (w : World) (hA : Num w va A) (lA : (nd A).length ≤ 256) :
    Calls Tryz.prog 26 #[va, .int .i64 k] w (PwPost w A k) := by
  by_cases h : 0 ≤ k ∧ k ≤ 65536
  · obtain ⟨K, rfl⟩ := Int.eq_ofNat_of_zero_le h.1
    refine (rpow_all (K := K) va w hA lA (by omega)).mono fun e w' hr => ?_
    unfold PwPost
    rw [if_pos h]
    exact hr
  · obtain ⟨a, c, rfl⟩ := num_slice hA
    refine (rpow_out a _ c k w h).mono fun e w' hr => ?_
    unfold PwPost
    rw [if_neg h]
    exact ⟨hr.1, by rw [hr.2]; exact Gr.refl _⟩
end Go.Proofs.YtikkobmccagdlaaGreatDoor
/- Choose at any ints, both sides. -/
namespace Go.Proofs.YtikkobmccagdlaaGreatDoor
open Go Go.RowKit Go.Sort
set_option maxRecDepth 100000
set_option linter.unusedVariables false
/-- the number of subsets, or ErrRange -/
def CsPost (w : World) (n k : Int) (e : Ending) (w' : World) : Prop := if (0 ≤ n ∧ n ≤ 1024) ∧ 0 ≤ k ∧ k ≤ 1024 then ChPost w (bin n.toNat k.toNat) e w' else (e = .returned (.tuple #[.slice none 0 0, .int .i64 1]) ∧ Gr w w')
theorem choose_out (n k : Int) (w : World) (h : ¬ ((0 ≤ n ∧ n ≤ 1024) ∧ 0 ≤ k ∧ k ≤ 1024)) :
    Calls Tryz.prog 27 #[.int .i64 n, .int .i64 k] w fun e w' => e = .returned (.tuple #[.slice none 0 0, .int .i64 1]) ∧ w = w' := by
  by_cases h0 : n < 0
  · have d0 : decide (n < 0) = true := by simpa using h0
    clear h
    go_enter Tryz.func27, Tryz.ntmps27
    go_wp2_with fail
    go_ret2
    exact ⟨rfl, rfl⟩
  have d0 : decide (n < 0) = false := by simpa using h0
  by_cases h1 : 1024 < n
  · have d1 : decide (1024 < n) = true := by simpa using h1
    clear h
    go_enter Tryz.func27, Tryz.ntmps27
    go_wp2_with fail
    go_ret2
    exact ⟨rfl, rfl⟩
  have d1 : decide (1024 < n) = false := by simpa using h1
  by_cases h2 : k < 0
  · have d2 : decide (k < 0) = true := by simpa using h2
    clear h
    go_enter Tryz.func27, Tryz.ntmps27
    go_wp2_with fail
    go_ret2
    exact ⟨rfl, rfl⟩
  have d2 : decide (k < 0) = false := by simpa using h2
  have d3 : decide (1024 < k) = true := by rw [decide_eq_true_eq]; omega
  clear h
  go_enter Tryz.func27, Tryz.ntmps27
  go_wp2_with fail
  go_ret2
  exact ⟨rfl, rfl⟩
theorem rchoose_out (n k : Int) (w : World) (h : ¬ ((0 ≤ n ∧ n ≤ 1024) ∧ 0 ≤ k ∧ k ≤ 1024)) :
    Calls Tryz.prog 28 #[.int .i64 n, .int .i64 k] w fun e w' => e = .returned (.tuple #[.slice none 0 0, .int .i64 1]) ∧ w = w' := by
  by_cases h0 : n < 0
  · have d0 : decide (n < 0) = true := by simpa using h0
    clear h
    go_enter Tryz.func28, Tryz.ntmps28
    go_wp2_with fail
    go_ret2
    exact ⟨rfl, rfl⟩
  have d0 : decide (n < 0) = false := by simpa using h0
  by_cases h1 : 1024 < n
  · have d1 : decide (1024 < n) = true := by simpa using h1
    clear h
    go_enter Tryz.func28, Tryz.ntmps28
    go_wp2_with fail
    go_ret2
    exact ⟨rfl, rfl⟩
  have d1 : decide (1024 < n) = false := by simpa using h1
  by_cases h2 : k < 0
  · have d2 : decide (k < 0) = true := by simpa using h2
    clear h
    go_enter Tryz.func28, Tryz.ntmps28
    go_wp2_with fail
    go_ret2
    exact ⟨rfl, rfl⟩
  have d2 : decide (k < 0) = false := by simpa using h2
  have d3 : decide (1024 < k) = true := by rw [decide_eq_true_eq]; omega
  clear h
  go_enter Tryz.func28, Tryz.ntmps28
  go_wp2_with fail
  go_ret2
  exact ⟨rfl, rfl⟩
theorem bin_div {n i : Nat} (h : i ≤ n) : bin n i * (n - i) / (i + 1) = bin n (i + 1) := by
  rw [← bin_mul n i h, Nat.mul_div_cancel _ (by omega)]
set_option maxHeartbeats 1000000 in
theorem rchoose_all (n k : Nat) (w : World) (hn1 : n ≤ 1024) (hk1 : k ≤ 1024) :
    Calls Tryz.prog 28 #[.int .i64 n, .int .i64 k] w (ChPost w (bin n k)) := by
  have n0 : (0 : Int) ≤ (n : Int) := by omega
  have n1 : (n : Int) ≤ 1024 := by omega
  have k0 : (0 : Int) ≤ (k : Int) := by omega
  have k1 : (k : Int) ≤ 1024 := by omega
  by_cases hkn : n < k
  · have d : decide ((n : Int) < (k : Int)) = true := by rw [decide_eq_true_eq]; omega
    have d' : decide (n < k) = true := by simpa using hkn
    go_enter Tryz.func28, Tryz.ntmps28
    go_wp2_with fail
    go_ret2
    exact ⟨_, rfl, by rw [bin_gt hkn]; exact Num.nil _, Gr.refl _⟩
  · have d : decide ((n : Int) < (k : Int)) = false := by rw [decide_eq_false_iff_not]; omega
    have d' : decide (n < k) = false := by simpa using hkn
    have HL1 := Lib.hid (num_lit1 w (x := 1) (by omega) (by omega))
    go_enter Tryz.func28, Tryz.ntmps28
    go_wp2_with fail
    go_loopw [7, 6] (fun s v wr => ChRel w n k s v wr) (fun s _ _ => k - (intOf s).toNat)
    case atStart => exact ⟨0, rfl, Nat.zero_le _, by rw [bin_zero]; exact HL1.out, Gr.alloc (Gr.refl _) _⟩
    case round =>
      obtain ⟨i, rfl, hi, hn, hg⟩ := hrel
      have HN := Lib.hid hn
      clear hn
      by_cases hlt : i < k
      · have hlen := bin_len (n := n) i hn1
        have e1 : (n : Int) - (i : Int) = ((n - i : Nat) : Int) := by omega
        have e2 : (i : Int) + 1 = ((i + 1 : Nat) : Int) := by omega
        obtain ⟨p, hp⟩ : ∃ p, p = n - i := ⟨_, rfl⟩
        obtain ⟨q, hq⟩ : ∃ q, q = i + 1 := ⟨_, rfl⟩
        have HD := Lib.hid (bin_div (n := n) (i := i) (by omega))
        rw [← hp] at e1 HD
        rw [← hq] at e2 HD
        have hp0 : 0 < p := by omega
        have hp1 : p < 1073741824 := by omega
        have hq0 : 0 < q := by omega
        have hq1 : q < 1073741824 := by omega
        have HQ := Lib.hid hq
        have i1 : (i : Int) < (k : Int) := by omega
        have lp : (nd p).length ≤ 1 := by rw [nd_one hp0 hp1]; simp
        have lq : (nd q).length ≤ 1 := by rw [nd_one hq0 hq1]; simp
        have hlm := nd_mul_len hlen lp
        have HP1 := Lib.hid (num_lit1 wr (x := p) hp0 hp1)
        have HT := Lib.hid (times_any _ _ _ (HN.out.gr (Gr.alloc (Gr.refl wr) (.cells #[.int .i64 (p : Nat)] 3))) HP1.out (by omega) (by omega))
        have HGA := Lib.hid (hg.alloc (.cells #[.int .i64 (p : Nat)] 3))
        clear hg hp hq
        go_wp2_with fail
        refine HT.out.mono ?_
        rintro e w2 ⟨v2, rfl, hn2, hg2⟩
        obtain ⟨a2, c2, rfl⟩ := num_slice hn2
        have HQ1 := Lib.hid (num_lit1 w2 (x := q) hq0 hq1)
        have HS := Lib.hid (split_any _ _ _ (hn2.gr (Gr.alloc (Gr.refl w2) (.cells #[.int .i64 (q : Nat)] 3))) HQ1.out hq0 (by omega) (by omega))
        have HG2 := Lib.hid ((HGA.out.step hg2).alloc (.cells #[.int .i64 (q : Nat)] 3))
        clear hn2 hg2 HT HP1 HGA HN
        go_wp2_with fail
        refine HS.out.mono ?_
        rintro e w3 ⟨vq, vr, rfl, hqv, hrv, hg3⟩
        rw [HD.out] at hqv
        have HV := Lib.hid hqv.any
        have HG3 := Lib.hid (HG2.out.step hg3)
        clear hqv hrv hg3 HS HG2
        go_wp2_with fail
        go_roundw
        case rel => exact ⟨q, rfl, by omega, HV.out, HG3.out⟩
        case measure => simp only [intOf]; have := HQ.out; omega
      · obtain rfl : i = k := by omega
        go_wp2_with fail
        go_ret2
        exact ⟨_, rfl, HN.out, hg⟩
theorem choose_int (n k : Int) (w : World) :
    Calls Tryz.prog 27 #[.int .i64 n, .int .i64 k] w (CsPost w n k) := by
  by_cases h : (0 ≤ n ∧ n ≤ 1024) ∧ 0 ≤ k ∧ k ≤ 1024
  · obtain ⟨n, rfl⟩ := Int.eq_ofNat_of_zero_le h.1.1
    obtain ⟨k, rfl⟩ := Int.eq_ofNat_of_zero_le h.2.1
    refine (choose_any n k w (by omega) (by omega)).mono fun e w' hr => ?_
    unfold CsPost
    rw [if_pos h]
    exact hr
  · refine (choose_out n k w h).mono fun e w' hr => ?_
    unfold CsPost
    rw [if_neg h]
    exact ⟨hr.1, by rw [hr.2]; exact Gr.refl _⟩
theorem rchoose_int (n k : Int) (w : World) :
    Calls Tryz.prog 28 #[.int .i64 n, .int .i64 k] w (CsPost w n k) := by
  by_cases h : (0 ≤ n ∧ n ≤ 1024) ∧ 0 ≤ k ∧ k ≤ 1024
  · obtain ⟨n, rfl⟩ := Int.eq_ofNat_of_zero_le h.1.1
    obtain ⟨k, rfl⟩ := Int.eq_ofNat_of_zero_le h.2.1
    refine (rchoose_all n k w (by omega) (by omega)).mono fun e w' hr => ?_
    unfold CsPost
    rw [if_pos h]
    exact hr
  · refine (rchoose_out n k w h).mono fun e w' hr => ?_
    unfold CsPost
    rw [if_neg h]
    exact ⟨hr.1, by rw [hr.2]; exact Gr.refl _⟩
end Go.Proofs.YtikkobmccagdlaaGreatDoor
/- The document's Plus over any lists of limbs. -/
namespace Go.Proofs.YtikkobmccagdlaaGreatDoor
open Go Go.RowKit Go.Sort
set_option maxRecDepth 100000
set_option linter.unusedVariables false
def PlRelL (w : World) (la lb : List Nat) (v cv s : Value) (wr : World) : Prop :=
  ∃ (k c : Nat) (l : List Nat), s = .int .i64 k ∧ cv = .int .i64 c ∧ c ≤ 1 ∧ l.length = k ∧ Lim l ∧ nv l + c * 1073741824 ^ k = nv (la.take k) + nv (lb.take k) ∧
    (k ≤ la.length ∨ k ≤ lb.length ∨ c = 0) ∧ Own wr w.heap.size v l ∧ Gr w wr
/-- limbs of the call's own -/
def OneLim (w : World) (N : Nat) (e : Ending) (w' : World) : Prop := ∃ (v : Value) (l : List Nat), e = .returned v ∧ Rd (fun b => w.heap.size ≤ b) w' v l ∧ Lim l ∧ nv l = N ∧ Gr w w'
set_option maxHeartbeats 1000000 in
theorem plus_lim {p q : Nat → Prop} {la lb : List Nat} (va vb : Value) (w : World) (hA : Rd p w va la) (hB : Rd q w vb lb) (hLa : Lim la) (hLb : Lim lb) (lA : la.length ≤ 10000) (lB : lb.length ≤ 10000) :
    Calls Tryz.prog 70 #[va, vb] w (OneLim w (nv la + nv lb)) := by
  have hA0 := hA
  have hB0 := hB
  obtain ⟨aa, acap, rfl, -, -, -⟩ := hA
  obtain ⟨ab, bcap, rfl, -, -, -⟩ := hB
  have hA := Lib.hid hA0
  have hB := Lib.hid hB0
  clear hA0 hB0
  go_enter Tryz.func70, Tryz.ntmps70
  go_wp2_with fail
  go_loopw [5, 6, 7] (fun v cv s wr => PlRelL w la lb v cv s wr) (fun _ _ s _ => la.length + lb.length + 1 - (intOf s).toNat)
  case atStart => exact ⟨0, 0, [], rfl, rfl, by omega, rfl, lim_nil, by simp [nv], .inl (Nat.zero_le _), Own.nil _ _, Gr.refl _⟩
  case round =>
    obtain ⟨k, c, l, rfl, rfl, hc1, hlen, hLl, hv, hk3, hown, hgr⟩ := hrel
    have HV := Lib.hid hv
    clear hv
    by_cases c1 : k < la.length
    · have d1 : decide (k < la.length) = true := by simpa using c1
      have hC : k < la.length ∨ k < lb.length ∨ 0 < c := .inl c1
      have hx := lim_getD hLa k
      have hy := lim_getD hLb k
      have ca := rlimb_any k wr (hA.out.gr hgr)
      have cb := rlimb_any k wr (hB.out.gr hgr)
      have HS := Lib.hid (add_step (x := la.getD k 0) (y := lb.getD k 0) HV.out)
      generalize hxx : la.getD k 0 = x at ca hx HS
      generalize hyy : lb.getD k 0 = y at cb hy HS
      have HXX := Lib.hid hxx
      have HYY := Lib.hid hyy
      have x1 : (x : Int) < 1073741824 := by omega
      have y1 : (y : Int) < 1073741824 := by omega
      have c2 : (c : Int) ≤ 1 := by omega
      obtain ⟨d, hd⟩ : ∃ d : Nat, d = (c + (x + y)) % 1073741824 := ⟨_, rfl⟩
      obtain ⟨q, hq⟩ : ∃ q : Nat, q = (c + (x + y)) / 1073741824 := ⟨_, rfl⟩
      have hd0 : ((x : Int) + (y : Int) + (c : Int)) % 1073741824 = (d : Int) := by omega
      have hq0 : ((x : Int) + (y : Int) + (c : Int)) / 1073741824 = (q : Int) := by omega
      have HD := Lib.hid hd
      have HQ := Lib.hid hq
      have CA := Lib.hid ca
      have CB := Lib.hid cb
      have HK := Lib.hid hlen
      obtain ⟨ti, hi1, hi2, hi3, hi4⟩ := intInfo
      have hown0 := hown
      unfold Own at hown
      have kz : l.length ≤ 1000000 := by have := hlen; have := hk3; omega
      clear hxx hyy hd hq ca cb hlen
      go_wp2_with fail
      refine CA.out.mono ?_
      rintro e w' ⟨rfl, rfl⟩
      go_wp2_with fail
      refine CB.out.mono ?_
      rintro e w' ⟨rfl, rfl⟩
      go_wp2_with (at_builtin; refine wpList_append_own_at _ rfl _ _ 24 rfl w.heap.size 3 ti (.int .i64 0) 1 8 Tryz.underlying24 hi1 hi2 hi3 hi4 rfl (by decide) _ _ _ rfl (hown.alloc _) ⟨wr.heap.size, 0, none⟩ 1 1 [.int .i64 d] rfl rfl (cell_one_new _ _ _) (by simp [Value.oneCell']) (by unfold maxLen; omega) (by omega) (by have := Gr.size hgr; simp; omega) ?_; intro v' w2 hown2 hgrow hnil hloc)
      clear hnil hloc
      refine ⟨⟨k + 1, q, l ++ [d], by go_num, iv hq0, by have := HQ.out; omega, by simp [HK.out], lim_append.2 ⟨hLl, lim_cons.2 ⟨by rw [HD.out]; omega, lim_nil⟩⟩, ?_, ?_, ?_, ?_⟩, ?_⟩
      · have hs := HS.out
        rw [← HD.out, ← HQ.out] at hs
        rw [nv_append, HK.out, take_split', take_split', HXX.out, HYY.out, bp_succ]
        simpa [nv] using hs
      · by_cases e1 : k + 1 ≤ la.length
        · exact .inl e1
        · by_cases e2 : k + 1 ≤ lb.length
          · exact .inr (.inl e2)
          · have h1 := HXX.out
            rw [getD_ge (by omega)] at h1
            have h2 := HYY.out
            rw [getD_ge (by omega)] at h2
            have := HQ.out
            exact .inr (.inr (by omega))
      · unfold Own
        rw [List.length_append, List.map_append]
        exact hown2
      · exact Gr.grown (by repeat' (first | (with_reducible exact Gr.refl _) | (with_reducible assumption) | (with_reducible refine Gr.drewN ?_ _) | (with_reducible refine Gr.drew ?_) | (with_reducible refine Gr.alloc ?_ _) | (with_reducible refine Gr.setCell ?_ ?_ _) | (with_reducible refine Gr.grow ?_ _ _) | (refine Gr.step ?_ (by with_reducible assumption)) | go_size)) hgrow (fun k hk => (hown.lt k hk).1)
      · have := hk3
        simp only [intOf]; omega
    · have d1 : decide (k < la.length) = false := by simpa using c1
      by_cases c2 : k < lb.length
      · have d2 : decide (k < lb.length) = true := by simpa using c2
        have hC : k < la.length ∨ k < lb.length ∨ 0 < c := .inr (.inl c2)
        have hx := lim_getD hLa k
        have hy := lim_getD hLb k
        have ca := rlimb_any k wr (hA.out.gr hgr)
        have cb := rlimb_any k wr (hB.out.gr hgr)
        have HS := Lib.hid (add_step (x := la.getD k 0) (y := lb.getD k 0) HV.out)
        generalize hxx : la.getD k 0 = x at ca hx HS
        generalize hyy : lb.getD k 0 = y at cb hy HS
        have HXX := Lib.hid hxx
        have HYY := Lib.hid hyy
        have x1 : (x : Int) < 1073741824 := by omega
        have y1 : (y : Int) < 1073741824 := by omega
        have c2 : (c : Int) ≤ 1 := by omega
        obtain ⟨d, hd⟩ : ∃ d : Nat, d = (c + (x + y)) % 1073741824 := ⟨_, rfl⟩
        obtain ⟨q, hq⟩ : ∃ q : Nat, q = (c + (x + y)) / 1073741824 := ⟨_, rfl⟩
        have hd0 : ((x : Int) + (y : Int) + (c : Int)) % 1073741824 = (d : Int) := by omega
        have hq0 : ((x : Int) + (y : Int) + (c : Int)) / 1073741824 = (q : Int) := by omega
        have HD := Lib.hid hd
        have HQ := Lib.hid hq
        have CA := Lib.hid ca
        have CB := Lib.hid cb
        have HK := Lib.hid hlen
        obtain ⟨ti, hi1, hi2, hi3, hi4⟩ := intInfo
        have hown0 := hown
        unfold Own at hown
        have kz : l.length ≤ 1000000 := by have := hlen; have := hk3; omega
        clear hxx hyy hd hq ca cb hlen
        go_wp2_with fail
        refine CA.out.mono ?_
        rintro e w' ⟨rfl, rfl⟩
        go_wp2_with fail
        refine CB.out.mono ?_
        rintro e w' ⟨rfl, rfl⟩
        go_wp2_with (at_builtin; refine wpList_append_own_at _ rfl _ _ 24 rfl w.heap.size 3 ti (.int .i64 0) 1 8 Tryz.underlying24 hi1 hi2 hi3 hi4 rfl (by decide) _ _ _ rfl (hown.alloc _) ⟨wr.heap.size, 0, none⟩ 1 1 [.int .i64 d] rfl rfl (cell_one_new _ _ _) (by simp [Value.oneCell']) (by unfold maxLen; omega) (by omega) (by have := Gr.size hgr; simp; omega) ?_; intro v' w2 hown2 hgrow hnil hloc)
        clear hnil hloc
        refine ⟨⟨k + 1, q, l ++ [d], by go_num, iv hq0, by have := HQ.out; omega, by simp [HK.out], lim_append.2 ⟨hLl, lim_cons.2 ⟨by rw [HD.out]; omega, lim_nil⟩⟩, ?_, ?_, ?_, ?_⟩, ?_⟩
        · have hs := HS.out
          rw [← HD.out, ← HQ.out] at hs
          rw [nv_append, HK.out, take_split', take_split', HXX.out, HYY.out, bp_succ]
          simpa [nv] using hs
        · by_cases e1 : k + 1 ≤ la.length
          · exact .inl e1
          · by_cases e2 : k + 1 ≤ lb.length
            · exact .inr (.inl e2)
            · have h1 := HXX.out
              rw [getD_ge (by omega)] at h1
              have h2 := HYY.out
              rw [getD_ge (by omega)] at h2
              have := HQ.out
              exact .inr (.inr (by omega))
        · unfold Own
          rw [List.length_append, List.map_append]
          exact hown2
        · exact Gr.grown (by repeat' (first | (with_reducible exact Gr.refl _) | (with_reducible assumption) | (with_reducible refine Gr.drewN ?_ _) | (with_reducible refine Gr.drew ?_) | (with_reducible refine Gr.alloc ?_ _) | (with_reducible refine Gr.setCell ?_ ?_ _) | (with_reducible refine Gr.grow ?_ _ _) | (refine Gr.step ?_ (by with_reducible assumption)) | go_size)) hgrow (fun k hk => (hown.lt k hk).1)
        · have := hk3
          simp only [intOf]; omega
      · have d2 : decide (k < lb.length) = false := by simpa using c2
        by_cases c3 : 0 < c
        · have hC : k < la.length ∨ k < lb.length ∨ 0 < c := .inr (.inr c3)
          have d3 : decide (0 < c) = true := by simpa using c3
          have hx := lim_getD hLa k
          have hy := lim_getD hLb k
          have ca := rlimb_any k wr (hA.out.gr hgr)
          have cb := rlimb_any k wr (hB.out.gr hgr)
          have HS := Lib.hid (add_step (x := la.getD k 0) (y := lb.getD k 0) HV.out)
          generalize hxx : la.getD k 0 = x at ca hx HS
          generalize hyy : lb.getD k 0 = y at cb hy HS
          have HXX := Lib.hid hxx
          have HYY := Lib.hid hyy
          have x1 : (x : Int) < 1073741824 := by omega
          have y1 : (y : Int) < 1073741824 := by omega
          have c2 : (c : Int) ≤ 1 := by omega
          obtain ⟨d, hd⟩ : ∃ d : Nat, d = (c + (x + y)) % 1073741824 := ⟨_, rfl⟩
          obtain ⟨q, hq⟩ : ∃ q : Nat, q = (c + (x + y)) / 1073741824 := ⟨_, rfl⟩
          have hd0 : ((x : Int) + (y : Int) + (c : Int)) % 1073741824 = (d : Int) := by omega
          have hq0 : ((x : Int) + (y : Int) + (c : Int)) / 1073741824 = (q : Int) := by omega
          have HD := Lib.hid hd
          have HQ := Lib.hid hq
          have CA := Lib.hid ca
          have CB := Lib.hid cb
          have HK := Lib.hid hlen
          obtain ⟨ti, hi1, hi2, hi3, hi4⟩ := intInfo
          have hown0 := hown
          unfold Own at hown
          have kz : l.length ≤ 1000000 := by have := hlen; have := hk3; omega
          clear hxx hyy hd hq ca cb hlen
          go_wp2_with fail
          refine CA.out.mono ?_
          rintro e w' ⟨rfl, rfl⟩
          go_wp2_with fail
          refine CB.out.mono ?_
          rintro e w' ⟨rfl, rfl⟩
          go_wp2_with (at_builtin; refine wpList_append_own_at _ rfl _ _ 24 rfl w.heap.size 3 ti (.int .i64 0) 1 8 Tryz.underlying24 hi1 hi2 hi3 hi4 rfl (by decide) _ _ _ rfl (hown.alloc _) ⟨wr.heap.size, 0, none⟩ 1 1 [.int .i64 d] rfl rfl (cell_one_new _ _ _) (by simp [Value.oneCell']) (by unfold maxLen; omega) (by omega) (by have := Gr.size hgr; simp; omega) ?_; intro v' w2 hown2 hgrow hnil hloc)
          clear hnil hloc
          refine ⟨⟨k + 1, q, l ++ [d], by go_num, iv hq0, by have := HQ.out; omega, by simp [HK.out], lim_append.2 ⟨hLl, lim_cons.2 ⟨by rw [HD.out]; omega, lim_nil⟩⟩, ?_, ?_, ?_, ?_⟩, ?_⟩
          · have hs := HS.out
            rw [← HD.out, ← HQ.out] at hs
            rw [nv_append, HK.out, take_split', take_split', HXX.out, HYY.out, bp_succ]
            simpa [nv] using hs
          · by_cases e1 : k + 1 ≤ la.length
            · exact .inl e1
            · by_cases e2 : k + 1 ≤ lb.length
              · exact .inr (.inl e2)
              · have h1 := HXX.out
                rw [getD_ge (by omega)] at h1
                have h2 := HYY.out
                rw [getD_ge (by omega)] at h2
                have := HQ.out
                exact .inr (.inr (by omega))
          · unfold Own
            rw [List.length_append, List.map_append]
            exact hown2
          · exact Gr.grown (by repeat' (first | (with_reducible exact Gr.refl _) | (with_reducible assumption) | (with_reducible refine Gr.drewN ?_ _) | (with_reducible refine Gr.drew ?_) | (with_reducible refine Gr.alloc ?_ _) | (with_reducible refine Gr.setCell ?_ ?_ _) | (with_reducible refine Gr.grow ?_ _ _) | (refine Gr.step ?_ (by with_reducible assumption)) | go_size)) hgrow (fun k hk => (hown.lt k hk).1)
          · have := hk3
            simp only [intOf]; omega
        · have hc0 : c = 0 := by omega
          have d3 : decide (0 < c) = false := by simpa using c3
          have hn : nv l = nv la + nv lb := by
            have := HV.out
            rw [List.take_of_length_le (by omega), List.take_of_length_le (by omega), hc0] at this
            omega
          have HO := Lib.hid hown.rd
          have HN := Lib.hid hn
          have HLL := Lib.hid hLl
          clear hn hown hlen hc0 c3 c1 c2 hc1 hk3 hLl hLa hLb
          go_wp2_with fail
          go_ret
          exact ⟨_, _, rfl, HO.out, HLL.out, HN.out, hgr⟩
end Go.Proofs.YtikkobmccagdlaaGreatDoor
/- The document's Parse of numbers, at any string. -/
namespace Go.Proofs.YtikkobmccagdlaaGreatDoor
open Go Go.RowKit Go.Sort
set_option maxRecDepth 100000
set_option linter.unusedVariables false
/-- two operations of which either may come first -/
theorem next_two {P : Program} {ops : Array Oper} {Q : Exit → Act → World → Prop} {md : Region.Mode} {S : World → Prop} (i j : Nat) {fuel : Nat} {listed : Array Bool} {a : Act} {w : World} {oi oj : Oper} (hi : ops[i]? = some oi) (hj : ops[j]? = some oj)
    (hr : Region.ready md ops listed = [i, j]) (hwi : Region.wanted oi (yielded ops a.tmps) = true) (hwj : Region.wanted oj (yielded ops a.tmps) = true)
    (h1 : ∀ K : Act → World → Prop, (∀ a w, S w → wpAnyH P md ops Q S fuel (listed.setIfInBounds i true) a w → K a w) → oi.wp P a w K Q)
    (h2 : ∀ K : Act → World → Prop, (∀ a w, S w → wpAnyH P md ops Q S fuel (listed.setIfInBounds j true) a w → K a w) → oj.wp P a w K Q) : wpAnyH P md ops Q S (fuel + 1) listed a w := by
  refine wpAnyH_all hr (by simp) (fun m hm => ?_)
  rcases List.mem_cons.1 hm with rfl | hm
  · unfold wpOp
    simp only [hi, hwi, if_true]
    exact .inl (h1 _ (fun a w hS hw => ⟨hS, hw⟩))
  · rw [List.mem_singleton] at hm
    subst hm
    unfold wpOp
    simp only [hj, hwj, if_true]
    exact .inl (h2 _ (fun a w hS hw => ⟨hS, hw⟩))
theorem rd_lit1 (w : World) (d : Nat) : Rd (fun _ => True) (w.alloc (.cells #[.int .i64 (d : Nat)] 3)) (.slice (some ⟨w.heap.size, 0, none⟩) 1 1) [d] := by
  refine ⟨_, 1, rfl, Nat.le_refl _, by omega, fun i hi => ⟨w.heap.size, 0, rfl, trivial, ?_⟩⟩
  obtain rfl : i = 0 := by simp at hi; omega
  simp
theorem rd_litb (w : World) (d b : Nat) (hb : w.heap.size = b) : Rd (fun _ => True) (w.alloc (.cells #[.int .i64 (d : Nat)] 3)) (.slice (some ⟨b, 0, none⟩) 1 1) [d] := by
  subst hb; exact rd_lit1 w d
theorem num_litb (w : World) (b : Nat) {x : Nat} (h0 : 0 < x) (h1 : x < 1073741824) (hb : w.heap.size = b) : Num (w.alloc (.cells #[.int .i64 (x : Nat)] 3)) (.slice (some ⟨b, 0, none⟩) 1 1) x := by
  subst hb; exact num_lit1 w h0 h1
theorem nval_snoc (l : List UInt8) (c : UInt8) : nval (l ++ [c]) = nval l * 10 + (c.toNat - 48) := by simp [nval]
theorem nval_take {s : ByteArray} {t : Nat} (h : t < s.size) : nval (s.data.toList.take (t + 1)) = nval (s.data.toList.take t) * 10 + (s[t].toNat - 48) := by
  have hsz := Lib.size_eq s
  rw [List.take_succ_eq_append_getElem (by omega), nval_snoc]; rfl
theorem ten_len {l : List UInt8} (h : digs l) {n : Nat} (hn : l.length ≤ n) : (nd (nval l)).length ≤ n := by
  rw [nd_len]
  exact Nat.lt_of_lt_of_le (nval_lt h) (Nat.le_trans (Nat.pow_le_pow_right (by omega) hn) (Nat.pow_le_pow_left (by omega) n))
set_option maxHeartbeats 4000000 in
theorem rparse_ok (s : ByteArray) (w : World) (hs : s.size ≤ 2400) (ht : txt s.data.toList) :
    Calls Tryz.prog 34 #[.string s] w (Res w (nval s.data.toList)) := by
  have hD := Lib.hid (fun w => rdigits_any s w (by omega))
  rw [decide_eq_true ht] at hD
  have hdg := ht.1
  have hsz := Lib.size_eq s
  have HDG := Lib.hid (show ∀ j (hj : j < s.size), 48 ≤ s[j].toNat ∧ s[j].toNat ≤ 57 from fun j hj => by
    have e : s.data.toList[j]'(by omega) = s[j] := rfl
    rw [← e]; exact hdg _ (List.getElem_mem _))
  have HTL := Lib.hid (show ∀ t, t ≤ s.size → (nd (nval (s.data.toList.take t))).length ≤ 2400 from fun t h => ten_len (fun c hc => hdg c (List.mem_of_mem_take hc)) (by rw [List.length_take]; omega))
  have d1 : decide ((2400 : Int) < (s.size : Int)) = false := by rw [decide_eq_false_iff_not]; omega
  have HLEN := Lib.hid hsz
  clear ht hdg hsz
  go_enter Tryz.func34, Tryz.ntmps34
  go_wp2_with fail
  refine (hD.out _).mono ?_
  rintro e w1 ⟨rfl, rfl⟩
  clear hD
  go_wp2_with fail
  go_loopw [4, 5] (fun v i wr => ∃ t : Nat, i = .int .i64 t ∧ t ≤ s.size ∧ Num wr v (nval (s.data.toList.take t)) ∧ Gr w wr) (fun _ i _ => s.size - (intOf i).toNat)
  case atStart => exact ⟨0, rfl, Nat.zero_le _, Num.nil _, Gr.refl _⟩
  case round =>
    obtain ⟨t, rfl, hts, hn, hg⟩ := hrel
    have HN := Lib.hid hn
    have HGR := Lib.hid hg
    by_cases hlt : t < s.size
    · obtain ⟨h48, h57⟩ := HDG.out t hlt
      have HST := Lib.hid (nval_take hlt)
      have HLT := Lib.hid (show (nd (nval (s.data.toList.take t) * 10)).length ≤ 5000 by
        have h1 := HTL.out t hts
        have h2 : (nd 10).length ≤ 1 := by rw [nd_one (by omega) (by omega)]; simp
        have := nd_mul' h1 h2
        omega)
      have HLM := Lib.hid (HTL.out t hts)
      have hD2 := Lib.hid (fun W (g : Gr wr W) (b : Nat) (h : Num W (.slice (some ⟨b, 0, none⟩) 1 1) 10) => times_any _ _ _ (HN.out.gr g) h (by have := HLM.out; omega) (by rw [nd_one (by omega) (by omega)]; simp))
      obtain ⟨av, cv, rfl⟩ := num_slice hn
      have u0 : 48 ≤ (s[t].toNat : Int) := by omega
      have u1 : (s[t].toNat : Int) ≤ 57 := by omega
      obtain ⟨d, hd⟩ : ∃ d, d = s[t].toNat - 48 := ⟨_, rfl⟩
      rw [← hd] at HST
      have HLD := Lib.hid (show Lim [d] from lim_cons.2 ⟨by omega, lim_nil⟩)
      have e0 : (s[t].toNat : Int) - 48 = (d : Int) := by omega
      have d2 : (t : Int) < (s.size : Int) := by omega
      have d10 : (d : Int) < 10 := by omega
      clear hn hg hd h48 h57 HN
      go_wp2_with fail
      have hS : Gr wr wr.drew := Gr.drew (Gr.refl _)
      refine region_plain (Gr wr) (by kernel_rfl) ?_
      refine take_at 0 (some 18) (v := ?v0) rfl rfl (by kernel_rfl) (by kernel_rfl) (by kernel_rfl) (by rfl) ?y0 hS ?t0
      case y0 =>
        intro w' hSw
        go_simp
        (try with_reducible rfl)
      simp only [Act.put, List.setIfInBounds_toArray, List.set_cons_zero, List.set_cons_succ]
      refine take_at 3 (some 21) (v := ?v3) rfl rfl (by kernel_rfl) (by kernel_rfl) (by kernel_rfl) (by rfl) ?y3 hS ?t3
      case y3 =>
        intro w' hSw
        go_simp
        (try with_reducible rfl)
      simp only [Act.put, List.setIfInBounds_toArray, List.set_cons_zero, List.set_cons_succ]
      refine take_at 4 (some 22) (v := ?v4) rfl rfl (by kernel_rfl) (by kernel_rfl) (by kernel_rfl) (by rfl) ?y4 hS ?t4
      case y4 =>
        intro w' hSw
        go_simp
        (try with_reducible rfl)
      simp only [Act.put, List.setIfInBounds_toArray, List.set_cons_zero, List.set_cons_succ]
      refine take_at 5 (some 23) (v := ?v5) rfl rfl (by kernel_rfl) (by kernel_rfl) (by kernel_rfl) (by rfl) ?y5 hS ?t5
      case y5 =>
        intro w' hSw
        go_simp
        (try with_reducible rfl)
      simp only [Act.put, List.setIfInBounds_toArray, List.set_cons_zero, List.set_cons_succ]
      refine take_at 6 (some 24) (v := ?v6) rfl rfl (by kernel_rfl) (by kernel_rfl) (by kernel_rfl) (by rfl) ?y6 hS ?t6
      case y6 =>
        intro w' hSw
        go_simp
        (try with_reducible rfl)
      simp only [Act.put, List.setIfInBounds_toArray, List.set_cons_zero, List.set_cons_succ]
      refine take_at 7 (some 25) (v := ?v7) rfl rfl (by kernel_rfl) (by kernel_rfl) (by kernel_rfl) (by rfl) ?y7 hS ?t7
      case y7 =>
        intro w' hSw
        go_simp
        (try with_reducible rfl)
      simp only [Act.put, List.setIfInBounds_toArray, List.set_cons_zero, List.set_cons_succ]
      rw [show IntKind.u8.wrap (d : Int) = (d : Int) from IntWalk.u8_in _ (by omega), show IntKind.i64.wrap (d : Int) = (d : Int) from IntWalk.i64_in _ (by omega)]
      have HTEN := Lib.hid (num_litb wr.drew wr.heap.size (x := 10) (by omega) (by omega) rfl)
      have HVD0 := Lib.hid (rd_litb wr.drew d wr.heap.size rfl)
      refine next_two 1 8 rfl rfl (by kernel_rfl) (by rfl) (by rfl) (fun K hK => ?_) (fun K hK => ?_)
      · go_simp
        replace hS := Gr.alloc hS (.cells #[.int .i64 10] 3)
        refine hK _ _ hS ?_
        clear hK K
        have HTM := Lib.hid (hD2.out _ hS wr.heap.size HTEN.out)
        have HVD1 := Lib.hid (rd_litb (wr.drew.alloc (.cells #[.int .i64 10] 3)) d (wr.heap.size + 1) (by simp))
        have HTM2 := Lib.hid (hD2.out _ (hS.alloc (.cells #[.int .i64 (d : Nat)] 3)) wr.heap.size (HTEN.out.gr (Gr.alloc (Gr.refl _) _)))
        refine next_two 2 8 rfl rfl (by kernel_rfl) (by rfl) (by rfl) (fun K hK => ?_) (fun K hK => ?_)
        · go_simp
          refine (HTM.out.mono ?_)
          rintro e w2 ⟨vt, rfl, hvt, hg⟩
          obtain ⟨at', ct, rfl⟩ := num_slice hvt
          replace hS := Gr.step hS hg
          have HVT := Lib.hid (hvt.gr (Gr.alloc (Gr.refl _) (.cells #[.int .i64 (d : Nat)] 3)))
          have HVD := Lib.hid (rd_lit1 w2 d)
          refine hK _ _ hS ?_
          clear hK K hvt hg
          refine next_at 8 rfl (by kernel_rfl) (by rfl) (fun K hK => ?_)
          go_simp
          replace hS := Gr.alloc hS (.cells #[.int .i64 (d : Nat)] 3)
          refine hK _ _ hS ?_
          clear hK K
          refine next_at 9 rfl (by kernel_rfl) (by rfl) (fun K hK => ?_)
          go_simp
          refine ((plus_lim _ _ _ HVT.out HVD.out (lim_nd _) HLD.out (by have := HLT.out; omega) (by simp)).mono ?_)
          rintro e wp ⟨vp, lp, rfl, hvp, hlp, hnv, hg⟩
          replace hS := Gr.step hS hg
          obtain ⟨ap, cpp, evp, hlcp, hmp, hcp⟩ := id hvp
          subst evp
          rw [nv_nd] at hnv
          have HVP := Lib.hid hvp
          have HNV := Lib.hid hnv
          have HLP := Lib.hid hlp
          refine hK _ _ hS ?_
          clear hK K hg hvp hlp hnv hcp hlcp hmp HVT HVD
          refine next_at 10 rfl (by kernel_rfl) (by rfl) (fun K hK => ?_)
          go_simp
          refine ((rtrim_any _ HVP.out HLP.out).mono ?_)
          rintro e wq ⟨vq, rfl, hvq, rfl⟩
          have HVQ := Lib.hid (show Num wp vq (nval (s.data.toList.take (t + 1))) by
            have := hvq.any
            rw [HNV.out] at this
            rw [HST.out]
            have e : nv [d] = d := by simp [nv]
            rw [e] at this
            exact this)
          refine hK _ _ hS ?_
          clear hK K hvq HVP HNV HLP
          refine next_at 11 rfl (by kernel_rfl) (by rfl) (fun K hK => ?_)
          go_simp
          refine hK _ _ hS ?_
          clear hK K
          refine wpAnyH_done (by kernel_rfl) ?_ _
          refine qz_normal ?_
          go_wp2_with fail
          exact ⟨⟨t + 1, by go_num, by omega, HVQ.out, HGR.out.step hS⟩, by simp only [intOf]; omega⟩
        · go_simp
          replace hS := Gr.alloc hS (.cells #[.int .i64 (d : Nat)] 3)
          refine hK _ _ hS ?_
          clear hK K
          refine next_at 2 rfl (by kernel_rfl) (by rfl) (fun K hK => ?_)
          go_simp
          refine (HTM2.out.mono ?_)
          rintro e w2 ⟨vt, rfl, hvt, hg⟩
          obtain ⟨at', ct, rfl⟩ := num_slice hvt
          replace hS := Gr.step hS hg
          have HVT := Lib.hid hvt
          have HVD := Lib.hid (HVD1.out.gr hg)
          refine hK _ _ hS ?_
          clear hK K hvt hg
          refine next_at 9 rfl (by kernel_rfl) (by rfl) (fun K hK => ?_)
          go_simp
          refine ((plus_lim _ _ _ HVT.out HVD.out (lim_nd _) HLD.out (by have := HLT.out; omega) (by simp)).mono ?_)
          rintro e wp ⟨vp, lp, rfl, hvp, hlp, hnv, hg⟩
          replace hS := Gr.step hS hg
          obtain ⟨ap, cpp, evp, hlcp, hmp, hcp⟩ := id hvp
          subst evp
          rw [nv_nd] at hnv
          have HVP := Lib.hid hvp
          have HNV := Lib.hid hnv
          have HLP := Lib.hid hlp
          refine hK _ _ hS ?_
          clear hK K hg hvp hlp hnv hcp hlcp hmp HVT HVD
          refine next_at 10 rfl (by kernel_rfl) (by rfl) (fun K hK => ?_)
          go_simp
          refine ((rtrim_any _ HVP.out HLP.out).mono ?_)
          rintro e wq ⟨vq, rfl, hvq, rfl⟩
          have HVQ := Lib.hid (show Num wp vq (nval (s.data.toList.take (t + 1))) by
            have := hvq.any
            rw [HNV.out] at this
            rw [HST.out]
            have e : nv [d] = d := by simp [nv]
            rw [e] at this
            exact this)
          refine hK _ _ hS ?_
          clear hK K hvq HVP HNV HLP
          refine next_at 11 rfl (by kernel_rfl) (by rfl) (fun K hK => ?_)
          go_simp
          refine hK _ _ hS ?_
          clear hK K
          refine wpAnyH_done (by kernel_rfl) ?_ _
          refine qz_normal ?_
          go_wp2_with fail
          exact ⟨⟨t + 1, by go_num, by omega, HVQ.out, HGR.out.step hS⟩, by simp only [intOf]; omega⟩
      · go_simp
        replace hS := Gr.alloc hS (.cells #[.int .i64 (d : Nat)] 3)
        refine hK _ _ hS ?_
        clear hK K
        have HTEN2 := Lib.hid (num_litb (wr.drew.alloc (.cells #[.int .i64 (d : Nat)] 3)) (wr.heap.size + 1) (x := 10) (by omega) (by omega) (by simp))
        refine next_at 1 rfl (by kernel_rfl) (by rfl) (fun K hK => ?_)
        go_simp
        replace hS := Gr.alloc hS (.cells #[.int .i64 10] 3)
        have HTM := Lib.hid (hD2.out _ hS _ HTEN2.out)
        have HVD1 := Lib.hid (HVD0.out.gr (Gr.alloc (Gr.refl _) (.cells #[.int .i64 10] 3)))
        refine hK _ _ hS ?_
        clear hK K
        refine next_at 2 rfl (by kernel_rfl) (by rfl) (fun K hK => ?_)
        go_simp
        refine (HTM.out.mono ?_)
        rintro e w2 ⟨vt, rfl, hvt, hg⟩
        obtain ⟨at', ct, rfl⟩ := num_slice hvt
        replace hS := Gr.step hS hg
        have HVT := Lib.hid hvt
        have HVD := Lib.hid (HVD1.out.gr hg)
        refine hK _ _ hS ?_
        clear hK K hvt hg
        refine next_at 9 rfl (by kernel_rfl) (by rfl) (fun K hK => ?_)
        go_simp
        refine ((plus_lim _ _ _ HVT.out HVD.out (lim_nd _) HLD.out (by have := HLT.out; omega) (by simp)).mono ?_)
        rintro e wp ⟨vp, lp, rfl, hvp, hlp, hnv, hg⟩
        replace hS := Gr.step hS hg
        obtain ⟨ap, cpp, evp, hlcp, hmp, hcp⟩ := id hvp
        subst evp
        rw [nv_nd] at hnv
        have HVP := Lib.hid hvp
        have HNV := Lib.hid hnv
        have HLP := Lib.hid hlp
        refine hK _ _ hS ?_
        clear hK K hg hvp hlp hnv hcp hlcp hmp HVT HVD
        refine next_at 10 rfl (by kernel_rfl) (by rfl) (fun K hK => ?_)
        go_simp
        refine ((rtrim_any _ HVP.out HLP.out).mono ?_)
        rintro e wq ⟨vq, rfl, hvq, rfl⟩
        have HVQ := Lib.hid (show Num wp vq (nval (s.data.toList.take (t + 1))) by
          have := hvq.any
          rw [HNV.out] at this
          rw [HST.out]
          have e : nv [d] = d := by simp [nv]
          rw [e] at this
          exact this)
        refine hK _ _ hS ?_
        clear hK K hvq HVP HNV HLP
        refine next_at 11 rfl (by kernel_rfl) (by rfl) (fun K hK => ?_)
        go_simp
        refine hK _ _ hS ?_
        clear hK K
        refine wpAnyH_done (by kernel_rfl) ?_ _
        refine qz_normal ?_
        go_wp2_with fail
        exact ⟨⟨t + 1, by go_num, by omega, HVQ.out, HGR.out.step hS⟩, by simp only [intOf]; omega⟩
    · obtain rfl : t = s.size := by omega
      have e : s.data.toList.take s.size = s.data.toList := List.take_of_length_le (by have := HLEN.out; omega)
      have hlm := HTL.out s.size (Nat.le_refl _)
      rw [e] at HN hlm
      have HLI := Lib.hid (limited_any _ _ HN.out (by omega))
      clear hn hg hlm
      go_wp2_with fail
      refine HLI.out.mono ?_
      rintro e w2 ⟨v2, er, rfl, hr, hg2⟩
      have HR := Lib.hid hr
      have HG2 := Lib.hid (HGR.out.step hg2)
      clear hr hg2
      go_wp2_with fail
      go_ret2
      exact ⟨_, _, rfl, HR.out, HG2.out⟩
theorem rparse_any (s : ByteArray) (w : World) (hs : s.size ≤ 1000000) :
    Calls Tryz.prog 34 #[.string s] w (PsRes w s.data.toList) := by
  have hsz := Lib.size_eq s
  by_cases ht : txt s.data.toList
  · by_cases h24 : 2400 < s.size
    · have HD := Lib.hid (fun w => rdigits_any s w hs)
      rw [decide_eq_true ht] at HD
      have d1 : decide ((2400 : Int) < (s.size : Int)) = true := by rw [decide_eq_true_eq]; omega
      have HP : Hid (∀ e w', PsRes w s.data.toList e w' ↔ (e = .returned (.tuple #[.slice none 0 0, .int .i64 5]) ∧ Gr w w')) := Lib.hid fun e w' => by unfold PsRes; rw [if_neg (by simpa using ht), if_pos (by omega)]
      clear ht h24 hsz
      go_enter Tryz.func34, Tryz.ntmps34
      go_wp2_with fail
      refine (HD.out _).mono ?_
      rintro e w' ⟨rfl, rfl⟩
      go_wp2_with fail
      go_ret2
      exact (HP.out _ _).2 ⟨rfl, Gr.refl _⟩
    · refine (rparse_ok s w (by omega) ht).mono fun e w' h => ?_
      unfold PsRes
      rw [if_neg (by simpa using ht), if_neg (by omega)]
      exact h
  · have HD := Lib.hid (fun w => rdigits_any s w hs)
    rw [decide_eq_false ht] at HD
    have HP : Hid (∀ e w', PsRes w s.data.toList e w' ↔ (e = .returned (.tuple #[.slice none 0 0, .int .i64 2]) ∧ Gr w w')) := Lib.hid fun e w' => by unfold PsRes; rw [if_pos ht]
    clear ht hsz
    go_enter Tryz.func34, Tryz.ntmps34
    go_wp2_with fail
    refine (HD.out _).mono ?_
    rintro e w' ⟨rfl, rfl⟩
    go_wp2_with fail
    go_ret2
    exact (HP.out _ _).2 ⟨rfl, Gr.refl _⟩
end Go.Proofs.YtikkobmccagdlaaGreatDoor
/- The document's Decimal, at any number. -/
namespace Go.Proofs.YtikkobmccagdlaaGreatDoor
open Go Go.RowKit Go.Sort
set_option maxRecDepth 100000
set_option linter.unusedVariables false
theorem conv_dg (k : Nat) (w : World) : (convert 22 9 (.slice (some ⟨w.heap.size, 0, none⟩) 1 1)).run Tryz.prog (w.alloc (.cells #[.int .u8 (48 + (k : Int) % 10)] 5)) = .ok (.string (str [dgc (k % 10)])) (w.alloc (.cells #[.int .u8 (48 + (k : Int) % 10)] 5)) := by
  have h := run_convert_bytes_arg (P := Tryz.prog) (w.alloc (.cells #[.int .u8 (48 + (k : Int) % 10)] 5)) 22 5 Tryz.underlying22 Tryz.underlying5 w.heap.size 0 1 1 [48 + (k : Int) % 10] rfl (by
    intro i hi
    obtain rfl : i = 0 := by omega
    simp) 9 Tryz.underlying9
  rw [h]
  have e : strOfNums [48 + (k : Int) % 10] = str [dgc (k % 10)] := by
    have : (48 + (k : Int) % 10).toNat = 48 + k % 10 := by omega
    simp [strOfNums, str, this, dgc]
  rw [e]
theorem dd_size {k : Nat} (h : k ≤ 4611686018427387904) : (Lib.decDigits k).length ≤ 19 := by
  rw [Lib.decDigits_length]
  exact (pd_digits 19 k (Nat.lt_of_le_of_lt h (by decide)) (by decide)).1
set_option maxHeartbeats 1000000 in
theorem rdec_all (k : Nat) : k ≤ 4611686018427387904 → ∀ w,
    Calls Tryz.prog 87 #[.int .i64 k] w fun e w' => e = .returned (.string (str (Lib.decDigits k))) ∧ Gr w w' := by
  induction k using Nat.strongRecOn with
  | _ k ih =>
    intro hk w
    have C := conv_dg k w
    by_cases h10 : k < 10
    · have E := dd_one h10
      rw [Nat.mod_eq_of_lt h10, ← E] at C
      have h0 : (0 : Int) ≤ k := by omega
      have h1 : (k : Int) < 10 := by omega
      have h2 : ¬ (10 : Int) ≤ k := by omega
      generalize Lib.decDigits k = d at *
      clear E ih
      go_enter Tryz.func87, Tryz.ntmps87
      go_wp2
      go_ret
      exact ⟨rfl, (by repeat' (first | (with_reducible exact Gr.refl _) | (with_reducible assumption) | (with_reducible refine Gr.drewN ?_ _) | (with_reducible refine Gr.drew ?_) | (with_reducible refine Gr.alloc ?_ _) | (with_reducible refine Gr.setCell ?_ ?_ _) | (with_reducible refine Gr.grow ?_ _ _) | (refine Gr.step ?_ (by with_reducible assumption)) | go_size))⟩
    · have E := dd_step h10
      have IH := Lib.hid (ih (k / 10) (by omega) (by omega))
      have hl := dd_size (k := k / 10) (by omega)
      have S := add_str (Lib.decDigits (k / 10)) [dgc (k % 10)] (by rw [List.length_singleton]; omega)
      rw [← E] at S
      rw [show ((k / 10 : Nat) : Int) = (k : Int) / 10 by omega] at IH
      have h0 : (0 : Int) ≤ k := by omega
      have h1 : (k : Int) ≤ 4611686018427387904 := by omega
      have h2 : (10 : Int) ≤ k := by omega
      generalize Lib.decDigits k = d at *
      generalize Lib.decDigits (k / 10) = d1 at *
      generalize [dgc (k % 10)] = d2 at *
      clear E ih hl
      go_enter Tryz.func87, Tryz.ntmps87
      go_wp2_with (go_at_call 87; refine (IH.out _).mono ?_; rintro e w1 ⟨rfl, hg1⟩)
      go_ret
      exact ⟨rfl, (by repeat' (first | (with_reducible exact Gr.refl _) | (with_reducible assumption) | (with_reducible refine Gr.drewN ?_ _) | (with_reducible refine Gr.drew ?_) | (with_reducible refine Gr.alloc ?_ _) | (with_reducible refine Gr.setCell ?_ ?_ _) | (with_reducible refine Gr.grow ?_ _ _) | (refine Gr.step ?_ (by with_reducible assumption)) | go_size))⟩
end Go.Proofs.YtikkobmccagdlaaGreatDoor
/- The document's Text of numbers. -/
namespace Go.Proofs.YtikkobmccagdlaaGreatDoor
open Go Go.RowKit Go.Sort
set_option maxRecDepth 100000
set_option linter.unusedVariables false
/-- the digits of a number, in two parts -/
theorem dd_split : ∀ k N, 0 < N / 10 ^ k → Lib.decDigits N = Lib.decDigits (N / 10 ^ k) ++ pd k N
  | 0, N, _ => by simp [pd]
  | k + 1, N, h => by
    have e : N / 10 ^ (k + 1) = N / 10 / 10 ^ k := by rw [Nat.div_div_eq_div_mul, Nat.pow_succ, Nat.mul_comm]
    rw [e] at h ⊢
    have hN : ¬ N < 10 := fun hc => by rw [Nat.div_eq_of_lt hc, Nat.zero_div] at h; omega
    rw [dd_step hN, dd_split k (N / 10) h, pd, List.append_assoc]
theorem ten_bound {j N L : Nat} (h : 0 < N / 10 ^ (9 * j)) (hN : (nd N).length ≤ L) : 9 * j ≤ 10 * L := by
  have h1 : 10 ^ (9 * j) ≤ N := by
    rcases Nat.lt_or_ge N (10 ^ (9 * j)) with hc | hc
    · rw [Nat.div_eq_of_lt hc] at h; omega
    · exact hc
  have h2 : N < 1073741824 ^ L := (nd_len N L).1 hN
  have h3 : 1073741824 ^ L ≤ (10 ^ 10) ^ L := Nat.pow_le_pow_left (by decide) L
  rw [← Nat.pow_mul] at h3
  have h4 : 10 ^ (9 * j) < 10 ^ (10 * L) := Nat.lt_of_le_of_lt h1 (Nat.lt_of_lt_of_le h2 h3)
  exact Nat.le_of_lt ((Nat.pow_lt_pow_iff_right (by omega)).1 h4)
theorem add_zero48 (l : List UInt8) (h : l.length ≤ 1000000) (w : World) : (Op.stringOp .add ⟨#[48]⟩ (str l)).run Tryz.prog w = .ok (.string (str (48 :: l))) w :=
  add_str [48] l (by rw [List.length_singleton]; omega) w
theorem nd_first {M : Nat} (h : (nd M).length ≤ 1) : (nd M).getD 0 0 = M := by
  rcases Nat.eq_zero_or_pos M with rfl | h0
  · rw [nd_zero]; rfl
  · have h1 : M < 1073741824 := by have := (nd_len M 1).1 h; omega
    rw [nd_one h0 h1]; rfl
theorem group_next {j N : Nat} : pd 9 (N / 10 ^ (9 * j) % 1000000000) ++ pd (9 * j) N = pd (9 * (j + 1)) N := by
  rw [show (1000000000 : Nat) = 10 ^ 9 from rfl, pd_mod, show 9 * (j + 1) = 9 + 9 * j by omega, pd_add]
theorem div_next {j N : Nat} : N / 10 ^ (9 * j) / 1000000000 = N / 10 ^ (9 * (j + 1)) := by
  rw [Nat.div_div_eq_div_mul, show 9 * (j + 1) = 9 * j + 9 by omega, Nat.pow_add]
theorem nine_step {a b c h r x : Nat} (hv : a = b * 1000000000 + c) (hh : h = (c * 1073741824 + x) / 1000000000) (hr : r = (c * 1073741824 + x) % 1000000000) : x + 1073741824 * a = (h + 1073741824 * b) * 1000000000 + r := by
  have := Nat.mod_add_div (c * 1073741824 + x) 1000000000
  rw [← hh, ← hr] at this
  grind
/-- what the inner loop of Text keeps -/
def T9Rel (N r : Nat) (w1 : World) (cv s : Value) (wr : World) : Prop :=
  ∃ (k c : Nat) (Q : List Nat), s = .int .i64 ((k : Int) - 1) ∧ cv = .int .i64 c ∧ c < 1000000000 ∧ k ≤ (nd N).length ∧ Q.length = (nd N).length ∧ Lim Q ∧ nv ((nd N).drop k) = nv (Q.drop k) * 1000000000 + c ∧ Arr wr r 0 Q ∧ Ex r w1 wr
/-- what the loop of Text keeps -/
def TeRel (w : World) (N L : Nat) (v s : Value) (wr : World) : Prop :=
  ∃ j : Nat, Num wr v (N / 10 ^ (9 * j)) ∧ (nd (N / 10 ^ (9 * j))).length ≤ L ∧ s = .string (str (pd (9 * j) N)) ∧ 9 * j ≤ 10 * L + 9 ∧ Gr w wr
def strLen : Value → Nat
  | .string b => b.size
  | _ => 0
theorem str_cons (c : UInt8) (X : List UInt8) (h : 0 < (str (c :: X)).size) : (str (c :: X)).size = X.length + 1 ∧ ((str (c :: X))[0]'h).toNat = c.toNat ∧ (str (c :: X)).extract 1 (str (c :: X)).size = str X := by
  refine ⟨by rw [str_size, List.length_cons], ?_, ?_⟩
  · have e : (str (c :: X)).data.toList[0]'(by rw [str_data]; simp) = (str (c :: X))[0]'h := rfl
    rw [← e]
    simp [str_data]
  · rw [str_ext, str_data, str_size, List.drop_one, List.tail_cons, List.length_cons, Nat.add_sub_cancel, List.take_length]
set_option maxHeartbeats 4000000 in
theorem rtext_any {N : Nat} (v : Value) (w : World) (h : Num w v N) (lN : (nd N).length ≤ 10000) :
    Calls Tryz.prog 23 #[v] w fun e w' => e = .returned (.string (str (Lib.decDigits N))) ∧ Gr w w' := by
  obtain ⟨L, hL⟩ : ∃ L, L = (nd N).length := ⟨_, rfl⟩
  obtain ⟨aa, ca, rfl⟩ := num_slice h
  have HN := Lib.hid h
  have HL := Lib.hid hL
  have hL1 : L ≤ 10000 := by omega
  clear h hL lN
  go_enter Tryz.func23, Tryz.ntmps23
  go_wp2_with fail
  go_loopw [0, 3] (fun v s wr => TeRel w N L v s wr) (fun _ s _ => 10 * L + 100 - strLen s)
  case atStart => exact ⟨0, by simp; exact HN.out, by simp; rw [HL.out]; exact Nat.le_refl _, rfl, by omega, Gr.refl _⟩
  case round =>
    obtain ⟨j, hn, hl, rfl, hj, hg⟩ := hrel
    obtain ⟨M, hM⟩ : ∃ M, M = N / 10 ^ (9 * j) := ⟨_, rfl⟩
    rw [← hM] at hn hl
    have HM := Lib.hid hM
    have HMN := Lib.hid hn
    obtain ⟨av, cv, rfl⟩ := num_slice hn
    obtain ⟨T, hT⟩ : ∃ T, T = pd (9 * j) N := ⟨_, rfl⟩
    rw [← hT]
    have HT := Lib.hid hT
    have HTL := Lib.hid (show T.length = 9 * j by rw [hT, pd_len])
    clear hM hn hT
    by_cases hlt : 1 < (nd M).length
    · have hM0 : 0 < M := by
        rcases Nat.eq_zero_or_pos M with h0 | h0
        · rw [h0, nd_zero] at hlt; simp at hlt
        · exact h0
      have hj2 : 9 * j ≤ 10 * L := ten_bound (by rw [← HM.out]; exact hM0) (by rw [HL.out]; exact Nat.le_refl _)
      have d1 : decide ((1 : Int) < ((nd M).length : Int)) = true := by rw [decide_eq_true_eq]; omega
      obtain ⟨ti, hi1, hi2, hi3, hi4⟩ := intInfo
      have HG := Lib.hid hg
      clear hg
      go_wp2_with (refine wpList_make_full _ rfl _ _ 24 rfl wr.heap.size 3 ti (.int .i64 0) 1 Tryz.underlying24 hi1 hi2 hi3 .i64 .i64 _ _ ((nd M).length) rfl rfl (by simp) (by simp) (by rw [hi4]; omega) (by unfold maxLen; omega) (Nat.le_refl _) ?_; intro w1 hown1 hgrow1)
      obtain ⟨hn, harr, hlt1, hcap, hcap2⟩ := (own_made hown1).arr
      have hG1 : Gr wr w1 := Gr.grown (Gr.refl _) hgrow1 (fun k hk => by cases hk)
      have HGr := Lib.hid hG1
      obtain ⟨r, hr⟩ : ∃ r, r = wr.heap.size := ⟨_, rfl⟩
      have hA1 : Rd (· ≠ r) w1 (.slice av (nd M).length cv) (nd M) := Rd.gr (HMN.out.off (by omega)) hG1
      rw [← hr] at harr hlt1 ⊢
      have HR := Lib.hid hr
      have HA1 := Lib.hid hA1
      clear hA1 hr hG1 hown1 hgrow1 hn hi1 hi2 hi3 hi4
      go_loopw [5, 6, 7] (fun cv s _ wi => T9Rel M r w1 cv s wi) (fun _ s _ _ => (intOf s + 1).toNat)
      case atStart => exact ⟨(nd M).length, 0, _, rfl, rfl, by omega, Nat.le_refl _, List.length_replicate, lim_replicate _, by rw [List.drop_of_length_le (Nat.le_refl _), List.drop_of_length_le (by rw [List.length_replicate]; exact Nat.le_refl _)]; rfl, harr, Ex.refl _ _⟩
      case round =>
        obtain ⟨k, c, Q, rfl, rfl, hc, hk, hQl, hQL, hQv, hQa, hex⟩ := hrel
        have HQL := Lib.hid hQl
        have HLQ := Lib.hid hQL
        have HQV := Lib.hid hQv
        have HQA := Lib.hid hQa
        clear hQl hQL hQv hQa
        by_cases hk0 : 0 < k
        · obtain ⟨k, rfl⟩ : ∃ j, k = j + 1 := ⟨k - 1, by omega⟩
          have e1 : ((k + 1 : Nat) : Int) - 1 = (k : Int) := by omega
          rw [e1]
          obtain ⟨ba, oa, rfl, hba, hca⟩ := (HA1.out.ex hex).at' (i := k) (by omega)
          obtain ⟨hcl, hfr⟩ := HQA.out k (by rw [HQL.out]; omega)
          rw [Nat.zero_add] at hcl hfr
          have hxl := lim_getD (lim_nd M) k
          have HDN := Lib.hid (nv_drop (l := nd M) (i := k) (by omega))
          generalize hxx : (nd M).getD k 0 = x at *
          obtain ⟨h, hh⟩ : ∃ h : Nat, h = (c * 1073741824 + x) / 1000000000 := ⟨_, rfl⟩
          obtain ⟨r', hr'⟩ : ∃ r' : Nat, r' = (c * 1073741824 + x) % 1000000000 := ⟨_, rfl⟩
          have hh0 : ((c : Int) * 1073741824 + (x : Int)) / 1000000000 = (h : Int) := by omega
          have hr0 : ((c : Int) * 1073741824 + (x : Int)) % 1000000000 = (r' : Int) := by omega
          have HST := Lib.hid (nine_step (h := h) (r := r') (x := x) HQV.out hh hr')
          have HH : Hid (h < 1073741824) := Lib.hid (by omega)
          have x1 : (x : Int) < 1073741824 := by omega
          have c1 : (c : Int) < 1000000000 := by omega
          have k0 : (0 : Int) ≤ (k : Int) := by omega
          have k1 : (k : Int) < ((nd M).length : Int) := by omega
          have HEX := Lib.hid hex
          have hrr : r' < 1000000000 := by omega
          clear hxx hh hr' e1 hex
          go_wp2_with fail
          refine ⟨⟨k, r', Q.set k h, rfl, iv hr0, hrr, by omega, by rw [List.length_set]; exact HQL.out, lim_set HLQ.out _ HH.out, ?_, ?_, HEX.out.trans (Ex.set (Ex.refl _ _) _ _)⟩, ?_⟩
          · rw [HDN.out, drop_set (by rw [HQL.out]; omega), nv]
            exact HST.out
          · have := HQA.out.set (i := k) (by rw [HQL.out]; omega) h
            rwa [Nat.zero_add] at this
          · simp only [intOf]; omega
        · obtain rfl : k = 0 := by omega
          have hrd : Rd (fun _ => True) wr (.slice (some ⟨r, 0, none⟩) (nd M).length (nd M).length) Q := by
            have := HQA.out.rd (p := fun _ => True) (cap := (nd M).length) (by rw [HQL.out]; exact Nat.le_refl _) (by omega) trivial
            rwa [HQL.out] at this
          have hnv : nv Q = M / 1000000000 ∧ c = M % 1000000000 := by
            have h := HQV.out
            rw [List.drop_zero, List.drop_zero, nv_nd] at h
            omega
          have HTR := Lib.hid (rtrim_any wr hrd HLQ.out)
          have HNV := Lib.hid hnv
          have HGI := Lib.hid (Ex.gr (HG.out.step HGr.out) (show w.heap.size ≤ r by have := HR.out; have := Gr.size HG.out; omega) hex)
          have e0 : ((0 : Nat) : Int) - 1 = -1 := by omega
          have HDC := Lib.hid (fun W => rdec_all c (by omega) W)
          have hP := pd_digits 9 c (by simpa using hc) (by omega)
          have hdl := Lib.decDigits_length c
          have HPD := Lib.hid (show pd 9 c = List.replicate (9 - (Lib.decDigits c).length) 48 ++ Lib.decDigits c by rw [hdl]; exact hP.2)
          have hdl9 : (Lib.decDigits c).length ≤ 9 := by rw [hdl]; exact hP.1
          rw [e0]
          clear hnv hrd hP hdl
          go_wp2_with fail
          refine HTR.out.mono ?_
          rintro e w' ⟨v, rfl, hv, rfl⟩
          rw [HNV.out.1] at hv
          have HV := Lib.hid hv.any
          obtain ⟨av2, cv2, rfl⟩ := num_slice hv.any
          clear hv HTR
          go_wp2_with fail
          refine (HDC.out _).mono ?_
          rintro e w' ⟨rfl, hg'⟩
          have HV' := Lib.hid (HV.out.gr hg')
          have HG' := Lib.hid (HGI.out.step hg')
          clear hg' HDC
          generalize hdd : Lib.decDigits c = D at *
          go_wp2_with fail
          go_loop [8] (fun d => ∃ z : Nat, z + D.length ≤ 9 ∧ d = .string (str (List.replicate z 48 ++ D))) (fun d => 9 - strLen d)
          case atStart => exact ⟨0, by omega, rfl⟩
          case round =>
            obtain ⟨z, hz, rfl⟩ := hrel
            have hlen : (List.replicate z (48 : UInt8) ++ D).length = z + D.length := by rw [List.length_append, List.length_replicate]
            have hsz : (str (List.replicate z (48 : UInt8) ++ D)).size = z + D.length := by rw [str_size, hlen]
            have HSZ := Lib.hid hsz
            have HA := add_zero48 (List.replicate z (48 : UInt8) ++ D) (by omega)
            have HZ := Lib.hid (show (48 : UInt8) :: (List.replicate z 48 ++ D) = List.replicate (z + 1) 48 ++ D by rw [List.replicate_succ, List.cons_append])
            by_cases hz9 : z + D.length < 9
            · have d2 : (((z + D.length : Nat) : Int)) < 9 := by omega
              generalize List.replicate z (48 : UInt8) ++ D = E at *
              go_wp2_with fail
              have hE : E.length = z + D.length := by have := HSZ.out; rwa [str_size] at this
              refine ⟨⟨z + 1, by omega, by rw [← HZ.out]⟩, ?_⟩
              simp only [strLen, str_size, List.length_cons]
              omega
            · have d2 : ¬ (((z + D.length : Nat) : Int)) < 9 := by omega
              have hz2 : z = 9 - D.length := by omega
              have HE := Lib.hid (show List.replicate z (48 : UInt8) ++ D = pd 9 c by rw [hz2]; exact HPD.out.symm)
              have HC2 := Lib.hid (show pd 9 c ++ T = pd (9 * (j + 1)) N by rw [HNV.out.2, HM.out, HT.out]; exact group_next)
              have HV2 := HV'
              have h9 : (pd 9 c).length = 9 := pd_len 9 c
              rw [HE.out] at hsz ⊢
              have HADD := add_str (pd 9 c) T (by have := HTL.out; omega)
              rw [HC2.out] at HADD
              clear HZ HA hz2 HE HSZ hlen HPD
              generalize hq : pd 9 c = E at *
              go_wp2_with fail
              refine ⟨⟨j + 1, ?_, ?_, rfl, by omega, HG'.out⟩, ?_⟩
              · rw [← div_next, ← HM.out]; exact HV2.out
              · rw [← div_next, ← HM.out]
                have h1 : (nd (M / 1000000000)).length ≤ (nd M).length := (nd_len _ _).2 (Nat.lt_of_le_of_lt (Nat.div_le_self _ _) ((nd_len M _).1 (Nat.le_refl _)))
                omega
              · simp only [strLen, str_size, pd_len]
                have := HTL.out
                omega
    · have hl1 : (nd M).length ≤ 1 := by omega
      have HF := Lib.hid (nd_first hl1)
      have d1 : decide ((1 : Int) < ((nd M).length : Int)) = false := by rw [decide_eq_false_iff_not]; omega
      have d1b : decide (1 < (nd M).length) = false := by rw [decide_eq_false_iff_not]; omega
      have hMM : M < 1073741824 := (nd_len M 1).1 hl1
      have HLB := Lib.hid (rlimb_any 0 wr HMN.out)
      rw [HF.out] at HLB
      have HDC := Lib.hid (fun W => rdec_all M (by omega) W)
      have HG := Lib.hid hg
      have hdl := dd_size (k := M) (by omega)
      have hj3 := hj
      clear hg
      by_cases hM0 : M = 0
      · have dl : (((nd M).length : Int) == 0) = true := by rw [hM0, nd_zero]; rfl
        by_cases hj0 : j = 0
        · have hT0 : T = [] := by have := HTL.out; rw [hj0] at this; exact List.length_eq_zero_iff.1 this
          have HS := Lib.hid (show Lib.decDigits M ++ T = List.replicate 0 48 ++ Lib.decDigits N by
            rw [hT0, List.append_nil, List.replicate_zero, List.nil_append]
            have := HM.out
            rw [hj0] at this
            simp at this
            rw [this])
          have t0 : (str T).toList.isEmpty = true := by rw [hT0, Lib.toList_data, str_data]; rfl
          have t1 : (str T).toList = [] := by rw [hT0, Lib.toList_data, str_data]
          have HADD := add_str (Lib.decDigits M) T (by have := HTL.out; omega)
          rw [HS.out] at HADD
          clear hM0 hj0 hT0
          go_wp2_with fail
          refine HLB.out.mono ?_
          rintro e w1 ⟨rfl, rfl⟩
          go_wp2_with fail
          refine (HDC.out _).mono ?_
          rintro e w1 ⟨rfl, hg1⟩
          have HG1 := Lib.hid (HG.out.step hg1)
          clear hg1 HDC HLB
          generalize Lib.decDigits M = DM at *
          go_wp2_with fail
          go_loop [3] (fun s => ∃ z : Nat, s = .string (str (List.replicate z 48 ++ Lib.decDigits N))) (fun s => strLen s)
          case atStart => exact ⟨0, by first | rfl | (rw [List.replicate_zero, List.nil_append])⟩
          case round =>
            obtain ⟨z, rfl⟩ := hrel
            rcases z with _ | z
            · rw [List.replicate_zero, List.nil_append]
              by_cases h1 : (Lib.decDigits N).length = 1
              · have hsz : (str (Lib.decDigits N)).size = 1 := by rw [str_size]; exact h1
                have d3 : decide ((1 : Int) < 1) = false := by decide
                clear h1
                go_wp2_with fail
                go_ret
                exact ⟨rfl, HG1.out⟩
              · have hN : ¬ N < 10 := fun hc => h1 (by rw [dd_one hc]; rfl)
                obtain ⟨c, l, e, hc⟩ := dd_lead (n := N) (by omega)
                have HE := Lib.hid e
                rw [e] at h1 ⊢
                have h0 : 0 < (str (c :: l)).size := by rw [str_size]; simp
                obtain ⟨q1, q2, q3⟩ := str_cons c l h0
                have hs1 : 1 < (str (c :: l)).size := by rw [q1]; rw [List.length_cons] at h1; have : l ≠ [] := fun hl => h1 (by rw [hl]; rfl); have := List.length_pos_iff.2 this; omega
                have d3 : ((((str (c :: l))[0]'h0).toNat : Int) == 48) = false := by
                  rw [q2, beq_eq_false_iff_ne]
                  intro hh
                  rw [beq_eq_false_iff_ne] at hc
                  exact hc (UInt8.toNat_inj.1 (by show c.toNat = 48; omega))
                clear q1 q2 q3 h1 hc e
                have HE2 := Lib.hid (show Ending.returned (.string (str (c :: l))) = Ending.returned (.string (str (Lib.decDigits N))) by rw [HE.out])
                generalize str (c :: l) = s at *
                go_wp2_with fail
                go_ret
                exact ⟨HE2.out, HG1.out⟩
            · rw [List.replicate_succ, List.cons_append]
              have hpos : 0 < (List.replicate z (48 : UInt8) ++ Lib.decDigits N).length := by
                rw [List.length_append, Lib.decDigits_length]; have := Lib.nDigits_pos N; omega
              have h0 : 0 < (str (48 :: (List.replicate z (48 : UInt8) ++ Lib.decDigits N))).size := by rw [str_size]; simp
              obtain ⟨q1, q2, q3⟩ := str_cons 48 _ h0
              have hs1 : 1 < (str (48 :: (List.replicate z (48 : UInt8) ++ Lib.decDigits N))).size := by rw [q1]; omega
              have d3 : ((((str (48 :: (List.replicate z (48 : UInt8) ++ Lib.decDigits N)))[0]'h0).toNat : Int) == 48) = true := by rw [q2]; rfl
              have HQ3 := Lib.hid q3
              clear q1 q2 q3 hpos
              generalize str (48 :: (List.replicate z (48 : UInt8) ++ Lib.decDigits N)) = s at *
              go_wp2_with fail
              refine ⟨⟨z, by rw [HQ3.out]⟩, ?_⟩
              simp only [strLen, ByteArray.size_extract]
              omega
        · have hNlt : N < 10 ^ (9 * j) := by
            have := HM.out
            rw [hM0] at this
            rcases Nat.lt_or_ge N (10 ^ (9 * j)) with h | h
            · exact h
            · have := Nat.div_pos h (Nat.pow_pos (by omega)); omega
          have hP := (pd_digits (9 * j) N hNlt (by omega)).2
          have HP := Lib.hid (HT.out.trans hP)
          have hT1 : T ≠ [] := fun h => by have := HTL.out; rw [h] at this; simp at this; omega
          have t0 : (str T).toList.isEmpty = false := by
            rw [Lib.toList_data, str_data]
            cases hq : T with
            | nil => exact absurd hq hT1
            | cons => rfl
          have t1 : ¬ (str T).toList = [] := by rw [Lib.toList_data, str_data]; exact hT1
          have HADD : ∀ W, (Op.stringOp .add ⟨#[]⟩ (str T)).run Tryz.prog W = .ok (.string (str T)) W := fun W => add_str [] T (by have := HTL.out; rw [List.length_nil]; omega) W
          have HST := Lib.hid (show str T = str (List.replicate (9 * j - Lib.nDigits N) 48 ++ Lib.decDigits N) by rw [HP.out])
          rw [HST.out] at HADD t0 t1 ⊢
          clear hM0 hj0 hT1 hP hNlt HST
          generalize 9 * j - Lib.nDigits N = z0 at *
          go_wp2_with fail
          refine HLB.out.mono ?_
          rintro e w1 ⟨rfl, rfl⟩
          go_wp2_with fail
          refine (HDC.out _).mono ?_
          rintro e w1 ⟨rfl, hg1⟩
          have HG1 := Lib.hid (HG.out.step hg1)
          clear hg1 HDC HLB
          generalize Lib.decDigits M = DM at *
          go_wp2_with fail
          go_loop [3] (fun s => ∃ z : Nat, s = .string (str (List.replicate z 48 ++ Lib.decDigits N))) (fun s => strLen s)
          case atStart => exact ⟨z0, by first | rfl | (rw [List.replicate_zero, List.nil_append])⟩
          case round =>
            obtain ⟨z, rfl⟩ := hrel
            rcases z with _ | z
            · rw [List.replicate_zero, List.nil_append]
              by_cases h1 : (Lib.decDigits N).length = 1
              · have hsz : (str (Lib.decDigits N)).size = 1 := by rw [str_size]; exact h1
                have d3 : decide ((1 : Int) < 1) = false := by decide
                clear h1
                go_wp2_with fail
                go_ret
                exact ⟨rfl, HG1.out⟩
              · have hN : ¬ N < 10 := fun hc => h1 (by rw [dd_one hc]; rfl)
                obtain ⟨c, l, e, hc⟩ := dd_lead (n := N) (by omega)
                have HE := Lib.hid e
                rw [e] at h1 ⊢
                have h0 : 0 < (str (c :: l)).size := by rw [str_size]; simp
                obtain ⟨q1, q2, q3⟩ := str_cons c l h0
                have hs1 : 1 < (str (c :: l)).size := by rw [q1]; rw [List.length_cons] at h1; have : l ≠ [] := fun hl => h1 (by rw [hl]; rfl); have := List.length_pos_iff.2 this; omega
                have d3 : ((((str (c :: l))[0]'h0).toNat : Int) == 48) = false := by
                  rw [q2, beq_eq_false_iff_ne]
                  intro hh
                  rw [beq_eq_false_iff_ne] at hc
                  exact hc (UInt8.toNat_inj.1 (by show c.toNat = 48; omega))
                clear q1 q2 q3 h1 hc e
                have HE2 := Lib.hid (show Ending.returned (.string (str (c :: l))) = Ending.returned (.string (str (Lib.decDigits N))) by rw [HE.out])
                generalize str (c :: l) = s at *
                go_wp2_with fail
                go_ret
                exact ⟨HE2.out, HG1.out⟩
            · rw [List.replicate_succ, List.cons_append]
              have hpos : 0 < (List.replicate z (48 : UInt8) ++ Lib.decDigits N).length := by
                rw [List.length_append, Lib.decDigits_length]; have := Lib.nDigits_pos N; omega
              have h0 : 0 < (str (48 :: (List.replicate z (48 : UInt8) ++ Lib.decDigits N))).size := by rw [str_size]; simp
              obtain ⟨q1, q2, q3⟩ := str_cons 48 _ h0
              have hs1 : 1 < (str (48 :: (List.replicate z (48 : UInt8) ++ Lib.decDigits N))).size := by rw [q1]; omega
              have d3 : ((((str (48 :: (List.replicate z (48 : UInt8) ++ Lib.decDigits N)))[0]'h0).toNat : Int) == 48) = true := by rw [q2]; rfl
              have HQ3 := Lib.hid q3
              clear q1 q2 q3 hpos
              generalize str (48 :: (List.replicate z (48 : UInt8) ++ Lib.decDigits N)) = s at *
              go_wp2_with fail
              refine ⟨⟨z, by rw [HQ3.out]⟩, ?_⟩
              simp only [strLen, ByteArray.size_extract]
              omega
      · have dl : (((nd M).length : Int) == 0) = false := by rw [beq_eq_false_iff_ne, nd_pos (by omega), List.length_cons]; omega
        have HS := Lib.hid (show Lib.decDigits M ++ T = List.replicate 0 48 ++ Lib.decDigits N by
          rw [List.replicate_zero, List.nil_append, dd_split (9 * j) N (by rw [← HM.out]; omega), ← HM.out, HT.out])
        have HADD := add_str (Lib.decDigits M) T (by have := HTL.out; omega)
        rw [HS.out] at HADD
        clear hM0
        go_wp2_with fail
        refine HLB.out.mono ?_
        rintro e w1 ⟨rfl, rfl⟩
        go_wp2_with fail
        refine (HDC.out _).mono ?_
        rintro e w1 ⟨rfl, hg1⟩
        have HG1 := Lib.hid (HG.out.step hg1)
        clear hg1 HDC HLB
        generalize Lib.decDigits M = DM at *
        go_wp2_with fail
        go_loop [3] (fun s => ∃ z : Nat, s = .string (str (List.replicate z 48 ++ Lib.decDigits N))) (fun s => strLen s)
        case atStart => exact ⟨0, by first | rfl | (rw [List.replicate_zero, List.nil_append])⟩
        case round =>
          obtain ⟨z, rfl⟩ := hrel
          rcases z with _ | z
          · rw [List.replicate_zero, List.nil_append]
            by_cases h1 : (Lib.decDigits N).length = 1
            · have hsz : (str (Lib.decDigits N)).size = 1 := by rw [str_size]; exact h1
              have d3 : decide ((1 : Int) < 1) = false := by decide
              clear h1
              go_wp2_with fail
              go_ret
              exact ⟨rfl, HG1.out⟩
            · have hN : ¬ N < 10 := fun hc => h1 (by rw [dd_one hc]; rfl)
              obtain ⟨c, l, e, hc⟩ := dd_lead (n := N) (by omega)
              have HE := Lib.hid e
              rw [e] at h1 ⊢
              have h0 : 0 < (str (c :: l)).size := by rw [str_size]; simp
              obtain ⟨q1, q2, q3⟩ := str_cons c l h0
              have hs1 : 1 < (str (c :: l)).size := by rw [q1]; rw [List.length_cons] at h1; have : l ≠ [] := fun hl => h1 (by rw [hl]; rfl); have := List.length_pos_iff.2 this; omega
              have d3 : ((((str (c :: l))[0]'h0).toNat : Int) == 48) = false := by
                rw [q2, beq_eq_false_iff_ne]
                intro hh
                rw [beq_eq_false_iff_ne] at hc
                exact hc (UInt8.toNat_inj.1 (by show c.toNat = 48; omega))
              clear q1 q2 q3 h1 hc e
              have HE2 := Lib.hid (show Ending.returned (.string (str (c :: l))) = Ending.returned (.string (str (Lib.decDigits N))) by rw [HE.out])
              generalize str (c :: l) = s at *
              go_wp2_with fail
              go_ret
              exact ⟨HE2.out, HG1.out⟩
          · rw [List.replicate_succ, List.cons_append]
            have hpos : 0 < (List.replicate z (48 : UInt8) ++ Lib.decDigits N).length := by
              rw [List.length_append, Lib.decDigits_length]; have := Lib.nDigits_pos N; omega
            have h0 : 0 < (str (48 :: (List.replicate z (48 : UInt8) ++ Lib.decDigits N))).size := by rw [str_size]; simp
            obtain ⟨q1, q2, q3⟩ := str_cons 48 _ h0
            have hs1 : 1 < (str (48 :: (List.replicate z (48 : UInt8) ++ Lib.decDigits N))).size := by rw [q1]; omega
            have d3 : ((((str (48 :: (List.replicate z (48 : UInt8) ++ Lib.decDigits N)))[0]'h0).toNat : Int) == 48) = true := by rw [q2]; rfl
            have HQ3 := Lib.hid q3
            clear q1 q2 q3 hpos
            generalize str (48 :: (List.replicate z (48 : UInt8) ++ Lib.decDigits N)) = s at *
            go_wp2_with fail
            refine ⟨⟨z, by rw [HQ3.out]⟩, ?_⟩
            simp only [strLen, ByteArray.size_extract]
            omega
end Go.Proofs.YtikkobmccagdlaaGreatDoor
/- Results of both sides as the same plain values. -/
namespace Go.Proofs.YtikkobmccagdlaaGreatDoor
open Go Go.RowKit Go.Sort
set_option maxRecDepth 100000
set_option linter.unusedVariables false
/-- a number and an error -/
def Ne (w : World) (N : Nat) (E : Int) (e : Ending) (w' : World) : Prop := ∃ v, e = .returned (.tuple #[v, .int .i64 E]) ∧ Num w' v N ∧ (nd N).length ≤ 10000 ∧ Gr w w'
def rsN (N : Nat) : Nat := if (nd N).length ≤ 256 then N else 0
def rsE (N : Nat) : Int := if (nd N).length ≤ 256 then 0 else 5
theorem l0 : (nd 0).length ≤ 10000 := by rw [nd_zero]; simp
theorem Res.ne {w w' : World} {N : Nat} {e : Ending} (h : Res w N e w') : Ne w (rsN N) (rsE N) e w' := by
  obtain ⟨v, er, rfl, h, hg⟩ := h
  unfold rsN rsE
  rcases h with ⟨hl, rfl, hn⟩ | ⟨hl, rfl, rfl⟩
  · rw [if_pos hl, if_pos hl]; exact ⟨v, rfl, hn, by omega, hg⟩
  · rw [if_neg (by omega), if_neg (by omega)]; exact ⟨_, rfl, Num.nil _, l0, hg⟩
def sbN (A B : Nat) : Nat := if B ≤ A then A - B else 0
def sbE (A B : Nat) : Int := if B ≤ A then 0 else 15
theorem SubRes.ne {w w' : World} {A B : Nat} {e : Ending} (h : SubRes w A B e w') (hA : (nd A).length ≤ 10000) : Ne w (sbN A B) (sbE A B) e w' := by
  obtain ⟨v, er, rfl, h, hg⟩ := h
  unfold sbN sbE
  rcases h with ⟨hl, rfl, hn⟩ | ⟨hl, rfl, rfl⟩
  · rw [if_pos hl, if_pos hl]; exact ⟨v, rfl, hn, Nat.le_trans (nd_mono (Nat.sub_le _ _)) hA, hg⟩
  · rw [if_neg (by omega), if_neg (by omega)]; exact ⟨_, rfl, Num.nil _, l0, hg⟩
def pwN (A : Nat) (k : Int) : Nat := if 0 ≤ k ∧ k ≤ 65536 then rsN (A ^ k.toNat) else 0
def pwE (A : Nat) (k : Int) : Int := if 0 ≤ k ∧ k ≤ 65536 then rsE (A ^ k.toNat) else 1
theorem PwPost.ne {w w' : World} {A : Nat} {k : Int} {e : Ending} (h : PwPost w A k e w') : Ne w (pwN A k) (pwE A k) e w' := by
  unfold PwPost at h
  unfold pwN pwE
  by_cases hk : 0 ≤ k ∧ k ≤ 65536
  · rw [if_pos hk] at h ⊢; rw [if_pos hk]; exact h.ne
  · rw [if_neg hk] at h ⊢; rw [if_neg hk]
    obtain ⟨rfl, hg⟩ := h
    exact ⟨_, rfl, Num.nil _, l0, hg⟩
def csN (n k : Int) : Nat := if (0 ≤ n ∧ n ≤ 1024) ∧ 0 ≤ k ∧ k ≤ 1024 then bin n.toNat k.toNat else 0
def csE (n k : Int) : Int := if (0 ≤ n ∧ n ≤ 1024) ∧ 0 ≤ k ∧ k ≤ 1024 then 0 else 1
theorem CsPost.ne {w w' : World} {n k : Int} {e : Ending} (h : CsPost w n k e w') : Ne w (csN n k) (csE n k) e w' := by
  unfold CsPost at h
  unfold csN csE
  by_cases hk : (0 ≤ n ∧ n ≤ 1024) ∧ 0 ≤ k ∧ k ≤ 1024
  · rw [if_pos hk] at h ⊢; rw [if_pos hk]
    obtain ⟨v, rfl, hn, hg⟩ := h
    exact ⟨v, rfl, hn, by have := bin_len (n := n.toNat) k.toNat (by omega); omega, hg⟩
  · rw [if_neg hk] at h ⊢; rw [if_neg hk]
    obtain ⟨rfl, hg⟩ := h
    exact ⟨_, rfl, Num.nil _, l0, hg⟩
theorem csE_eq {n k : Int} (hn : 0 ≤ n ∧ n ≤ 1024) : (csE n k == 0) = decide (0 ≤ k ∧ k ≤ 1024) := by
  unfold csE
  by_cases hk : 0 ≤ k ∧ k ≤ 1024
  · rw [if_pos ⟨hn, hk⟩, decide_eq_true hk]; rfl
  · rw [if_neg (fun h => hk h.2), decide_eq_false hk]; rfl
def psN (l : List UInt8) : Nat := if ¬ txt l then 0 else if 2400 < l.length then 0 else rsN (nval l)
def psE (l : List UInt8) : Int := if ¬ txt l then 2 else if 2400 < l.length then 5 else rsE (nval l)
theorem PsRes.ne {w w' : World} {l : List UInt8} {e : Ending} (h : PsRes w l e w') : Ne w (psN l) (psE l) e w' := by
  unfold PsRes at h
  unfold psN psE
  by_cases h1 : ¬ txt l
  · rw [if_pos h1] at h ⊢; rw [if_pos h1]
    obtain ⟨rfl, hg⟩ := h
    exact ⟨_, rfl, Num.nil _, l0, hg⟩
  · rw [if_neg h1] at h ⊢; rw [if_neg h1]
    by_cases h2 : 2400 < l.length
    · rw [if_pos h2] at h ⊢; rw [if_pos h2]
      obtain ⟨rfl, hg⟩ := h
      exact ⟨_, rfl, Num.nil _, l0, hg⟩
    · rw [if_neg h2] at h ⊢; rw [if_neg h2]; exact h.ne
def frE (n : Int) : Int := if 0 ≤ n then 0 else 15
theorem frm_len {n : Int} (h : n ≤ 9223372036854775807) : (nd n.toNat).length ≤ 10000 := Nat.le_trans ((nd_len n.toNat 3).2 (by omega)) (by omega)
theorem rfrom_ne (n : Int) (w : World) (n0 : -9223372036854775808 ≤ n) (n1 : n ≤ 9223372036854775807) :
    Calls Tryz.prog 30 #[.int .i64 n] w (Ne w n.toNat (frE n)) := by
  refine (rfrom_any n w n0 n1).mono fun e w' ⟨v, er, he, h, hg⟩ => ?_
  subst he
  unfold frE
  rcases h with ⟨hn, rfl, hv⟩ | ⟨hn, rfl, rfl⟩
  · rw [if_pos hn]; exact ⟨v, rfl, hv, frm_len n1, hg⟩
  · rw [if_neg (by omega), show n.toNat = 0 by omega]; exact ⟨_, rfl, Num.nil _, l0, hg⟩
theorem nfrom_neg (n : Int) (w : World) (h : n < 0) :
    Calls Tryz.prog 29 #[.int .i64 n] w fun e w' => e = .returned (.tuple #[.slice none 0 0, .int .i64 15]) ∧ Gr w w' := by
  have d1 : decide (n < 0) = true := by simpa using h
  go_enter Tryz.func29, Tryz.ntmps29
  go_wp2_with fail
  go_ret2
  exact ⟨rfl, Gr.refl _⟩
theorem nfrom_ne (n : Int) (w : World) (n1 : n ≤ 9223372036854775807) :
    Calls Tryz.prog 29 #[.int .i64 n] w (Ne w n.toNat (frE n)) := by
  by_cases hn : 0 ≤ n
  · obtain ⟨X, rfl⟩ := Int.eq_ofNat_of_zero_le hn
    refine (natfrom_any X w (by omega)).mono fun e w' ⟨v, he, hv, hg⟩ => ?_
    subst he
    unfold frE
    rw [if_pos hn]
    exact ⟨v, rfl, hv, frm_len n1, hg⟩
  · refine (nfrom_neg n w (by omega)).mono fun e w' ⟨he, hg⟩ => ?_
    subst he
    unfold frE
    rw [if_neg hn, show n.toNat = 0 by omega]
    exact ⟨_, rfl, Num.nil _, l0, hg⟩
def inZ (N : Nat) : Int := if N ≤ 4611686018427387904 then N else 0
def inE (N : Nat) : Int := if N ≤ 4611686018427387904 then 0 else 1
theorem IntRes.plain {w w' : World} {N : Nat} {e : Ending} (h : IntRes w N e w') : e = .returned (.tuple #[.int .i64 (inZ N), .int .i64 (inE N)]) ∧ Gr w w' := by
  obtain ⟨z, er, rfl, h, -, -, hg⟩ := h
  unfold inZ inE
  rcases h with ⟨hl, rfl, rfl⟩ | ⟨hl, rfl, rfl⟩
  · rw [if_pos hl, if_pos hl]; exact ⟨rfl, hg⟩
  · rw [if_neg (by omega), if_neg (by omega)]; exact ⟨rfl, hg⟩
def dmE (B : Nat) : Int := if B = 0 then 14 else 0
def dmR (A B : Nat) : Nat := if B = 0 then 0 else A % B
/-- a quotient, a remainder, an error -/
def Dne (w : World) (A B : Nat) (e : Ending) (w' : World) : Prop := ∃ vq vr, e = .returned (.tuple #[vq, vr, .int .i64 (dmE B)]) ∧ Num w' vq (A / B) ∧ Num w' vr (dmR A B) ∧ Gr w w'
theorem DmPost.ne {w w' : World} {A B : Nat} {e : Ending} (h : DmPost w A B e w') (hB : 0 < B) : Dne w A B e w' := by
  obtain ⟨vq, vr, rfl, hq, hr, hg⟩ := h
  exact ⟨vq, vr, by rw [dmE, if_neg (by omega)], hq, by rw [dmR, if_neg (by omega)]; exact hr, hg⟩
theorem dne_zero {w w' : World} {A : Nat} (hg : Gr w w') : Dne w A 0 (.returned (.tuple #[.slice none 0 0, .slice none 0 0, .int .i64 14])) w' :=
  ⟨_, _, rfl, by rw [Nat.div_zero]; exact Num.nil _, Num.nil _, hg⟩
theorem ndm {A B : Nat} (va vb : Value) (w : World) (hA : Num w va A) (hB : Num w vb B) (lA : (nd A).length ≤ 256) (lB : (nd B).length ≤ 256) :
    Calls Tryz.prog 15 #[va, vb] w (Dne w A B) := by
  rcases Nat.eq_zero_or_pos B with rfl | h
  · refine (divmod_zero va vb w hA hB lA).mono fun e w' h => ?_
    obtain ⟨he, hg⟩ := h
    subst he hg
    exact dne_zero (Gr.refl _)
  · exact (divmod_any va vb w hA hB h lA lB).mono fun e w' hp => hp.ne h
theorem rdm {A B : Nat} (va vb : Value) (w : World) (hA : Num w va A) (hB : Num w vb B) (lA : (nd A).length ≤ 4000) (lB : (nd B).length ≤ 4000) :
    Calls Tryz.prog 16 #[va, vb] w (Dne w A B) := by
  rcases Nat.eq_zero_or_pos B with rfl | h
  · obtain ⟨a, c, rfl⟩ := num_slice hA
    refine (rdivmod_zero _ vb w hB).mono fun e w' ⟨he, hg⟩ => ?_
    subst he
    exact dne_zero hg
  · exact (rdivmod_any va vb w hA hB h lA lB).mono fun e w' hp => hp.ne h
theorem dm_len {A B : Nat} (h : (nd A).length ≤ 256) : (nd (A / B)).length ≤ 10000 ∧ (nd (dmR A B)).length ≤ 10000 := by
  have h1 := nd_mono (Nat.div_le_self A B)
  refine ⟨by omega, ?_⟩
  unfold dmR
  split
  · exact l0
  · have := nd_mono (Nat.mod_le A B); omega
/-- the law's same at equal values -/
theorem lsame {N : Nat} (E : Int) (va vb : Value) (w : World) (hA : Num w va N) (hB : Num w vb N) (hl : (nd N).length ≤ 10000) :
    Calls Tryz.prog 10 #[va, .int .i64 E, vb, .int .i64 E] w fun e w' => e = .returned (.bool true) ∧ Gr w w' := by
  have HS := Lib.hid (num_same va vb w hA hB rfl (by omega))
  obtain ⟨aa, ca, rfl⟩ := num_slice hA
  obtain ⟨ab, cb, rfl⟩ := num_slice hB
  clear hA hB hl
  go_enter Tryz.func10, Tryz.ntmps10
  go_wp2_with fail
  refine HS.out.mono ?_
  rintro e w1 ⟨rfl, hg⟩
  go_wp2_with fail
  go_ret
  exact ⟨rfl, hg⟩
end Go.Proofs.YtikkobmccagdlaaGreatDoor
/- The walk of the statement on all functions for numbers. -/
namespace Go.Proofs.YtikkobmccagdlaaGreatDoor
open Go Go.RowKit Go.Sort
set_option maxRecDepth 100000
set_option linter.unusedVariables false
/-- what the walk keeps: two drawn numbers and the source of draws -/
structure Env (w : World) (b : Nat) (va vb : Value) (A B : Nat) (W : World) : Prop where
  ha : Rd (· ≠ b) W va (nd A)
  hb : Rd (· ≠ b) W vb (nd B)
  hc : Cod w.heap.size W b
  hg : Gr w W
theorem Env.gr {w : World} {b : Nat} {va vb : Value} {A B : Nat} {W W' : World} (h : Env w b va vb A B W) (g : Gr W W') : Env w b va vb A B W' := ⟨h.ha.gr g, h.hb.gr g, h.hc.gr g, h.hg.step g⟩
theorem Env.ex {w : World} {b : Nat} {va vb : Value} {A B : Nat} {W W' : World} (h : Env w b va vb A B W) (g : Ex b W W') (hc : Cod w.heap.size W' b) : Env w b va vb A B W' := ⟨h.ha.ex g, h.hb.ex g, hc, Ex.gr h.hg h.hc.base g⟩
theorem Env.na {w : World} {b : Nat} {va vb : Value} {A B : Nat} {W : World} (h : Env w b va vb A B W) : Num W va A := h.ha.any
theorem Env.nb {w : World} {b : Nat} {va vb : Value} {A B : Nat} {W : World} (h : Env w b va vb A B W) : Num W vb B := h.hb.any
/-- a list of ints in a block -/
def Li (w : World) (g : Nat) (xs : List Int) : Prop := ∀ i, i < xs.length → w.cell? ⟨g, i, none⟩ = some (.int .i64 (xs.getD i 0))
theorem Li.gr {w w' : World} {g : Nat} {xs : List Int} (h : Li w g xs) (k : Gr w w') : Li w' g xs := fun i hi => by
  have := h i hi
  rw [(Gr.cells k).1 _ _ (World.block_lt_of_cell? _ _ this)]; exact this
theorem Li.ex {w w' : World} {g b : Nat} {xs : List Int} (h : Li w g xs) (k : Ex b w w') (hb : g ≠ b) : Li w' g xs := fun i hi => by
  have := h i hi
  rw [k.cell _ _ hb (World.block_lt_of_cell? _ _ this)]; exact this
theorem li_five (w : World) (x y z u t : Int) (T : TypeId) : Li (w.alloc (.cells #[.int .i64 x, .int .i64 y, .int .i64 z, .int .i64 u, .int .i64 t] T)) w.heap.size [x, y, z, u, t] := by
  intro i hi
  have : i = 0 ∨ i = 1 ∨ i = 2 ∨ i = 3 ∨ i = 4 := by simp at hi; omega
  rcases this with rfl | rfl | rfl | rfl | rfl <;> simp
set_option maxHeartbeats 8000000 in
theorem nexact_walk (sv : Value) (len : Nat) (raw : Value) (rl : List Int) (n k : Int) (s : ByteArray) (w : World) (ht : Tab w) (hl : len ≤ 9223372036854775807) (hb : BytesV w.heap.size w sv len) (hr : RdI w raw rl)
    (n0 : -9223372036854775808 ≤ n) (n1 : n ≤ 9223372036854775807) (hs : s.size ≤ 9223372036854775807) :
    Calls Tryz.prog 3 #[sv, raw, .int .i64 n, .int .i64 k, .string s] w fun e w' => e = .returned (.bool true) ∧ Gr w w' := by
  have HT := Lib.hid ht
  have HR := Lib.hid hr
  have HBV := Lib.hid hb
  obtain ⟨ar, cr, rfl, hcr, hmr, -⟩ := id hr
  clear ht hr hb
  by_cases h1 : 400 < rl.length
  · have d1 : decide ((400 : Int) < (rl.length : Int)) = true := by rw [decide_eq_true_eq]; omega
    go_enter Tryz.func3, Tryz.ntmps3
    go_wp2_with fail
    refine (awake_any _).mono ?_
    rintro e w1 ⟨rfl, hg⟩
    go_wp2_with fail
    go_ret
    exact ⟨rfl, hg⟩
  have d1 : decide ((400 : Int) < (rl.length : Int)) = false := by rw [decide_eq_false_iff_not]; omega
  by_cases h2 : 2500 < s.size
  · have d2 : decide ((2500 : Int) < (s.size : Int)) = true := by rw [decide_eq_true_eq]; omega
    go_enter Tryz.func3, Tryz.ntmps3
    go_wp2_with fail
    refine (awake_any _).mono ?_
    rintro e w1 ⟨rfl, hg⟩
    go_wp2_with fail
    go_ret
    exact ⟨rfl, hg⟩
  have d2 : decide ((2500 : Int) < (s.size : Int)) = false := by rw [decide_eq_false_iff_not]; omega
  go_enter Tryz.func3, Tryz.ntmps3
  go_wp2_with fail
  refine (awake_any _).mono ?_
  rintro e w1 ⟨rfl, hg⟩
  go_wp2_with fail
  refine (new_any sv len 200 _ (by omega) hl (HBV.out.gr hg)).mono ?_
  rintro e w2 ⟨b, rfl, hbe, hc2, hg2⟩
  have hbw : w.heap.size ≤ b := by have := Gr.size hg; omega
  have HG2 := Lib.hid (hg.step hg2)
  have HC2 := Lib.hid hc2
  clear hbe hc2 hg hg2 d1 d2 HBV
  go_wp2_with fail
  refine (nat_any b 6 _ HC2.out (Gr.size HG2.out) (by omega)).mono ?_
  rintro e w3 ⟨va, A, rfl, hA, lA, hc3, he3⟩
  have HA3 := Lib.hid hA
  have HC3 := Lib.hid hc3
  have HG3 := Lib.hid (Ex.gr HG2.out hbw he3)
  clear hA hc3 he3 HC2 HG2
  go_wp2_with fail
  refine (nat_any b 5 _ HC3.out (Gr.size HG3.out) (by omega)).mono ?_
  rintro e w4 ⟨vb, B, rfl, hB, lB, hc4, he4⟩
  have HENV : Hid (Env w b va vb A B w4) := Lib.hid ⟨HA3.out.ex he4, hB, hc4, Ex.gr HG3.out hbw he4⟩
  obtain ⟨aa, ca, rfl⟩ := num_slice HENV.out.na
  obtain ⟨ab, cb, rfl⟩ := num_slice HENV.out.nb
  clear hB hc4 he4 HA3 HC3 HG3
  go_wp2_with fail
  refine (add_any _ _ _ HENV.out.na HENV.out.nb (by omega) (by omega)).mono ?_
  intro e wa1 hp
  obtain ⟨va1, rfl, hva1, hla1, hg⟩ := hp.ne
  have HVa := Lib.hid hva1
  have HLa := Lib.hid hla1
  clear hp hva1 hla1
  have HENVN := Lib.hid (HENV.out.gr hg)
  clear hg HENV
  have HENV := HENVN
  clear HENVN
  go_wp2_with fail
  refine (radd_any _ _ _ HENV.out.na HENV.out.nb (by omega) (by omega)).mono ?_
  intro e wa2 hp
  obtain ⟨va2, rfl, hva2, -, hg⟩ := hp.ne
  have HSa := Lib.hid (lsame (rsE (A + B)) va1 va2 _ (HVa.out.gr hg) hva2 HLa.out)
  clear hp hva2 HVa HLa
  have HENVN := Lib.hid (HENV.out.gr hg)
  clear hg HENV
  have HENV := HENVN
  clear HENVN
  go_wp2_with fail
  refine (HSa.out.mono ?_)
  rintro e wa3 ⟨rfl, hg⟩
  clear HSa
  have HENVN := Lib.hid (HENV.out.gr hg)
  clear hg HENV
  have HENV := HENVN
  clear HENVN
  go_wp2_with fail
  refine (sub_any _ _ _ HENV.out.na HENV.out.nb (by omega) (by omega)).mono ?_
  intro e wb1 hp
  obtain ⟨vb1, rfl, hvb1, hlb1, hg⟩ := hp.ne (by omega)
  have HVb := Lib.hid hvb1
  have HLb := Lib.hid hlb1
  clear hp hvb1 hlb1
  have HENVN := Lib.hid (HENV.out.gr hg)
  clear hg HENV
  have HENV := HENVN
  clear HENVN
  go_wp2_with fail
  refine (rsub_any _ _ _ HENV.out.na HENV.out.nb (by omega) (by omega)).mono ?_
  intro e wb2 hp
  obtain ⟨vb2, rfl, hvb2, -, hg⟩ := hp.ne (by omega)
  have HSb := Lib.hid (lsame (sbE A B) vb1 vb2 _ (HVb.out.gr hg) hvb2 HLb.out)
  clear hp hvb2 HVb HLb
  have HENVN := Lib.hid (HENV.out.gr hg)
  clear hg HENV
  have HENV := HENVN
  clear HENVN
  go_wp2_with fail
  refine (HSb.out.mono ?_)
  rintro e wb3 ⟨rfl, hg⟩
  clear HSb
  have HENVN := Lib.hid (HENV.out.gr hg)
  clear hg HENV
  have HENV := HENVN
  clear HENVN
  go_wp2_with fail
  refine (mul_any _ _ _ HENV.out.na HENV.out.nb (by omega) (by omega)).mono ?_
  intro e wc1 hp
  obtain ⟨vc1, rfl, hvc1, hlc1, hg⟩ := hp.ne
  have HVc := Lib.hid hvc1
  have HLc := Lib.hid hlc1
  clear hp hvc1 hlc1
  have HENVN := Lib.hid (HENV.out.gr hg)
  clear hg HENV
  have HENV := HENVN
  clear HENVN
  go_wp2_with fail
  refine (rmul_any _ _ _ HENV.out.na HENV.out.nb (by omega) (by omega)).mono ?_
  intro e wc2 hp
  obtain ⟨vc2, rfl, hvc2, -, hg⟩ := hp.ne
  have HSc := Lib.hid (lsame (rsE (A * B)) vc1 vc2 _ (HVc.out.gr hg) hvc2 HLc.out)
  clear hp hvc2 HVc HLc
  have HENVN := Lib.hid (HENV.out.gr hg)
  clear hg HENV
  have HENV := HENVN
  clear HENVN
  go_wp2_with fail
  refine (HSc.out.mono ?_)
  rintro e wc3 ⟨rfl, hg⟩
  clear HSc
  have HENVN := Lib.hid (HENV.out.gr hg)
  clear hg HENV
  have HENV := HENVN
  clear HENVN
  go_wp2_with fail
  refine (ndm _ _ _ HENV.out.na HENV.out.nb (by omega) (by omega)).mono ?_
  rintro e wd1 ⟨vq, vr, rfl, hq, hr, hg⟩
  have HQ := Lib.hid hq
  have HRM := Lib.hid hr
  clear hq hr
  have HENVN := Lib.hid (HENV.out.gr hg)
  clear hg HENV
  have HENV := HENVN
  clear HENVN
  go_wp2_with fail
  refine (rdm _ _ _ HENV.out.na HENV.out.nb (by omega) (by omega)).mono ?_
  rintro e wd2 ⟨vu, vv, rfl, hu, hv, hg⟩
  have hdl := Lib.hid (dm_len (A := A) (B := B) (show (nd A).length ≤ 256 by omega))
  have HS1 := Lib.hid (lsame (dmE B) vq vu _ (HQ.out.gr hg) hu hdl.out.1)
  have HR2 := Lib.hid (HRM.out.gr hg)
  have HV2 := Lib.hid hv
  clear hu hv HQ HRM
  have HENVN := Lib.hid (HENV.out.gr hg)
  clear hg HENV
  have HENV := HENVN
  clear HENVN
  go_wp2_with fail
  refine (HS1.out.mono ?_)
  rintro e wd3 ⟨rfl, hg⟩
  have HS2 := Lib.hid (num_same vr vv _ (HR2.out.gr hg) (HV2.out.gr hg) rfl (by have := hdl.out.2; omega))
  clear HS1 HR2 HV2
  have HENVN := Lib.hid (HENV.out.gr hg)
  clear hg HENV
  have HENV := HENVN
  clear HENVN
  go_wp2_with fail
  refine (HS2.out.mono ?_)
  rintro e wd4 ⟨rfl, hg⟩
  clear HS2
  have HENVN := Lib.hid (HENV.out.gr hg)
  clear hg HENV
  have HENV := HENVN
  clear HENVN
  go_wp2_with fail
  refine (gcd_any _ _ _ HENV.out.na HENV.out.nb (by omega) (by omega)).mono ?_
  rintro e wd5 ⟨vg, rfl, hgn, hg⟩
  have HGN := Lib.hid hgn
  clear hgn
  have HENVN := Lib.hid (HENV.out.gr hg)
  clear hg HENV
  have HENV := HENVN
  clear HENVN
  go_wp2_with fail
  refine (rgcd_any _ _ _ HENV.out.na HENV.out.nb (by omega) (by omega)).mono ?_
  rintro e wd6 ⟨vh, rfl, hhn, hg⟩
  have hgl : (nd (A.gcd B)).length ≤ 1000000 := by
    rcases Nat.eq_zero_or_pos A with rfl | hA0
    · rw [Nat.gcd_zero_left]; omega
    · have := nd_mono (Nat.le_of_dvd hA0 (Nat.gcd_dvd_left A B)); omega
  have HS3 := Lib.hid (num_same vg vh _ (HGN.out.gr hg) hhn rfl hgl)
  clear hhn HGN hgl hdl
  have HENVN := Lib.hid (HENV.out.gr hg)
  clear hg HENV
  have HENV := HENVN
  clear HENVN
  go_wp2_with fail
  refine (HS3.out.mono ?_)
  rintro e wd7 ⟨rfl, hg⟩
  clear HS3
  have HENVN := Lib.hid (HENV.out.gr hg)
  clear hg HENV
  have HENV := HENVN
  clear HENVN
  go_wp2_with fail
  refine (cmp_any _ _ _ HENV.out.na HENV.out.nb (by omega)).mono ?_
  rintro e wd8 ⟨rfl, hg⟩
  have HENVN := Lib.hid (HENV.out.gr hg)
  clear hg HENV
  have HENV := HENVN
  clear HENVN
  go_wp2_with fail
  refine (rcmp_nat _ _ _ HENV.out.na HENV.out.nb (by omega) (by omega)).mono ?_
  rintro e wd9 ⟨rfl, hg⟩
  have HENVN := Lib.hid (HENV.out.gr hg)
  clear hg HENV
  have HENV := HENVN
  clear HENVN
  generalize ncmp A B = cm at *
  go_wp2_with fail
  refine (text_full _ _ HENV.out.na (by omega) (HT.out.gr HENV.out.hg)).mono ?_
  rintro e wd10 ⟨rfl, hg⟩
  have HENVN := Lib.hid (HENV.out.gr hg)
  clear hg HENV
  have HENV := HENVN
  clear HENVN
  go_wp2_with fail
  refine (rtext_any _ _ HENV.out.na (by omega)).mono ?_
  rintro e wd11 ⟨rfl, hg⟩
  have HENVN := Lib.hid (HENV.out.gr hg)
  clear hg HENV
  have HENV := HENVN
  clear HENVN
  generalize str (Lib.decDigits A) = dA at *
  go_wp2_with fail
  refine (next_any b 9 _ (by omega) (by omega) HENV.out.hc).mono ?_
  rintro e we1 ⟨x9, rfl, x90, x91, hc, he⟩
  have HENV2 := Lib.hid (HENV.out.ex he hc)
  clear he hc HENV
  have hbl := HENV2.out.hc.lt
  have HLI := Lib.hid (li_five we1 k x9 (-1) 65536 65537 3)
  have HENV := Lib.hid (HENV2.out.gr (Gr.alloc (Gr.refl _) (.cells #[.int .i64 k, .int .i64 x9, .int .i64 (-1), .int .i64 65536, .int .i64 65537] 3)))
  clear HENV2
  go_wp2_with fail
  have hgb : we1.heap.size ≠ b := by omega
  have hxl : [k, x9, -1, 65536, 65537].length = 5 := rfl
  generalize we1.alloc (.cells #[.int .i64 k, .int .i64 x9, .int .i64 (-1), .int .i64 65536, .int .i64 65537] 3) = we2 at *
  generalize we1.heap.size = g at *
  generalize [k, x9, -1, 65536, 65537] = xs at *
  have HXL := Lib.hid hxl
  clear hxl hbl
  have HEN2 := HENV
  have HLI2 := HLI
  clear HENV HLI
  go_loopw [171] (fun iv wr => ∃ t : Nat, t ≤ 5 ∧ iv = .int .i64 t ∧ Env w b (.slice aa (nd A).length ca) (.slice ab (nd B).length cb) A B wr ∧ Li wr g xs) (fun iv _ => 5 - (intOf iv).toNat)
  case atStart => exact ⟨0, Nat.zero_le _, rfl, HEN2.out, HLI2.out⟩
  case round =>
    obtain ⟨t, htt, rfl, hen, hli⟩ := hrel
    have HENV := Lib.hid hen
    by_cases hlt : t < 5
    · have hcell := hli t (by rw [HXL.out]; exact hlt)
      obtain ⟨ik, hik⟩ : ∃ ik, ik = xs.getD t 0 := ⟨_, rfl⟩
      rw [← hik] at hcell
      have dt : (t : Int) < 5 := by omega
      have HLI := Lib.hid hli
      clear hli hik hen
      go_wp2_with fail
      refine (pow_int _ ik _ HENV.out.na (by omega)).mono ?_
      intro e wd1 hp
      obtain ⟨vd1, rfl, hvd1, hld1, hg⟩ := hp.ne
      have HVd := Lib.hid hvd1
      have HLd := Lib.hid hld1
      clear hp hvd1 hld1
      have HLIN := Lib.hid (HLI.out.gr hg)
      clear HLI
      have HLI := HLIN
      clear HLIN
      have HENVN := Lib.hid (HENV.out.gr hg)
      clear hg HENV
      have HENV := HENVN
      clear HENVN
      go_wp2_with fail
      refine (rpow_int _ ik _ HENV.out.na (by omega)).mono ?_
      intro e wd2 hp
      obtain ⟨vd2, rfl, hvd2, -, hg⟩ := hp.ne
      have HSd := Lib.hid (lsame (pwE A ik) vd1 vd2 _ (HVd.out.gr hg) hvd2 HLd.out)
      clear hp hvd2 HVd HLd
      have HLIN := Lib.hid (HLI.out.gr hg)
      clear HLI
      have HLI := HLIN
      clear HLIN
      have HENVN := Lib.hid (HENV.out.gr hg)
      clear hg HENV
      have HENV := HENVN
      clear HENVN
      go_wp2_with fail
      refine (HSd.out.mono ?_)
      rintro e wd3 ⟨rfl, hg⟩
      clear HSd
      have HLIN := Lib.hid (HLI.out.gr hg)
      clear HLI
      have HLI := HLIN
      clear HLIN
      have HENVN := Lib.hid (HENV.out.gr hg)
      clear hg HENV
      have HENV := HENVN
      clear HENVN
      go_wp2_with fail
      refine (choose_int n ik _).mono ?_
      intro e we1 hp
      obtain ⟨ve1, rfl, hve1, hle1, hg⟩ := hp.ne
      have HVe := Lib.hid hve1
      have HLe := Lib.hid hle1
      clear hp hve1 hle1
      have HLIN := Lib.hid (HLI.out.gr hg)
      clear HLI
      have HLI := HLIN
      clear HLIN
      have HENVN := Lib.hid (HENV.out.gr hg)
      clear hg HENV
      have HENV := HENVN
      clear HENVN
      go_wp2_with fail
      refine (rchoose_int n ik _).mono ?_
      intro e we2 hp
      obtain ⟨ve2, rfl, hve2, -, hg⟩ := hp.ne
      have HSe := Lib.hid (lsame (csE n ik) ve1 ve2 _ (HVe.out.gr hg) hve2 HLe.out)
      clear hp hve2 HVe HLe
      have HLIN := Lib.hid (HLI.out.gr hg)
      clear HLI
      have HLI := HLIN
      clear HLIN
      have HENVN := Lib.hid (HENV.out.gr hg)
      clear hg HENV
      have HENV := HENVN
      clear HENVN
      go_wp2_with fail
      refine (HSe.out.mono ?_)
      rintro e we3 ⟨rfl, hg⟩
      clear HSe
      have HLIN := Lib.hid (HLI.out.gr hg)
      clear HLI
      have HLI := HLIN
      clear HLIN
      have HENVN := Lib.hid (HENV.out.gr hg)
      clear hg HENV
      have HENV := HENVN
      clear HENVN
      go_wp2_with fail
      refine (next_any b 70 _ (by omega) (by omega) HENV.out.hc).mono ?_
      rintro e wf1 ⟨y, rfl, y0, y1, hc, he⟩
      have HEN3 := Lib.hid (HENV.out.ex he hc)
      have HLI3 := Lib.hid (HLI.out.ex he hgb)
      clear he hc HENV HLI
      have HENV := HEN3
      have HLI := HLI3
      clear HEN3 HLI3
      have HCE := Lib.hid (csE_eq (n := y) (k := ik) ⟨by omega, by omega⟩)
      go_wp2_with fail
      refine (choose_int y ik _).mono ?_
      intro e wf2 hp
      obtain ⟨vf, rfl, -, -, hg⟩ := hp.ne
      clear hp
      have HLIN := Lib.hid (HLI.out.gr hg)
      clear HLI
      have HLI := HLIN
      clear HLIN
      have HENVN := Lib.hid (HENV.out.gr hg)
      clear hg HENV
      have HENV := HENVN
      clear HENVN
      by_cases k0 : 0 ≤ ik
      · have d0 : decide (0 ≤ ik) = true := by simpa using k0
        by_cases k1 : ik ≤ 1024
        · have d3 : decide (ik ≤ 1024) = true := by simpa using k1
          have hE : (csE y ik == 0) = true := by rw [HCE.out, decide_eq_true_eq]; exact ⟨k0, k1⟩
          clear HCE
          generalize csE y ik = ce at *
          go_wp2_with fail
          case roundEnd =>
            exact ⟨⟨t + 1, by omega, by simp, HENV.out, HLI.out⟩, by simp [intOf]; omega⟩
        · have d3 : decide (ik ≤ 1024) = false := by simpa using k1
          have hE : (csE y ik == 0) = false := by rw [HCE.out, decide_eq_false_iff_not]; exact fun h => k1 h.2
          clear HCE
          generalize csE y ik = ce at *
          go_wp2_with fail
          case roundEnd =>
            exact ⟨⟨t + 1, by omega, by simp, HENV.out, HLI.out⟩, by simp [intOf]; omega⟩
      · have d0 : decide (0 ≤ ik) = false := by simpa using k0
        have hE : (csE y ik == 0) = false := by rw [HCE.out, decide_eq_false_iff_not]; exact fun h => k0 h.1
        clear HCE
        generalize csE y ik = ce at *
        go_wp2_with fail
        case roundEnd =>
          exact ⟨⟨t + 1, by omega, by simp, HENV.out, HLI.out⟩, by simp [intOf]; omega⟩
    · obtain rfl : t = 5 := by omega
      clear hli hen HEN2 HLI2 hgb
      go_wp2_with fail
      refine (nfrom_ne n _ n1).mono ?_
      intro e wg1 hp
      obtain ⟨vx, rfl, hx, hxl, hg⟩ := hp
      have HX := Lib.hid hx
      have HXL2 := Lib.hid hxl
      clear hx hxl
      have HENVN := Lib.hid (HENV.out.gr hg)
      clear hg HENV
      have HENV := HENVN
      clear HENVN
      go_wp2_with fail
      refine (rfrom_ne n _ n0 n1).mono ?_
      intro e wg2 hp
      obtain ⟨vy, rfl, hy, -, hg⟩ := hp
      have HX2 := Lib.hid (HX.out.gr hg)
      have HY2 := Lib.hid hy
      clear hy HX
      have HENVN := Lib.hid (HENV.out.gr hg)
      clear hg HENV
      have HENV := HENVN
      clear HENVN
      go_wp2_with fail
      refine (int_any _ _ HENV.out.na (by omega)).mono ?_
      intro e wg3 hp
      obtain ⟨rfl, hg⟩ := hp.plain
      have HX3 := Lib.hid (HX2.out.gr hg)
      have HY3 := Lib.hid (HY2.out.gr hg)
      clear hp HX2 HY2
      have HENVN := Lib.hid (HENV.out.gr hg)
      clear hg HENV
      have HENV := HENVN
      clear HENVN
      go_wp2_with fail
      refine (rint_any _ _ HENV.out.na (by omega)).mono ?_
      intro e wg4 hp
      obtain ⟨rfl, hg⟩ := hp.plain
      have HX4 := Lib.hid (HX3.out.gr hg)
      have HY4 := Lib.hid (HY3.out.gr hg)
      clear hp HX3 HY3
      have HENVN := Lib.hid (HENV.out.gr hg)
      clear hg HENV
      have HENV := HENVN
      clear HENVN
      have hps := Lib.hid (fun W => parse_any s.data.toList W (by have := Lib.size_eq s; omega))
      rw [str_of] at hps
      go_wp2_with fail
      refine (hps.out _).mono ?_
      intro e wg5 hp
      obtain ⟨vz, rfl, hz, hzl, hg⟩ := hp.ne
      have HX5 := Lib.hid (HX4.out.gr hg)
      have HY5 := Lib.hid (HY4.out.gr hg)
      have HZ := Lib.hid hz
      have HZL := Lib.hid hzl
      clear hp hz hzl HX4 HY4 hps
      have HENVN := Lib.hid (HENV.out.gr hg)
      clear hg HENV
      have HENV := HENVN
      clear HENVN
      go_wp2_with fail
      refine (rparse_any s _ (by omega)).mono ?_
      intro e wg6 hp
      obtain ⟨vw, rfl, hw, -, hg⟩ := hp.ne
      have HS1 := Lib.hid (lsame (frE n) vx vy _ (HX5.out.gr hg) (HY5.out.gr hg) HXL2.out)
      have HZ2 := Lib.hid (HZ.out.gr hg)
      have HW2 := Lib.hid hw
      clear hp hw HX5 HY5 HZ HXL2
      have HENVN := Lib.hid (HENV.out.gr hg)
      clear hg HENV
      have HENV := HENVN
      clear HENVN
      go_wp2_with fail
      refine (HS1.out.mono ?_)
      rintro e wg7 ⟨rfl, hg⟩
      have HS2 := Lib.hid (lsame (psE s.data.toList) vz vw _ (HZ2.out.gr hg) (HW2.out.gr hg) HZL.out)
      clear HS1 HZ2 HW2 HZL
      have HENVN := Lib.hid (HENV.out.gr hg)
      clear hg HENV
      have HENV := HENVN
      clear HENVN
      go_wp2_with fail
      refine (HS2.out.mono ?_)
      rintro e wg8 ⟨rfl, hg⟩
      clear HS2
      have HENVN := Lib.hid (HENV.out.gr hg)
      clear hg HENV
      have HENV := HENVN
      clear HENVN
      have HV1 := Lib.hid (nraw_any _ rl _ (HR.out.gr HENV.out.hg))
      have HV2 := Lib.hid (rraw_any _ rl _ (HR.out.gr HENV.out.hg))
      have HV3 := Lib.hid (num_valid HENV.out.na (by omega))
      generalize vraw rl = vr' at *
      go_wp2_with fail
      refine (HV1.out.mono ?_)
      rintro e wg9 ⟨rfl, rfl⟩
      go_wp2_with fail
      refine (HV2.out.mono ?_)
      rintro e wg9 ⟨rfl, rfl⟩
      go_wp2_with fail
      refine (HV3.out.mono ?_)
      rintro e wg9 ⟨rfl, rfl⟩
      go_wp2_with fail
      go_ret
      exact ⟨rfl, HENV.out.hg⟩
end Go.Proofs.YtikkobmccagdlaaGreatDoor
