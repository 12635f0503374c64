/- Several texts in one. -/
import Derived.Test.YtjpjnbgfodlkcaaGreatDoorGAS
import Derived.WalkKit
import Derived.WalkSpells
import Derived.WalkLawsBesides
import Derived.WalkSmall
import Derived.Handy
import Derived.BigQuiet
import Derived.Deep.QuietTactic
import Derived.Deep.RegionHeld3
import Derived.Deep.DeepFit
import Derived.Below
import Derived.Lib.Hide
import Derived.Lib.QuietBelow
import Derived.Test.YtjpjnbgfodlkcaaGreatDoorGAD
import Derived.Test.YtjpjnbgfodlkcaaGreatDoorGAI
import Derived.Test.YtjpjnbgfodlkcaaGreatDoorGAC
import Derived.Lib.ItoaNum
import Derived.Deep.DeepCutAuto
/- The document's Digits. -/
namespace Go.Proofs.YtjpjnbgfodlkcaaGreatDoor
open Go Go.RowKit Go.Sort
set_option maxRecDepth 100000
set_option linter.unusedVariables false
theorem txt_end {s : ByteArray} (H : ∀ j (hj : j < s.size), 48 ≤ s[j].toNat ∧ s[j].toNat ≤ 57) : digs s.data.toList := fun c hc => by
  obtain ⟨j, hj, rfl⟩ := List.getElem_of_mem hc
  have hsz := Lib.size_eq s
  exact H j (by omega)
theorem txt_not {s : ByteArray} {k : Nat} (hk : k < s.size) (h : ¬ (48 ≤ s[k].toNat ∧ s[k].toNat ≤ 57)) : ¬ txt s.data.toList := fun ht => by
  have hsz := Lib.size_eq s
  have e : s.data.toList[k]'(by omega) = s[k] := rfl
  exact h (e ▸ ht.1 _ (List.getElem_mem _))
theorem rdigits_any (s : ByteArray) (w : World) (hl : s.size ≤ 1000000) :
    Calls Tryz.prog 66 #[.string s] w fun e w' => e = .returned (.bool (decide (txt s.data.toList))) ∧ w = w' := by
  have hsz := Lib.size_eq s
  go_enter Tryz.func66, Tryz.ntmps66
  go_wp2
  go_loop [3] (fun i => ∃ k : Nat, k ≤ s.size ∧ i = .int .i64 k ∧ Hid (∀ j (hj : j < s.size), j < k → 48 ≤ s[j].toNat ∧ s[j].toNat ≤ 57)) (fun i => s.size - (intOf i).toNat)
  case atStart => exact ⟨0, Nat.zero_le _, rfl, Lib.hid (fun j _ hj => absurd hj (Nat.not_lt_zero j))⟩
  case round =>
    obtain ⟨k, hk, rfl, HK⟩ := hrel
    by_cases hlt : k < s.size
    · by_cases hd : 48 ≤ s[k].toNat ∧ s[k].toNat ≤ 57
      · have HK2 := Lib.hid (show ∀ j (hj : j < s.size), j < k + 1 → 48 ≤ s[j].toNat ∧ s[j].toNat ≤ 57 from fun j hj h => by
          rcases Nat.lt_or_eq_of_le (Nat.le_of_lt_succ h) with h | rfl
          · exact HK.out j hj h
          · exact hd)
        have u0 : ¬ (s[k].toNat : Int) < 48 := by omega
        have u1 : ¬ 57 < (s[k].toNat : Int) := by omega
        clear hd HK hsz
        go_wp2
        go_round
        case rel => exact ⟨k + 1, by omega, by go_num, HK2⟩
        case measure => simp [intOf]; omega
      · have HV := Lib.hid (decide_eq_false (txt_not hlt hd))
        clear HK
        by_cases h48 : s[k].toNat < 48
        · have u0 : (s[k].toNat : Int) < 48 := by omega
          clear hd h48 hsz
          go_wp2
          go_ret
          exact ⟨ret_bool HV.out.symm, rfl⟩
        · have u0 : ¬ (s[k].toNat : Int) < 48 := by omega
          have u1 : 57 < (s[k].toNat : Int) := by omega
          clear hd h48 hsz
          go_wp2
          go_ret
          exact ⟨ret_bool HV.out.symm, rfl⟩
    · obtain rfl : k = s.size := by omega
      have hd := txt_end (fun j hj => HK.out j hj hj)
      clear HK
      by_cases h0 : s.size = 0
      · have hz : s.data.toList.length = 0 := by rw [← hsz]; exact h0
        have ht : ¬ txt s.data.toList := fun h => h.2.1 (List.length_eq_zero_iff.1 hz)
        have HV := Lib.hid (decide_eq_false ht)
        have d0 : decide ((0 : Int) < (s.size : Int)) = false := by rw [decide_eq_false_iff_not]; omega
        clear hd ht hz hsz
        go_wp2
        go_ret
        exact ⟨ret_bool HV.out.symm, rfl⟩
      · have hs0 : 0 < s.size := by omega
        have d0 : decide ((0 : Int) < (s.size : Int)) = true := by rw [decide_eq_true_eq]; omega
        have e0 : s.data.toList[0]'(by omega) = s[0] := rfl
        have hh : s.data.toList.head? = some s[0] := by rw [List.head?_eq_getElem?, List.getElem?_eq_getElem (by omega), e0]
        have hne : s.data.toList ≠ [] := fun h => by have hq := congrArg List.length h; rw [List.length_nil] at hq; omega
        by_cases h1 : s.size = 1
        · have d1 : ((s.size : Int) == 1) = true := by rw [beq_iff_eq]; omega
          have ht : txt s.data.toList := by
            refine ⟨hd, hne, ?_⟩
            by_cases h48 : s[0] = 48
            · refine .inl ?_
              obtain ⟨c, hc⟩ := List.length_eq_one_iff.1 (show s.data.toList.length = 1 by omega)
              rw [hc] at hh
              rw [hc]
              simp at hh
              rw [hh, h48]
            · refine .inr ?_
              rw [hh]
              simpa using h48
          have HV := Lib.hid (decide_eq_true ht)
          clear hd ht e0 hsz hh hne
          go_wp2
          go_ret
          exact ⟨ret_bool HV.out.symm, rfl⟩
        · have d1 : ((s.size : Int) == 1) = false := by rw [beq_eq_false_iff_ne]; omega
          have HV : Hid (decide (txt s.data.toList) = (((s[0].toNat : Nat) : Int) != 48)) := Lib.hid (by
            rw [Bool.eq_iff_iff, decide_eq_true_eq, bne_iff_ne]
            constructor
            · intro h hc
              rcases h.2.2 with h | h
              · have hq := congrArg List.length h; rw [List.length_singleton] at hq; omega
              · exact h (by rw [hh]; exact congrArg some (UInt8.toNat_inj.1 (by show s[0].toNat = 48; omega)))
            · intro h
              refine ⟨hd, hne, .inr ?_⟩
              rw [hh]
              intro hc
              have := Option.some.inj hc
              exact h (by rw [this]; rfl))
          clear hd e0 hsz hh hne
          go_wp2
          go_ret
          exact ⟨ret_bool HV.out.symm, rfl⟩
end Go.Proofs.YtjpjnbgfodlkcaaGreatDoor
/- Lists of numbers; sums, differences and products without an error. -/
namespace Go.Proofs.YtjpjnbgfodlkcaaGreatDoor
open Go Go.RowKit Go.Sort
set_option maxRecDepth 100000
set_option linter.unusedVariables false

/-- numbers that can be read -/
def Nums (w : World) (l : List (Value × Nat)) : Prop := ∀ p ∈ l, Num w p.1 p.2
theorem Nums.nil (w : World) : Nums w [] := fun _ h => by cases h
theorem Nums.gr {w w' : World} {l : List (Value × Nat)} (h : Nums w l) (g : Gr w w') : Nums w' l := fun p hp => (h p hp).gr g
theorem Nums.cons {w : World} {l : List (Value × Nat)} (h : Nums w l) {v : Value} {N : Nat} (hv : Num w v N) : Nums w ((v, N) :: l) := fun p hp => by
  rcases List.mem_cons.1 hp with rfl | hp
  · exact hv
  · exact h p hp
theorem Nums.get {w : World} {l : List (Value × Nat)} (h : Nums w l) (v : Value) (N : Nat) (hm : (v, N) ∈ l) : Num w v N := h _ hm
theorem nd_add_len {A B k : Nat} (hA : (nd A).length ≤ k) (hB : (nd B).length ≤ k) : (nd (A + B)).length ≤ k + 1 := by
  rw [nd_len] at *; rw [bp_succ]; omega
theorem nd_mul_len {A B j k : Nat} (hA : (nd A).length ≤ j) (hB : (nd B).length ≤ k) : (nd (A * B)).length ≤ j + k := by
  rw [nd_len] at *
  rw [Nat.pow_add]
  exact Nat.mul_lt_mul_of_lt_of_le hA (Nat.le_of_lt hB) (bp_pos k)
/-- a number without an error -/
def Ok2 (w : World) (N : Nat) (e : Ending) (w' : World) : Prop := ∃ v, e = .returned (.tuple #[v, .int .i64 0]) ∧ Num w' v N ∧ Gr w w'
theorem Res.ok {w w' : World} {N : Nat} {e : Ending} (h : Res w N e w') (hN : (nd N).length ≤ 256) : Ok2 w N e w' := by
  obtain ⟨v, er, rfl, ⟨-, rfl, hn⟩ | ⟨hf, -⟩, hg⟩ := h
  · exact ⟨v, rfl, hn, hg⟩
  · omega
theorem add_ok {A B : Nat} (va vb : Value) (w : World) (hA : Num w va A) (hB : Num w vb B) (lA : (nd A).length ≤ 100) (lB : (nd B).length ≤ 100) : Calls Tryz.prog 38 #[va, vb] w (Ok2 w (A + B)) :=
  (add_any va vb w hA hB (by omega) (by omega)).mono fun _ _ h => h.ok (by have := nd_add_len lA lB; omega)
theorem mul_ok {A B : Nat} (va vb : Value) (w : World) (hA : Num w va A) (hB : Num w vb B) (lA : (nd A).length ≤ 100) (lB : (nd B).length ≤ 100) : Calls Tryz.prog 37 #[va, vb] w (Ok2 w (A * B)) :=
  (mul_any va vb w hA hB (by omega) (by omega)).mono fun _ _ h => h.ok (by have := nd_mul_len lA lB; omega)
theorem sub_ok {A B : Nat} (va vb : Value) (w : World) (hA : Num w va A) (hB : Num w vb B) (hBA : B ≤ A) (lA : (nd A).length ≤ 100) (lB : (nd B).length ≤ 100) : Calls Tryz.prog 41 #[va, vb] w (Ok2 w (A - B)) :=
  (sub_any va vb w hA hB (by omega) (by omega)).mono fun _ _ h => by
    obtain ⟨v, er, rfl, ⟨-, rfl, hn⟩ | ⟨hf, -⟩, hg⟩ := h
    · exact ⟨v, rfl, hn, hg⟩
    · omega
end Go.Proofs.YtjpjnbgfodlkcaaGreatDoor
/- Pow at any number and any exponent, both sides. -/
namespace Go.Proofs.YtjpjnbgfodlkcaaGreatDoor
open Go Go.RowKit Go.Sort Go.Shelf
set_option maxRecDepth 100000
set_option linter.unusedVariables false
theorem num_lit1 (w : World) {x : Nat} (h0 : 0 < x) (h1 : x < 1073741824) : Num (w.alloc (.cells #[.int .i64 (x : Nat)] 3)) (.slice (some ⟨w.heap.size, 0, none⟩) 1 1) x := by
  unfold Num
  rw [nd_one h0 h1]
  refine ⟨_, 1, rfl, Nat.le_refl _, by omega, fun i hi => ⟨w.heap.size, 0, rfl, trivial, ?_⟩⟩
  obtain rfl : i = 0 := by simp at hi; omega
  simp
theorem half_up (K m : Nat) : K / 2 ^ m = 2 * (K / 2 ^ (m + 1)) + K / 2 ^ m % 2 := by
  rw [Nat.pow_succ, ← Nat.div_div_eq_div_mul]; omega
theorem pow_lim {A a b : Nat} (h : a ≤ b) (hl : 256 < (nd (A ^ a)).length) : 256 < (nd (A ^ b)).length := by
  rcases Nat.eq_zero_or_pos A with rfl | hA
  · have : (nd (0 ^ a)).length ≤ 1 := by
      rw [nd_len]
      rcases Nat.eq_zero_or_pos a with rfl | ha
      · simp
      · rw [Nat.zero_pow ha]; omega
    omega
  · exact Nat.lt_of_lt_of_le hl (nd_mono (Nat.pow_le_pow_right hA h))
theorem div_pow_le (K m : Nat) : K / 2 ^ m ≤ K := Nat.div_le_self _ _
theorem and1 (n : Nat) : bits .and .i64 ((n : Nat) : Int) 1 = (n : Int) % 2 := by
  have h30 : (BitVec.ofInt 64 1).toNat = 2 ^ 1 - 1 := by decide
  have key : (BitVec.ofInt 64 n &&& BitVec.ofInt 64 1).toNat = ((n : Int) % ((2 ^ 64 : Nat) : Int)).toNat % 2 ^ 1 := by
    rw [BitVec.toNat_and, BitVec.toNat_ofInt, h30, Nat.and_two_pow_sub_one_eq_mod]
  show IntKind.i64.wrap ((BitVec.ofInt 64 n &&& BitVec.ofInt 64 1).toNat : Nat) = (n : Int) % 2
  rw [key, IntKind.wrap_i64]
  omega
def PwRel (w : World) (A K : Nat) (v e i : Value) (wr : World) : Prop :=
  ∃ (j : Nat) (x : Int), i = .int .i64 x ∧ x + 1 = j ∧ j ≤ 64 ∧ Gr w wr ∧
    ((e = .int .i64 0 ∧ Num wr v (A ^ (K / 2 ^ j)) ∧ (nd (A ^ (K / 2 ^ j))).length ≤ 256) ∨ (e = .int .i64 5 ∧ v = .slice none 0 0 ∧ 256 < (nd (A ^ K)).length))
/-- a power, or ErrLimit, or ErrRange -/
def PwPost (w : World) (A : Nat) (k : Int) (e : Ending) (w' : World) : Prop := if 0 ≤ k ∧ k ≤ 65536 then Res w (A ^ k.toNat) e w' else (e = .returned (.tuple #[.slice none 0 0, .int .i64 1]) ∧ Gr w w')
/-- the loop of the document's Pow -/
def RpRel (w : World) (A K : Nat) (v s : Value) (wr : World) : Prop := ∃ i : Nat, s = .int .i64 i ∧ i ≤ K ∧ Num wr v (A ^ i) ∧ (nd (A ^ i)).length ≤ 256 ∧ Gr w wr
end Go.Proofs.YtjpjnbgfodlkcaaGreatDoor
