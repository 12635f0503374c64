/- Several texts in one. -/
import Derived.Test.YtjpjnbgfodlkcaaGreatDoorGAA
import Derived.WalkKit
import Derived.WalkSpells
import Derived.WalkLawsBesides
import Derived.WalkSmall
import Derived.Handy
import Derived.BigQuiet
import Derived.Deep.QuietTactic
import Derived.Deep.RegionHeld3
import Derived.Deep.DeepFit
import Derived.Below
import Derived.Lib.Hide
import Derived.Lib.QuietBelow
import Derived.Maps.AppendAt
import Derived.Laws.OwnMore
import Derived.RangeFuncNested
import Derived.RangeFuncBound
import Derived.RangeFuncCalls
import Derived.RangeFuncLeaves
import Derived.RangeFuncBox
import Derived.Shelf.Abstract
import Derived.Shelf.RegionOpen
import Derived.OwnWalkIn
import Derived.TacticsInMore
import Derived.LoopNIn
import Derived.LoopIn
import Derived.Test.YtjpjnbgfodlkcaaGreatDoorShelf
/- Valid. -/
namespace Go.Proofs.YtjpjnbgfodlkcaaGreatDoor
open Go Go.RowKit Go.Sort
set_option maxRecDepth 100000
set_option linter.unusedVariables false

theorem valid_yes {p : Nat → Prop} {v : Value} {l : List Nat} (w : World) (h : Rd p w v l) (hL : Lim l) (hn : l.length ≤ 256) (hz : l = [] ∨ l.getD (l.length - 1) 0 ≠ 0) :
    Calls Tryz.prog 59 #[v] w fun e w' => e = .returned (.bool true) ∧ w = w' := by
  obtain ⟨a, cap, rfl, hl', hcap, H⟩ := h
  have HH := Lib.hid H
  have HL := Lib.hid hL
  have HZ := Lib.hid hz
  clear H hL hz
  have d : decide (256 < l.length) = false := by simpa using hn
  go_enter Tryz.func59, Tryz.ntmps59
  go_wp2
  go_loop [9] (fun s => ∃ k : Nat, k ≤ l.length ∧ s = .int .i64 k) (fun s => l.length - (intOf s).toNat)
  case atStart => exact ⟨0, Nat.zero_le _, rfl⟩
  case round =>
    obtain ⟨k, hk, rfl⟩ := hrel
    by_cases hlt : k < l.length
    · obtain ⟨b, off, rfl, -, hc⟩ := HH.out k hlt
      have hx := lim_getD HL.out k
      generalize l.getD k 0 = x at *
      have x1 : (x : Int) ≤ 1073741823 := by omega
      have x0 : (0 : Int) ≤ (x : Int) := by omega
      go_wp2
      go_round
      case rel => exact ⟨k + 1, by omega, by go_num⟩
      case measure => simp [intOf]; omega
    · obtain rfl : k = l.length := by omega
      by_cases h0 : l.length = 0
      · have d2 : ((l.length : Int) == 0) = true := by rw [beq_iff_eq]; omega
        go_wp2
        go_ret
        exact ⟨rfl, rfl⟩
      · obtain ⟨b, off, rfl, -, hc⟩ := HH.out (l.length - 1) (by omega)
        have hx : l.getD (l.length - 1) 0 ≠ 0 := HZ.out.resolve_left (fun e => h0 (by rw [e]; rfl))
        generalize l.getD (l.length - 1) 0 = x at *
        have d2 : ((l.length : Int) == 0) = false := by rw [beq_eq_false_iff_ne]; omega
        have d3 : ((x : Int) != 0) = true := by simp; omega
        have d4 : (l.length : Int) - 1 = ((l.length - 1 : Nat) : Int) := by omega
        go_wp2
        go_ret
        exact ⟨rfl, rfl⟩
theorem and30 (n : Int) : bits .and .i64 n 1073741823 = n % 1073741824 := by
  have h30 : (BitVec.ofInt 64 1073741823).toNat = 2 ^ 30 - 1 := by decide
  have key : (BitVec.ofInt 64 n &&& BitVec.ofInt 64 1073741823).toNat = (n % ((2 ^ 64 : Nat) : Int)).toNat % 2 ^ 30 := by
    rw [BitVec.toNat_and, BitVec.toNat_ofInt, h30, Nat.and_two_pow_sub_one_eq_mod]
  show IntKind.i64.wrap ((BitVec.ofInt 64 n &&& BitVec.ofInt 64 1073741823).toNat : Nat) = n % 1073741824
  rw [key, IntKind.wrap_i64]
  omega
end Go.Proofs.YtjpjnbgfodlkcaaGreatDoor
/- Lists of limbs that a call owns. -/
namespace Go.Proofs.YtjpjnbgfodlkcaaGreatDoor
open Go Go.RowKit Go.Sort
set_option maxRecDepth 100000
set_option linter.unusedVariables false

theorem Gr.owns {w w' : World} {base : Nat} {e : TypeId} {size : Nat} {v : Value} {n : Nat} {xs : List Value} (g : Gr w w') (h : w.ownsRow base e size v n xs) : w'.ownsRow base e size v n xs :=
  h.kept (row := none) ⟨Below.os g, Below.tape g, Below.output g, Gr.size g, fun k hk _ => Below.block g k hk⟩ (Decidable.em _)
theorem Gr.grown {u v w : World} {row : Option Nat} (h : Gr u v) (g : v.grownBy w row) (hr : ∀ k, row = some k → u.heap.size ≤ k) : Gr u w :=
  ⟨g.os.trans (Below.os h), g.tape.trans (Below.tape h), g.output.trans (Below.output h), Nat.le_trans (Below.size h) g.size, fun j hj => (g.block j (Nat.lt_of_lt_of_le hj (Below.size h)) (fun hc => by have := hr j hc.symm; omega)).trans (Below.block h j hj)⟩
theorem ownsRow_base {w : World} {b b' : Nat} {e : TypeId} {size : Nat} {v : Value} {n : Nat} {xs : List Value} (hb : b' ≤ b) (h : w.ownsRow b e size v n xs) : w.ownsRow b' e size v n xs :=
  ⟨h.1, h.2.imp id fun ⟨g, cap, cur, h1, h2, h3⟩ => ⟨g, cap, cur, h1, by omega, h3⟩⟩
/-- a limb as a value -/
def lv (n : Nat) : Value := .int .i64 (n : Nat)
/-- the list of limbs l, in memory of its own from base on -/
def Own (w : World) (base : Nat) (v : Value) (l : List Nat) : Prop := w.ownsRow base 3 1 v l.length (l.map lv)
theorem intInfo : ∃ i, Tryz.prog.info? 3 = some i ∧ i.zero = some (.int .i64 0) ∧ i.size = 1 ∧ i.bytes = 8 := by
  have h : (Tryz.prog.info? 3).map (fun i => (i.zero, i.size, i.bytes)) = some (some (.int .i64 0), 1, 8) := by kernel_rfl
  obtain ⟨i, h1, h2, h3, h4⟩ := info_parts h
  exact ⟨i, h1, h2, h3, h4⟩
theorem Own.nil (w : World) (base : Nat) : Own w base (.slice none 0 0) [] := World.ownsRow_nil _ _ _ _
theorem Own.gr {w w' : World} {base : Nat} {v : Value} {l : List Nat} (h : Own w base v l) (g : Gr w w') : Own w' base v l := Gr.owns g h
/-- what is owned: nil, or a block -/
theorem Own.is {w : World} {base : Nat} {v : Value} {l : List Nat} (h : Own w base v l) :
    (v = .slice none 0 0 ∧ l = []) ∨ ∃ g cap : Nat, v = .slice (some ⟨g, 0, none⟩) l.length cap ∧ base ≤ g ∧ l.length ≤ cap ∧ cap ≤ 9223372036854775807 ∧ Arr w g 0 l ∧ g < w.heap.size := by
  rcases h.2 with ⟨e, hn⟩ | ⟨g, cap, cur, e, hb, hh, hc, hm, hs, ht⟩
  · exact .inl ⟨e, List.length_eq_zero_iff.1 hn⟩
  · refine .inr ⟨g, cap, e, hb, hc, by unfold maxLen at hm; omega, ?_, (Array.getElem?_eq_some_iff.1 hh).1⟩
    intro i hi
    have h' := h
    unfold Own at h'
    rw [e] at h'
    rw [Nat.zero_add, h'.cellAt i (by omega), h'.frozenAt i, List.getElem?_map, List.getD_eq_getElem?_getD, List.getElem?_eq_getElem hi]
    exact ⟨rfl, rfl⟩
theorem Own.rd {w : World} {base : Nat} {v : Value} {l : List Nat} (h : Own w base v l) : Rd (fun b => base ≤ b) w v l := by
  rcases h.is with ⟨rfl, rfl⟩ | ⟨g, cap, rfl, hb, hc, hm, ha, -⟩
  · exact Rd.nil _ _
  · exact ha.rd hc hm hb
theorem Own.num {w : World} {base : Nat} {v : Value} {l : List Nat} (h : Own w base v l) {N : Nat} (e : l = nd N) : Num w v N := by
  subst e; exact h.rd.any
theorem Own.arr {w : World} {base g n cap : Nat} {l : List Nat} (h : Own w base (.slice (some ⟨g, 0, none⟩) n cap) l) : n = l.length ∧ Arr w g 0 l ∧ g < w.heap.size ∧ n ≤ cap ∧ cap ≤ 9223372036854775807 := by
  rcases h.is with ⟨e, -⟩ | ⟨g', cap', e, -, hc, hm, ha, hg⟩
  · cases e
  · cases e; exact ⟨rfl, ha, hg, hc, hm⟩
theorem own_made {w : World} {base n : Nat} {v : Value} (h : w.ownsRow base 3 1 v n (madeCells (Value.int .i64 0).cells (n * 1)).toList) : Own w base v (List.replicate n 0) := by
  unfold Own
  rw [List.length_replicate, List.map_replicate]
  have e : (madeCells (Value.int .i64 0).cells (n * 1)).toList = List.replicate n (lv 0) := by
    rw [Nat.mul_one]; exact toList_madeCells_one (.int .i64 0) n
  rw [← e]; exact h
/-- a number, or an error because it has too many limbs -/
def Res (w : World) (N : Nat) (e : Ending) (w' : World) : Prop :=
  ∃ (v : Value) (er : Int), e = .returned (.tuple #[v, .int .i64 er]) ∧ (((nd N).length ≤ 256 ∧ er = 0 ∧ Num w' v N) ∨ (256 < (nd N).length ∧ er = 5 ∧ v = .slice none 0 0)) ∧ Gr w w'
theorem num_valid {w : World} {v : Value} {N : Nat} (h : Num w v N) (hN : (nd N).length ≤ 256) : Calls Tryz.prog 59 #[v] w fun e w' => e = .returned (.bool true) ∧ w = w' := by
  refine valid_yes w h (lim_nd N) hN ?_
  by_cases h0 : N = 0
  · subst h0; exact .inl nd_zero
  · exact .inr (nd_last (by omega))
theorem num_fit {p : Nat → Prop} {w W : World} {v : Value} {N : Nat} (h : Rd p w v (nd N)) (hG : Gr W w) : Calls Tryz.prog 72 #[v] w (Res W N) := by
  by_cases hl : (nd N).length ≤ 256
  · refine (fit_ok w h hl).mono ?_
    rintro e w' ⟨rfl, rfl⟩
    exact ⟨v, 0, rfl, .inl ⟨hl, rfl, h.any⟩, hG⟩
  · refine (fit_no w h (by omega)).mono ?_
    rintro e w' ⟨rfl, rfl⟩
    exact ⟨_, 5, rfl, .inr ⟨by omega, rfl, rfl⟩, hG⟩
end Go.Proofs.YtjpjnbgfodlkcaaGreatDoor
/- slices.Backward over limbs: the iterator's contract. -/
namespace Go.Proofs.YtjpjnbgfodlkcaaGreatDoor
open Go Go.RowKit Go.Shelf
set_option maxRecDepth 100000
set_option linter.unusedVariables false
attribute [local go_sem] Oper.semAt_some

/-- the indexes from n - 1 down to m -/
def dn (n m : Nat) : List Nat := ((List.range n).drop m).reverse
theorem dn_end (n : Nat) : dn n n = [] := by simp [dn]
theorem dn_step {n m : Nat} (h : m < n) : dn n m = dn n (m + 1) ++ [m] := by
  unfold dn
  rw [List.drop_eq_getElem_cons (by simpa using h), List.reverse_cons]; simp
theorem dn_length (n m : Nat) : (dn n m).length = n - m := by simp [dn]
theorem dn_last {n m : Nat} {pre : List Nat} {x : Nat} (hm : m ≤ n) (h : pre ++ [x] = dn n m) : m < n ∧ pre = dn n (m + 1) ∧ x = m := by
  have hl := congrArg List.length h
  rw [dn_length] at hl
  simp at hl
  have hlt : m < n := by omega
  rw [dn_step hlt] at h
  obtain ⟨h1, h2⟩ := List.append_inj' h rfl
  exact ⟨hlt, h1, by simpa using h2⟩
theorem dn_mem {n m i : Nat} (h : m ≤ i) (hi : i < n) : i ∈ dn n m := by
  simp only [dn, List.mem_reverse, List.mem_drop_iff_getElem]
  exact ⟨i - m, by simp; omega, by simp; omega⟩
theorem dn_inj {n m k : Nat} (hm : m ≤ n) (hk : k ≤ n) (h : dn n m = dn n k) : m = k := by
  have := congrArg List.length h
  rw [dn_length, dn_length] at this; omega
/-- an index and what was read there -/
abbrev Ix (n : Nat) (ok : Nat → Int → Prop) := { x : Nat × Int // x.1 < n ∧ ok x.1 x.2 }
def ixs {n : Nat} {ok : Nat → Int → Prop} (l : List (Ix n ok)) : List Nat := l.map fun x => x.1.1
theorem ixs_snoc {n : Nat} {ok : Nat → Int → Prop} (l : List (Ix n ok)) (x : Ix n ok) : ixs (l ++ [x]) = ixs l ++ [x.1.1] := by simp [ixs]
/-- the cells can be read -/
def BW (b off n : Nat) (ok : Nat → Int → Prop) (W : World) : Prop := ∀ j, j < n → ∃ z : Int, W.cell? ⟨b, off + j, none⟩ = some (.int .i64 z) ∧ ok j z
/-- what a round keeps -/
def BKp (Bs : Nat) (sv : Value) (b off n : Nat) (ok : Nat → Int → Prop) (W W' : World) : Prop :=
  (W.cell? ⟨Bs, 0, none⟩ = some sv → W'.cell? ⟨Bs, 0, none⟩ = some sv) ∧ (BW b off n ok W → BW b off n ok W')
theorem bkp_t {Bs : Nat} {sv : Value} {b off n : Nat} {ok : Nat → Int → Prop} {A B C : World} (h : BKp Bs sv b off n ok A B) (k : BKp Bs sv b off n ok B C) : BKp Bs sv b off n ok A C :=
  ⟨fun e => k.1 (h.1 e), fun e => k.2 (h.2 e)⟩
theorem bkp_b {Bs : Nat} {sv : Value} {b off n : Nat} {ok : Nat → Int → Prop} (W : World) (l : Nat) (o o' : Obj) (h : W.heap[l]? = some o) (hc : o.isCells = false) : BKp Bs sv b off n ok W (W.putObj l o') := by
  have key : ∀ (c k : Nat) (v : Value), W.cell? ⟨c, k, none⟩ = some v → (W.putObj l o').cell? ⟨c, k, none⟩ = some v := fun c k v hv => by
    refine cell_kept hv (grownBy_putObj' _ l o') (fun r e => by cases e; exact ⟨_, h, hc⟩)
  exact ⟨fun e => key _ _ _ e, fun e j hj => by obtain ⟨z, hz, hk⟩ := e j hj; exact ⟨z, key _ _ _ hz, hk⟩⟩
theorem bkp_below {Bs : Nat} {sv : Value} {b off n n₀ : Nat} {ok : Nat → Int → Prop} {W W' : World} (h : Below n₀ W W') (h1 : Bs < n₀) (h2 : b < n₀) : BKp Bs sv b off n ok W W' :=
  ⟨fun e => (h.cell (p := ⟨Bs, 0, none⟩) h1).trans e, fun e j hj => by obtain ⟨z, hz, hk⟩ := e j hj; exact ⟨z, (h.cell (p := ⟨b, off + j, none⟩) h2).trans hz, hk⟩⟩

set_option maxHeartbeats 2000000 in
/-- the closure of slices.Backward: from the last index down -/
theorem back1_in (F : Fence) (n : Nat) (hf : F.fn 100) (hro : F.round = none) (hn : 1 ≤ n) (l Bs b off len cap : Nat) (ok : Nat → Int → Prop) (hlen : len ≤ 1000000) (J Jx : List (Ix len ok) → World → Prop)
    (hY : ∀ pre x W, J pre W → pre.length < len → YieldAt F (n - 1) Tryz.prog l #[.int .i64 (x.1.1 : Nat), .int .i64 x.1.2] W fun e W' =>
      (e = .returned (.bool true) ∧ J (pre ++ [x]) W' ∧ BKp Bs (.slice (some ⟨b, off, none⟩) len cap) b off len ok W W') ∨ (e = .returned (.bool false) ∧ Jx (pre ++ [x]) W'))
    (W : World) (hBs : W.cell? ⟨Bs, 0, none⟩ = some (.slice (some ⟨b, off, none⟩) len cap)) (hc : BW b off len ok W) (h0 : J [] W) :
    CallsIn F n Tryz.prog 100 #[.func (.yield l) #[] #[], .pointer (some ⟨Bs, 0, none⟩)] W fun e W' => (∃ v, e = .returned v) ∧
      ((∃ ys, ixs ys = dn len 0 ∧ J ys W') ∨ (∃ pre, (∃ m, m ≤ len ∧ ixs pre = dn len m) ∧ Jx pre W')) := by
  have HC := Lib.hid hc
  have HY := Lib.hid hY
  have H0 := Lib.hid h0
  have HB := Lib.hid hBs
  clear hc hY h0
  refine callsIn_of_wp Tryz.func100 rfl hf ?_ hro
  simp only [Tryz.ntmps100, List.size_toArray, List.length_cons, List.length_nil, Nat.reduceAdd, Nat.reduceSub, Array.replicate_succ, Array.replicate_zero, List.push_toArray, List.append_toArray, List.nil_append, List.cons_append]
  gi_wp2
  clear hBs
  gi_loopw [3] (fun i wr => ∃ (m : Nat) (xs : List (Ix len ok)), m ≤ len ∧ i = .int .i64 ((m : Int) - 1) ∧ ixs xs = dn len m ∧ J xs wr ∧ wr.cell? ⟨Bs, 0, none⟩ = some (.slice (some ⟨b, off, none⟩) len cap) ∧ BW b off len ok wr)
    (fun i _ => (intOf i + 1).toNat)
  case atStart => exact ⟨len, [], Nat.le_refl _, rfl, by rw [dn_end]; rfl, H0.out, HB.out, HC.out⟩
  case round =>
    obtain ⟨m, xs, hm, rfl, hx, hJ, hcB, hcW⟩ := hrel
    have HX := Lib.hid hx
    have HW := Lib.hid hcW
    clear hx hcW
    by_cases hlt : 0 < m
    · obtain ⟨k, rfl⟩ : ∃ k, m = k + 1 := ⟨m - 1, by omega⟩
      obtain ⟨z, hz, hok⟩ := HW.out k (by omega)
      obtain ⟨fn, tmps, assign, body, hy, hR⟩ := HY.out xs ⟨(k, z), by omega, hok⟩ wr hJ (by
        have := congrArg List.length HX.out
        rw [dn_length] at this
        simp only [ixs, List.length_map] at this
        omega)
      dsimp only at hy
      have e1 : ((k + 1 : Nat) : Int) - 1 = (k : Int) := by omega
      rw [e1]
      have k0 : (0 : Int) ≤ (k : Int) := by omega
      have k1 : (k : Int) < (len : Int) := by omega
      clear e1
      gi_wp2
      refine hR.mono ?_
      rintro e W3 (⟨rfl, hJ3, hk3⟩ | ⟨rfl, hJx3⟩)
      · have hB3 := hk3.1 hcB
        have hW3 := hk3.2 HW.out
        gi_wp2
        go_roundw
        case rel => exact ⟨k, xs ++ [⟨(k, z), by omega, hok⟩], by omega, rfl, by rw [ixs_snoc, HX.out, ← dn_step (by omega)], hJ3, hB3, hW3⟩
        case measure => simp [intOf]
      · gi_wp2
        refine bodyPost_ret (results_none rfl _ _ _) rfl ?_
        exact ⟨⟨_, rfl⟩, .inr ⟨_, ⟨k, by omega, by rw [ixs_snoc, HX.out, ← dn_step (by omega)]⟩, hJx3⟩⟩
    · obtain rfl : m = 0 := by omega
      have e1 : ((0 : Nat) : Int) - 1 = -1 := rfl
      rw [e1]
      clear e1
      gi_wp2
      go_end0
      exact ⟨⟨_, rfl⟩, .inl ⟨xs, HX.out, hJ⟩⟩
set_option maxHeartbeats 1000000 in
/-- .. of no limbs: no round -/
theorem back1_nil_in (F : Fence) (n : Nat) (hf : F.fn 100) (hro : F.round = none) (l Bs cap : Nat) (a : Option Addr) {α : Type} (J : List α → World → Prop) (W : World) (hBs : W.cell? ⟨Bs, 0, none⟩ = some (.slice a 0 cap)) (h0 : J [] W) :
    CallsIn F n Tryz.prog 100 #[.func (.yield l) #[] #[], .pointer (some ⟨Bs, 0, none⟩)] W fun e W' => (∃ v, e = .returned v) ∧ J [] W' := by
  have H0 := Lib.hid h0
  clear h0
  refine callsIn_of_wp Tryz.func100 rfl hf ?_ hro
  simp only [Tryz.ntmps100, List.size_toArray, List.length_cons, List.length_nil, Nat.reduceAdd, Nat.reduceSub, Array.replicate_succ, Array.replicate_zero, List.push_toArray, List.append_toArray, List.nil_append, List.cons_append]
  gi_wp2
  gi_loopw [3] (fun i wr => i = .int .i64 (-1) ∧ J [] wr) (fun _ _ => 0)
  case atStart => exact ⟨rfl, H0.out⟩
  case round =>
    obtain ⟨rfl, hJs⟩ := hrel
    gi_wp2
    go_end0
    exact ⟨⟨_, rfl⟩, hJs⟩
theorem back_in (F : Fence) (n : Nat) (hf : F.fn 77) (hro : F.round = none) (a : Option Addr) (len cap : Nat) (w : World) :
    CallsIn F n Tryz.prog 77 #[.slice a len cap] w fun e w' => e = .returned (.func (.func 100) #[] #[.pointer (some ⟨w.heap.size, 0, none⟩)]) ∧ w' = w.alloc (.cells #[.slice a len cap] 24) := by
  refine callsIn_of_wp Tryz.func77 rfl hf ?_ hro
  simp only [Tryz.ntmps77, List.size_toArray, List.length_cons, List.length_nil, Nat.reduceAdd, Nat.reduceSub, Array.replicate_succ, Array.replicate_zero, List.push_toArray, List.append_toArray, List.nil_append, List.cons_append]
  gi_wp2
  go_ret
  exact ⟨rfl, rfl⟩
/-- the slice that is gone through: none of its limbs, or cells that can be read -/
def BS (w : World) (a : Option Addr) (len : Nat) (ok : Nat → Int → Prop) (b off : Nat) : Prop := len = 0 ∨ (a = some ⟨b, off, none⟩ ∧ b < w.heap.size ∧ BW b off len ok w)
theorem back_stops (F : Fence) (n : Nat) (hf : F.fn 100) (hro : F.round = none) (hn : 1 ≤ n) (Bs b off len cap : Nat) (a : Option Addr) (ok : Nat → Int → Prop) (hlen : len ≤ 1000000) (w : World) (hBs : Bs < w.heap.size)
    (hc : w.cell? ⟨Bs, 0, none⟩ = some (.slice a len cap)) (hI : BS w a len ok b off) :
    SeqStopsK F n Tryz.prog 100 #[.pointer (some ⟨Bs, 0, none⟩)] (fun x : Ix len ok => #[Value.int .i64 (x.1.1 : Nat), Value.int .i64 x.1.2]) (BKp Bs (.slice a len cap) b off len ok)
      (fun ys => ixs ys = dn len 0) (fun pre => ∃ m, m ≤ len ∧ ixs pre = dn len m) len w := fun l J Jx W hW _ _ hY h0 => by
  have hc' := (hW.cell (p := ⟨Bs, 0, none⟩) hBs).trans hc
  rcases hI with rfl | ⟨rfl, hb, hcs⟩
  · exact (back1_nil_in F n hf hro l Bs cap a J W hc' h0).mono fun e W' ⟨he, hj⟩ => ⟨he, .inl ⟨[], rfl, hj⟩⟩
  · exact back1_in F n hf hro hn l Bs b off len cap ok hlen J Jx hY W hc' ((bkp_below (sv := .slice none 0 0) hW hBs hb).2 hcs) h0
end Go.Proofs.YtjpjnbgfodlkcaaGreatDoor
/- Compare. -/
namespace Go.Proofs.YtjpjnbgfodlkcaaGreatDoor
open Go Go.RowKit Go.Shelf
set_option maxRecDepth 100000
set_option linter.unusedVariables false
attribute [local go_sem] Oper.semAt_some

/-- the order of numbers -/
def ncmp (A B : Nat) : Int := Lib.compareInt (A : Nat) (B : Nat)
theorem ncmp_lt {A B : Nat} (h : A < B) : ncmp A B = -1 := by unfold ncmp Lib.compareInt; rw [if_pos (by omega)]
theorem ncmp_gt {A B : Nat} (h : B < A) : ncmp A B = 1 := by unfold ncmp Lib.compareInt; rw [if_neg (by omega), if_pos (by omega)]
theorem ncmp_eq (A : Nat) : ncmp A A = 0 := by unfold ncmp Lib.compareInt; rw [if_neg (by omega), if_neg (by omega)]
theorem ncmp_len {A B : Nat} (h : (nd A).length ≠ (nd B).length) : Lib.compareInt ((nd A).length : Nat) ((nd B).length : Nat) = ncmp A B := by
  rcases Nat.lt_or_gt_of_ne h with h | h
  · rw [ncmp_lt (nd_lt_len h)]; exact ncmp_lt h
  · rw [ncmp_gt (nd_lt_len h)]; exact ncmp_gt h
theorem ncmp_at {A B k : Nat} (hl : (nd A).length = (nd B).length) (hk : k < (nd A).length) (h : ∀ j, k < j → j < (nd A).length → (nd A).getD j 0 = (nd B).getD j 0) (hne : (nd A).getD k 0 ≠ (nd B).getD k 0) :
    Lib.compareInt ((nd A).getD k 0 : Nat) ((nd B).getD k 0 : Nat) = ncmp A B := by
  have hd : (nd A).drop (k + 1) = (nd B).drop (k + 1) := by
    apply List.ext_getElem?
    intro i
    rw [List.getElem?_drop, List.getElem?_drop]
    by_cases hi : k + 1 + i < (nd A).length
    · have := h (k + 1 + i) (by omega) hi
      rw [List.getD_eq_getElem?_getD, List.getD_eq_getElem?_getD, List.getElem?_eq_getElem hi, List.getElem?_eq_getElem (by omega)] at this
      rw [List.getElem?_eq_getElem hi, List.getElem?_eq_getElem (by omega)]
      simpa using this
    · rw [List.getElem?_eq_none (by omega), List.getElem?_eq_none (by omega)]
  rcases Nat.lt_or_gt_of_ne hne with hlt | hlt
  · have := nv_cmp (lim_nd A) hl hk hd hlt
    rw [nv_nd, nv_nd] at this
    rw [ncmp_lt this]; exact ncmp_lt hlt
  · have := nv_cmp (lim_nd B) hl.symm (by omega) hd.symm hlt
    rw [nv_nd, nv_nd] at this
    rw [ncmp_gt this]; exact ncmp_gt hlt
theorem nd_ext {A B : Nat} (hl : (nd A).length = (nd B).length) (h : ∀ j, j < (nd A).length → (nd A).getD j 0 = (nd B).getD j 0) : A = B := by
  refine nd_inj (List.ext_getElem? fun i => ?_)
  by_cases hi : i < (nd A).length
  · have := h i hi
    rw [List.getD_eq_getElem?_getD, List.getD_eq_getElem?_getD, List.getElem?_eq_getElem hi, List.getElem?_eq_getElem (by omega)] at this
    rw [List.getElem?_eq_getElem hi, List.getElem?_eq_getElem (by omega)]
    simpa using this
  · rw [List.getElem?_eq_none (by omega), List.getElem?_eq_none (by omega)]

def okN (A j : Nat) (z : Int) : Prop := z = ((nd A).getD j 0 : Nat)
theorem cmp_len {A B : Nat} (va vb : Value) (w : World) (hA : Num w va A) (hB : Num w vb B) (hl : (nd A).length ≠ (nd B).length) :
    Calls Tryz.prog 40 #[va, vb] w fun e w' => e = .returned (.int .i64 (ncmp A B)) ∧ Gr w w' := by
  obtain ⟨aa, acap, rfl, -, -, -⟩ := hA
  obtain ⟨ab, bcap, rfl, -, -, -⟩ := hB
  have d : (((nd A).length : Int) != ((nd B).length : Int)) = true := by simp; omega
  have hn := ncmp_len hl
  have HN := Lib.hid hn
  clear hn
  go_enter Tryz.func40, Tryz.ntmps40
  go_wp2_with (go_at_call 76; refine (Tryz.cmp_Compare_int _ _ _).mono ?_; rintro e w' ⟨rfl, rfl⟩)
  exact bodyPost_ret (v := .int .i64 (Lib.compareInt ((nd A).length : Nat) ((nd B).length : Nat))) (by simp [results, Tryz.results40, go_sem]) rfl ⟨ret_int HN.out, ((Gr.refl _).alloc _).alloc _⟩
theorem bkp_set {Bs : Nat} {sv : Value} {b off n : Nat} {ok : Nat → Int → Prop} (W : World) {r : Nat} (o : Nat) (x : Value) (h1 : Bs ≠ r) (h2 : b ≠ r) : BKp Bs sv b off n ok W (W.setCell ⟨r, o, none⟩ x) := by
  have key : ∀ (c k : Nat), c ≠ r → (W.setCell ⟨r, o, none⟩ x).cell? ⟨c, k, none⟩ = W.cell? ⟨c, k, none⟩ := fun c k hc => World.cell?_setCell_other _ _ _ _ (by intro e; cases e; exact hc rfl)
  exact ⟨fun e => by rw [key _ _ h1]; exact e, fun e j hj => by obtain ⟨z, hz, hk⟩ := e j hj; exact ⟨z, by rw [key _ _ h2]; exact hz, hk⟩⟩
/-- what a round of Compare keeps, and how it leaves -/
def CmpI (A B : Nat) (w : World) (vb : Value) (pre : List (Ix (nd A).length (okN A))) (W : World) : Prop :=
  ((∀ i ∈ ixs pre, (nd A).getD i 0 = (nd B).getD i 0) ∧ W.cell? ⟨w.heap.size + 1, 0, none⟩ = some (.int .i64 0) ∧ W.frozen? ⟨w.heap.size + 1, 0, none⟩ = false ∧ W.cell? ⟨w.heap.size, 0, none⟩ = some vb) ∧ Below w.heap.size w W
def CmpX (A B : Nat) (w : World) (c : Code) (pre : List (Ix (nd A).length (okN A))) (W : World) : Prop :=
  (c = .ret ∧ ∃ ini k, ixs pre = ini ++ [k] ∧ (∀ i ∈ ini, (nd A).getD i 0 = (nd B).getD i 0) ∧ (nd A).getD k 0 ≠ (nd B).getD k 0 ∧ W.cell? ⟨w.heap.size + 1, 0, none⟩ = some (.int .i64 (Lib.compareInt ((nd A).getD k 0 : Nat) ((nd B).getD k 0 : Nat)))) ∧ Below w.heap.size w W
theorem cmpI_own (A B : Nat) (w : World) (vb : Value) {n : Nat} (hn : w.heap.size ≤ n) : OwnFrom n (CmpI A B w vb) :=
  OwnFrom.and (Go.Own.from (fun _ _ _ _ hs hg hr => ⟨hs.1, cell_kept hs.2.1 hg hr, (frozen_kept hs.2.1 hg hr).trans hs.2.2.1, cell_kept hs.2.2.2 hg hr⟩) _) (ownFrom_below (Nat.le_refl _) hn)
theorem cmpX_own (A B : Nat) (w : World) {n : Nat} (hn : w.heap.size ≤ n) (c : Code) : OwnFrom n (CmpX A B w c) :=
  OwnFrom.and (Go.Own.from (fun _ _ _ _ hs hg hr => by obtain ⟨hc, ini, k, e1, e2, e3, e4⟩ := hs; exact ⟨hc, ini, k, e1, e2, e3, cell_kept e4 hg hr⟩) _) (ownFrom_below (Nat.le_refl _) hn)
set_option maxHeartbeats 2000000 in
theorem cmp_same {A B : Nat} (va vb : Value) (w : World) (hA : Num w va A) (hB : Num w vb B) (hl : (nd B).length = (nd A).length) (lA : (nd A).length ≤ 1000000) :
    Calls Tryz.prog 40 #[va, vb] w fun e w' => e = .returned (.int .i64 (ncmp A B)) ∧ Gr w w' := by
  have hA0 := hA
  have hB0 := hB
  obtain ⟨aa, acap, rfl, -, -, HA⟩ := hA
  obtain ⟨ab, bcap, rfl, -, -, HB⟩ := hB
  have HA0 := Lib.hid hA0
  have HB0 := Lib.hid hB0
  rw [hl] at HB ⊢
  have HL := Lib.hid hl
  obtain ⟨ba, oa, hba⟩ : ∃ ba oa : Nat, BS w aa (nd A).length (okN A) ba oa := by
    by_cases h0 : (nd A).length = 0
    · exact ⟨0, 0, .inl h0⟩
    · obtain ⟨b, off, e, -, hc⟩ := HA 0 (by omega)
      refine ⟨b, off, .inr ⟨e, World.block_lt_of_cell? _ _ hc, fun j hj => ?_⟩⟩
      obtain ⟨b', off', e', -, hc'⟩ := HA j hj
      rw [e] at e'; cases e'
      exact ⟨_, hc', rfl⟩
  have HBS := Lib.hid hba
  have HBC := Lib.hid HB
  clear hba HA HB hA0 hB0 hl
  refine (callsIn_wide (n := 4)).1 ?_
  refine callsIn_of_wp_marks Tryz.func40 rfl trivial ?_ rfl
  simp only [Tryz.ntmps40, List.size_toArray, List.length_cons, List.length_nil, Nat.reduceAdd, Nat.reduceSub, Array.replicate_succ, Array.replicate_zero, List.push_toArray, List.append_toArray, List.nil_append, List.cons_append]
  gi_wp2_with (refine ⟨trivial, ?_⟩; gi_at_call 77; refine (back_in Fence.wide (4 - 1) trivial rfl _ _ _ _).mono ?_; rintro e w' ⟨rfl, rfl⟩)
  have bX := (Boxed.new w 24 (.slice ab (nd A).length bcap))
  have bR := Boxed.new (w.alloc (.cells #[.slice ab (nd A).length bcap] 24)) 3 (.int .i64 0)
  have bN := Boxed.new ((w.alloc (.cells #[.slice ab (nd A).length bcap] 24)).alloc (.cells #[.int .i64 0] 3)) 24 (.slice aa (nd A).length acap)
  simp only [World.size_alloc] at bR bN
  have bX2 := (bX.alloc (.cells #[.int .i64 0] 3)).alloc (.cells #[.slice aa (nd A).length acap] 24)
  have bR2 := bR.alloc (.cells #[.slice aa (nd A).length acap] 24)
  have hB0 : Below w.heap.size w (((w.alloc (.cells #[.slice ab (nd A).length bcap] 24)).alloc (.cells #[.int .i64 0] 3)).alloc (.cells #[.slice aa (nd A).length acap] 24)) := ((Gr.refl _).alloc _ |>.alloc _ |>.alloc _)
  have hsz : (((w.alloc (.cells #[.slice ab (nd A).length bcap] 24)).alloc (.cells #[.int .i64 0] 3)).alloc (.cells #[.slice aa (nd A).length acap] 24)).heap.size = w.heap.size + 1 + 1 + 1 := by simp
  have hbs : BS (((w.alloc (.cells #[.slice ab (nd A).length bcap] 24)).alloc (.cells #[.int .i64 0] 3)).alloc (.cells #[.slice aa (nd A).length acap] 24)) aa (nd A).length (okN A) ba oa := by
    rcases HBS.out with h | ⟨e, hb, hw⟩
    · exact .inl h
    · refine .inr ⟨e, by rw [hsz]; omega, fun j hj => ?_⟩
      obtain ⟨z, hz, hk⟩ := hw j hj
      exact ⟨z, (hB0.cell (p := ⟨ba, oa + j, none⟩) hb).trans hz, hk⟩
  have hbne : (nd A).length = 0 ∨ ba < w.heap.size := HBS.out.imp id fun h => h.2.1
  generalize hW0 : ((w.alloc (.cells #[.slice ab (nd A).length bcap] 24)).alloc (.cells #[.int .i64 0] 3)).alloc (.cells #[.slice aa (nd A).length acap] 24) = W0 at *
  clear hW0 bX bR
  refine wpIn_rangeFunc_ownG rfl (by decide) (gf := 100) (lb := #[.pointer (some ⟨w.heap.size + 1 + 1, 0, none⟩)]) rfl trivial (enters_of Tryz.func100 (by kernel_rfl) rfl)
    (back_stops Fence.wide (4 - 1) trivial rfl (by decide) (w.heap.size + 1 + 1) ba oa (nd A).length acap aa (okN A) lA W0 (by omega) bN.cell hbs) bkp_t (fun W l o o' _ h hc _ => bkp_b W l o o' h hc) (Below.refl _ _) (fun _ => rfl)
    (CmpI A B w (.slice ab (nd A).length bcap)) (CmpX A B w) (cmpI_own A B w _ (by omega)) (cmpX_own A B w (by omega))
    ⟨⟨fun i hi => by simp [ixs] at hi, bR2.cell, bR2.frozen, bX2.cell⟩, hB0⟩
    (fun x => { tmps := #[.slice aa (nd A).length acap, .slice ab (nd A).length bcap, undef, .pointer (some ⟨w.heap.size, 0, none⟩), .pointer (some ⟨w.heap.size + 1, 0, none⟩), .int .i64 (x.1.1 : Nat), .int .i64 x.1.2, .slice aa (nd A).length acap, .int .i64 (nd A).length, .slice ab (nd A).length bcap, .int .i64 (nd A).length,
      .bool false, undef, undef, undef, undef, undef, .slice aa (nd A).length acap, .func (.func 100) #[] #[.pointer (some ⟨w.heap.size + 1 + 1, 0, none⟩)], .int .i64 (x.1.1 : Nat), .int .i64 x.1.2, undef, undef, undef, undef, undef, undef, undef, undef, undef, undef, undef, undef], defers := [] }) ?assign ?body ?done ?stop
  case assign =>
    intro l x W K hK
    gi_wp2
    exact hK
  case body =>
    rintro l pre x W ⟨⟨hp, hcr, hfr, hbx⟩, hB⟩ -
    obtain ⟨⟨i, z⟩, hi, hz⟩ := x
    have HZ : Hid (z = ((nd A).getD i 0 : Nat)) := Lib.hid hz
    obtain ⟨bb, ob, rfl, -, hcb⟩ := HBC.out i hi
    have hcb2 : W.cell? ⟨bb, ob + i, none⟩ = some (.int .i64 ((nd B).getD i 0 : Nat)) := (hB.cell (p := ⟨bb, ob + i, none⟩) (World.block_lt_of_cell? _ _ hcb)).trans hcb
    clear hcb
    generalize hy : (nd B).getD i 0 = y at hcb2
    have HY := Lib.hid hy
    have HP := Lib.hid hp
    clear hy hp
    dsimp only
    have i1 : (i : Int) < ((nd A).length : Int) := by have := hi; omega
    have i0 : (0 : Int) ≤ (i : Int) := by omega
    by_cases hne : z = (y : Int)
    · have d : (z != (y : Int)) = false := by simpa using hne
      have HNE := Lib.hid hne
      clear hne
      gi_wp2
      refine ⟨KeepsFrom.refl _ _, ⟨id, id⟩, ⟨fun j hj => ?_, hcr, hfr, hbx⟩, hB⟩
      rw [ixs_snoc, List.mem_append, List.mem_singleton] at hj
      rcases hj with hj | rfl
      · exact HP.out j hj
      · have := HZ.out; have := HY.out; have := HNE.out; omega
    · have d : (z != (y : Int)) = true := by simpa using hne
      have HNE := Lib.hid hne
      clear hne
      gi_wp2_with (refine ⟨trivial, ?_⟩; gi_at_call 76; refine (CallsIn.inRound l (callsIn_wide.2 (Tryz.cmp_Compare_int _ _ _))).mono ?_; rintro e w' ⟨rfl, rfl⟩)
      have hw : w.heap.size + 1 ≠ ba := by rcases hbne with h | h <;> omega
      refine ⟨(KeepsOthers.setCell _ _ _).from _, ⟨rfl, ixs pre, i, ixs_snoc _ _, HP.out, ?_, ?_⟩, hB.setCell (p := ⟨w.heap.size + 1, 0, none⟩) (by simp) _⟩
      · rw [HY.out]; intro hc; exact HNE.out (by have := HZ.out; omega)
      · rw [HY.out, ← HZ.out]; exact World.cell?_setCell_same' _ _ _ (by rw [hcr]; rfl)
  case done =>
    rintro D ys W hD hys ⟨⟨hne, hcr, hfr, -⟩, hB⟩ hK
    gi_wp2
    have hK' := (KeepsOthers.setCell W ⟨w.heap.size + 1, 0, none⟩ (.int .i64 0)).same D _ hK rfl
    refine ⟨by simp, .inl ⟨_, _, rfl, run_takeDeferred hK', ?_⟩⟩
    have hc5 := cell_kept (World.cell?_setCell_same' W ⟨w.heap.size + 1, 0, none⟩ (.int .i64 0) (by rw [hcr]; rfl)) (grownBy_putObj' _ D (.deferred none)) (fun r e => by cases e; exact ⟨_, hK', rfl⟩)
    refine ⟨.int .i64 0, by simp [results, Tryz.f40, go_sem, hc5], ?_, (hB.setCell (p := ⟨w.heap.size + 1, 0, none⟩) (by simp) _).trans (belowK_b (w := w) (Nat.le_refl _) _ D _ _ (by omega) hK' rfl rfl)⟩
    have e : A = B := nd_ext HL.out.symm fun j hj => hne j (by rw [hys]; exact dn_mem (Nat.zero_le _) hj)
    rw [e, ncmp_eq]
  case stop =>
    rintro D c pre W hD ⟨m, hm, hpre⟩ ⟨⟨rfl, ini, k, e1, e2, e3, hcr⟩, hB⟩ hK
    gi_wp2
    refine ⟨by simp, .inl ⟨_, _, rfl, run_takeDeferred hK, ?_⟩⟩
    have hc5 := cell_kept hcr (grownBy_putObj' _ D (.deferred none)) (fun r e => by cases e; exact ⟨_, hK, rfl⟩)
    rw [e1] at hpre
    obtain ⟨hmn, hini, rfl⟩ := dn_last hm hpre
    refine ⟨.int .i64 (ncmp A B), ?_, rfl, hB.trans (belowK_b (w := w) (Nat.le_refl _) W D _ _ (by omega) hK rfl rfl)⟩
    rw [← ncmp_at HL.out.symm hmn (fun j h1 h2 => e2 j (by rw [hini]; exact dn_mem (by omega) h2)) e3]
    simp [results, Tryz.f40, go_sem, hc5]
theorem cmp_any {A B : Nat} (va vb : Value) (w : World) (hA : Num w va A) (hB : Num w vb B) (lA : (nd A).length ≤ 1000000) :
    Calls Tryz.prog 40 #[va, vb] w fun e w' => e = .returned (.int .i64 (ncmp A B)) ∧ Gr w w' := by
  by_cases hl : (nd B).length = (nd A).length
  · exact cmp_same va vb w hA hB hl lA
  · exact cmp_len va vb w hA hB (fun h => hl h.symm)
end Go.Proofs.YtjpjnbgfodlkcaaGreatDoor
