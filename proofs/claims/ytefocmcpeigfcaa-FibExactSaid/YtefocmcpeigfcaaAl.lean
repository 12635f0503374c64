/- slices.Backward over routes: the iterator's contract. -/
import Derived.Test.YtefocmcpeigfcaaAd
import Derived.RangeFuncNested
import Derived.RangeFuncBound
import Derived.RangeFuncCalls
import Derived.RangeFuncLeaves
import Derived.RangeFuncBox
import Derived.Shelf.Abstract
import Derived.Shelf.RegionOpen
import Derived.WalkKit
import Derived.OwnWalkIn
import Derived.TacticsInMore
import Derived.LoopNIn
import Derived.LoopIn
namespace Go.Proofs.Ytefocmcpeigfcaa
open Go Go.RowKit Go.Sort
set_option maxRecDepth 100000
set_option linter.unusedVariables false
attribute [local go_sem] Oper.semAt_some

/-- the indexes from n - 1 down to m -/
def dn (n m : Nat) : List Nat := ((List.range n).drop m).reverse
theorem dn_end (n : Nat) : dn n n = [] := by simp [dn]
theorem dn_step {n m : Nat} (h : m < n) : dn n m = dn n (m + 1) ++ [m] := by
  unfold dn
  rw [List.drop_eq_getElem_cons (by simpa using h), List.reverse_cons]; simp
theorem dn_length (n m : Nat) : (dn n m).length = n - m := by simp [dn]
theorem dn_last {n m : Nat} {pre : List Nat} {x : Nat} (hm : m ≤ n) (h : pre ++ [x] = dn n m) : m < n ∧ pre = dn n (m + 1) ∧ x = m := by
  have hl := congrArg List.length h
  rw [dn_length] at hl
  simp at hl
  have hlt : m < n := by omega
  rw [dn_step hlt] at h
  obtain ⟨h1, h2⟩ := List.append_inj' h rfl
  exact ⟨hlt, h1, by simpa using h2⟩
theorem dn_mem {n m i : Nat} (h : m ≤ i) (hi : i < n) : i ∈ dn n m := by
  simp only [dn, List.mem_reverse, List.mem_drop_iff_getElem]
  exact ⟨i - m, by simp; omega, by simp; omega⟩
theorem dn_inj {n m k : Nat} (hm : m ≤ n) (hk : k ≤ n) (h : dn n m = dn n k) : m = k := by
  have := congrArg List.length h
  rw [dn_length, dn_length] at this; omega
/-- an index and what was read there -/
abbrev Ix (n : Nat) (ok : Nat → Rt × Value → Prop) := { x : Nat × (Rt × Value) // x.1 < n ∧ ok x.1 x.2 }
def ixs {n : Nat} {ok : Nat → Rt × Value → Prop} (l : List (Ix n ok)) : List Nat := l.map fun x => x.1.1
theorem ixs_snoc {n : Nat} {ok : Nat → Rt × Value → Prop} (l : List (Ix n ok)) (x : Ix n ok) : ixs (l ++ [x]) = ixs l ++ [x.1.1] := by simp [ixs]
/-- the cells can be read -/
def BW (b off n : Nat) (ok : Nat → Rt × Value → Prop) (W : World) : Prop := ∀ j, j < n → ∃ z : Rt × Value, RC W b (off + j * 4) z ∧ ok j z
/-- what a round keeps -/
def BKp (Bs : Nat) (sv : Value) (b off n : Nat) (ok : Nat → Rt × Value → Prop) (W W' : World) : Prop :=
  (W.cell? ⟨Bs, 0, none⟩ = some sv → W'.cell? ⟨Bs, 0, none⟩ = some sv) ∧ (BW b off n ok W → BW b off n ok W')
theorem bkp_t {Bs : Nat} {sv : Value} {b off n : Nat} {ok : Nat → Rt × Value → Prop} {A B C : World} (h : BKp Bs sv b off n ok A B) (k : BKp Bs sv b off n ok B C) : BKp Bs sv b off n ok A C :=
  ⟨fun e => k.1 (h.1 e), fun e => k.2 (h.2 e)⟩
theorem bkp_b {Bs : Nat} {sv : Value} {b off n : Nat} {ok : Nat → Rt × Value → Prop} (W : World) (l : Nat) (o o' : Obj) (h : W.heap[l]? = some o) (hc : o.isCells = false) : BKp Bs sv b off n ok W (W.putObj l o') := by
  have key : ∀ (c k : Nat) (v : Value), W.cell? ⟨c, k, none⟩ = some v → (W.putObj l o').cell? ⟨c, k, none⟩ = some v := fun c k v hv => by
    refine cell_kept hv (grownBy_putObj' _ l o') (fun r e => by cases e; exact ⟨_, h, hc⟩)
  exact ⟨fun e => key _ _ _ e, fun e j hj => by obtain ⟨z, hz, hk⟩ := e j hj; exact ⟨z, ⟨key _ _ _ hz.1, key _ _ _ hz.2.1, key _ _ _ hz.2.2.1, key _ _ _ hz.2.2.2⟩, hk⟩⟩
theorem bkp_below {Bs : Nat} {sv : Value} {b off n n₀ : Nat} {ok : Nat → Rt × Value → Prop} {W W' : World} (h : Below n₀ W W') (h1 : Bs < n₀) (h2 : b < n₀) : BKp Bs sv b off n ok W W' :=
  ⟨fun e => (h.cell (p := ⟨Bs, 0, none⟩) h1).trans e, fun e j hj => by obtain ⟨z, hz, hk⟩ := e j hj; exact ⟨z, hz.keep fun o => h.cell (p := ⟨b, o, none⟩) h2, hk⟩⟩

set_option maxHeartbeats 2000000 in
/-- the closure of slices.Backward: from the last index down -/
theorem back1_in (F : Fence) (n : Nat) (hf : F.fn 48) (hro : F.round = none) (hn : 1 ≤ n) (l Bs b off len cap : Nat) (ok : Nat → Rt × Value → Prop) (hlen : len ≤ 1000000) (J Jx : List (Ix len ok) → World → Prop)
    (hY : ∀ pre x W, J pre W → pre.length < len → YieldAt F (n - 1) Try.prog l #[.int .i64 (x.1.1 : Nat), rtv x.1.2] W fun e W' =>
      (e = .returned (.bool true) ∧ J (pre ++ [x]) W' ∧ BKp Bs (.slice (some ⟨b, off, none⟩) len cap) b off len ok W W') ∨ (e = .returned (.bool false) ∧ Jx (pre ++ [x]) W'))
    (W : World) (hBs : W.cell? ⟨Bs, 0, none⟩ = some (.slice (some ⟨b, off, none⟩) len cap)) (hc : BW b off len ok W) (h0 : J [] W) :
    CallsIn F n Try.prog 48 #[.func (.yield l) #[] #[], .pointer (some ⟨Bs, 0, none⟩)] W fun e W' => (∃ v, e = .returned v) ∧
      ((∃ ys, ixs ys = dn len 0 ∧ J ys W') ∨ (∃ pre, (∃ m, m ≤ len ∧ ixs pre = dn len m) ∧ Jx pre W')) := by
  have HC := Lib.hid hc
  have HY := Lib.hid hY
  have H0 := Lib.hid h0
  have HB := Lib.hid hBs
  clear hc hY h0
  refine callsIn_of_wp Try.func48 rfl hf ?_ hro
  simp only [Try.ntmps48, List.size_toArray, List.length_cons, List.length_nil, Nat.reduceAdd, Nat.reduceSub, Array.replicate_succ, Array.replicate_zero, List.push_toArray, List.append_toArray, List.nil_append, List.cons_append]
  gi_wp2
  clear hBs
  gi_loopw [3] (fun i wr => ∃ (m : Nat) (xs : List (Ix len ok)), m ≤ len ∧ i = .int .i64 ((m : Int) - 1) ∧ ixs xs = dn len m ∧ J xs wr ∧ wr.cell? ⟨Bs, 0, none⟩ = some (.slice (some ⟨b, off, none⟩) len cap) ∧ BW b off len ok wr)
    (fun i _ => (intOf i + 1).toNat)
  case atStart => exact ⟨len, [], Nat.le_refl _, rfl, by rw [dn_end]; rfl, H0.out, HB.out, HC.out⟩
  case round =>
    obtain ⟨m, xs, hm, rfl, hx, hJ, hcB, hcW⟩ := hrel
    have HX := Lib.hid hx
    have HW := Lib.hid hcW
    clear hx hcW
    by_cases hlt : 0 < m
    · obtain ⟨k, rfl⟩ : ∃ k, m = k + 1 := ⟨m - 1, by omega⟩
      obtain ⟨z, ⟨hz0, hz1, hz2, hz3⟩, hok⟩ := HW.out k (by omega)
      obtain ⟨fn, tmps, assign, body, hy, hR⟩ := HY.out xs ⟨(k, z), by omega, hok⟩ wr hJ (by
        have := congrArg List.length HX.out
        rw [dn_length] at this
        simp only [ixs, List.length_map] at this
        omega)
      dsimp only at hy
      unfold rtv at hy
      have e1 : ((k + 1 : Nat) : Int) - 1 = (k : Int) := by omega
      rw [e1]
      have k0 : (0 : Int) ≤ (k : Int) := by omega
      have k1 : (k : Int) < (len : Int) := by omega
      clear e1
      gi_wp2
      refine hR.mono ?_
      rintro e W3 (⟨rfl, hJ3, hk3⟩ | ⟨rfl, hJx3⟩)
      · have hB3 := hk3.1 hcB
        have hW3 := hk3.2 HW.out
        gi_wp2
        go_roundw
        case rel => exact ⟨k, xs ++ [⟨(k, z), by omega, hok⟩], by omega, rfl, by rw [ixs_snoc, HX.out, ← dn_step (by omega)], hJ3, hB3, hW3⟩
        case measure => simp [intOf]
      · gi_wp2
        refine bodyPost_ret (results_none rfl _ _ _) rfl ?_
        exact ⟨⟨_, rfl⟩, .inr ⟨_, ⟨k, by omega, by rw [ixs_snoc, HX.out, ← dn_step (by omega)]⟩, hJx3⟩⟩
    · obtain rfl : m = 0 := by omega
      have e1 : ((0 : Nat) : Int) - 1 = -1 := rfl
      rw [e1]
      clear e1
      gi_wp2
      go_end0
      exact ⟨⟨_, rfl⟩, .inl ⟨xs, HX.out, hJ⟩⟩
set_option maxHeartbeats 1000000 in
/-- .. of no limbs: no round -/
theorem back1_nil_in (F : Fence) (n : Nat) (hf : F.fn 48) (hro : F.round = none) (l Bs cap : Nat) (a : Option Addr) {α : Type} (J : List α → World → Prop) (W : World) (hBs : W.cell? ⟨Bs, 0, none⟩ = some (.slice a 0 cap)) (h0 : J [] W) :
    CallsIn F n Try.prog 48 #[.func (.yield l) #[] #[], .pointer (some ⟨Bs, 0, none⟩)] W fun e W' => (∃ v, e = .returned v) ∧ J [] W' := by
  have H0 := Lib.hid h0
  clear h0
  refine callsIn_of_wp Try.func48 rfl hf ?_ hro
  simp only [Try.ntmps48, List.size_toArray, List.length_cons, List.length_nil, Nat.reduceAdd, Nat.reduceSub, Array.replicate_succ, Array.replicate_zero, List.push_toArray, List.append_toArray, List.nil_append, List.cons_append]
  gi_wp2
  gi_loopw [3] (fun i wr => i = .int .i64 (-1) ∧ J [] wr) (fun _ _ => 0)
  case atStart => exact ⟨rfl, H0.out⟩
  case round =>
    obtain ⟨rfl, hJs⟩ := hrel
    gi_wp2
    go_end0
    exact ⟨⟨_, rfl⟩, hJs⟩
theorem back_in (F : Fence) (n : Nat) (hf : F.fn 35) (hro : F.round = none) (a : Option Addr) (len cap : Nat) (w : World) :
    CallsIn F n Try.prog 35 #[.slice a len cap] w fun e w' => e = .returned (.func (.func 48) #[] #[.pointer (some ⟨w.heap.size, 0, none⟩)]) ∧ w' = w.alloc (.cells #[.slice a len cap] 23) := by
  refine callsIn_of_wp Try.func35 rfl hf ?_ hro
  simp only [Try.ntmps35, List.size_toArray, List.length_cons, List.length_nil, Nat.reduceAdd, Nat.reduceSub, Array.replicate_succ, Array.replicate_zero, List.push_toArray, List.append_toArray, List.nil_append, List.cons_append]
  gi_wp2
  go_ret
  exact ⟨rfl, rfl⟩
/-- the slice that is gone through: none of its limbs, or cells that can be read -/
def BS (w : World) (a : Option Addr) (len : Nat) (ok : Nat → Rt × Value → Prop) (b off : Nat) : Prop := len = 0 ∨ (a = some ⟨b, off, none⟩ ∧ b < w.heap.size ∧ BW b off len ok w)
theorem back_stops (F : Fence) (n : Nat) (hf : F.fn 48) (hro : F.round = none) (hn : 1 ≤ n) (Bs b off len cap : Nat) (a : Option Addr) (ok : Nat → Rt × Value → Prop) (hlen : len ≤ 1000000) (w : World) (hBs : Bs < w.heap.size)
    (hc : w.cell? ⟨Bs, 0, none⟩ = some (.slice a len cap)) (hI : BS w a len ok b off) :
    SeqStopsK F n Try.prog 48 #[.pointer (some ⟨Bs, 0, none⟩)] (fun x : Ix len ok => #[Value.int .i64 (x.1.1 : Nat), rtv x.1.2]) (BKp Bs (.slice a len cap) b off len ok)
      (fun ys => ixs ys = dn len 0) (fun pre => ∃ m, m ≤ len ∧ ixs pre = dn len m) len w := fun l J Jx W hW _ _ hY h0 => by
  have hc' := (hW.cell (p := ⟨Bs, 0, none⟩) hBs).trans hc
  rcases hI with rfl | ⟨rfl, hb, hcs⟩
  · exact (back1_nil_in F n hf hro l Bs cap a J W hc' h0).mono fun e W' ⟨he, hj⟩ => ⟨he, .inl ⟨[], rfl, hj⟩⟩
  · exact back1_in F n hf hro hn l Bs b off len cap ok hlen J Jx hY W hc' ((bkp_below (sv := .slice none 0 0) hW hBs hb).2 hcs) h0
end Go.Proofs.Ytefocmcpeigfcaa
