/- Several texts in one. -/
import Derived.Test.YtjpjnbgfodlkcaaGreatDoorGAG
import Derived.Test.YtjpjnbgfodlkcaaGreatDoorGAH
import Derived.Test.YtjpjnbgfodlkcaaGreatDoorGAE
import Derived.Test.YtjpjnbgfodlkcaaGreatDoorRdM
import Derived.WalkKit
import Derived.WalkSpells
import Derived.WalkLawsBesides
import Derived.WalkSmall
import Derived.Handy
import Derived.BigQuiet
import Derived.Deep.QuietTactic
import Derived.Deep.RegionHeld3
import Derived.Deep.DeepFit
import Derived.Below
import Derived.Lib.Hide
import Derived.Lib.QuietBelow
import Derived.Test.YtjpjnbgfodlkcaaGreatDoorGAB
import Derived.Test.YtjpjnbgfodlkcaaGreatDoorGAC
import Derived.Test.YtjpjnbgfodlkcaaGreatDoorGAK
/- Local variables that hold fractions; regions that draw their order, one operation at a time. -/
namespace Go.Proofs.YtjpjnbgfodlkcaaGreatDoor
open Go Go.RowKit Go.Sort
set_option maxRecDepth 100000
set_option linter.unusedVariables false
/-- a local variable: its block, its parts, its value -/
structure Lv where
  k : Nat
  b : Bool
  a1 : Option Addr
  a2 : Option Addr
  n1 : Nat
  n2 : Nat
  c1 : Nat
  c2 : Nat
  r : Rat
def Lv.v (l : Lv) : Value := .agg #[.bool l.b, .slice l.a1 l.n1 l.c1, .slice l.a2 l.n2 l.c2]
def Loc (w : World) (l : Lv) : Prop := C3 w l.k (.bool l.b) (.slice l.a1 l.n1 l.c1) (.slice l.a2 l.n2 l.c2) ∧ Fra w (.agg #[.bool l.b, .slice l.a1 l.n1 l.c1, .slice l.a2 l.n2 l.c2]) l.r
def Locs (w : World) (L : List Lv) : Prop := ∀ l ∈ L, Loc w l
theorem Locs.gr {w w' : World} {L : List Lv} (h : Locs w L) (g : Gr w w') : Locs w' L := fun l hl => ⟨(h l hl).1.gr g, (h l hl).2.gr g⟩
theorem Locs.snoc {w : World} {L : List Lv} {l : Lv} (h : Locs w L) (hl : Loc w l) : Locs w (L ++ [l]) := fun x hx => by
  rcases List.mem_append.1 hx with hx | hx
  · exact h x hx
  · rw [List.mem_singleton.1 hx]; exact hl
theorem Locs.at {w : World} {L : List Lv} (h : Locs w L) (i : Nat) {l : Lv} (hi : L[i]? = some l) : Loc w l := h l (List.mem_of_getElem? hi)
def Reds (w : World) (L : List Lv) : Prop := ∀ l ∈ L, Red w (.agg #[.bool l.b, .slice l.a1 l.n1 l.c1, .slice l.a2 l.n2 l.c2]) l.r
theorem Reds.nil (w : World) : Reds w [] := fun _ h => by cases h
theorem Reds.gr {w w' : World} {L : List Lv} (h : Reds w L) (g : Gr w w') : Reds w' L := fun l hl => (h l hl).gr g
theorem Reds.snoc {w : World} {L : List Lv} {l : Lv} (h : Reds w L) (hl : Red w (.agg #[.bool l.b, .slice l.a1 l.n1 l.c1, .slice l.a2 l.n2 l.c2]) l.r) : Reds w (L ++ [l]) := fun x hx => by
  rcases List.mem_append.1 hx with hx | hx
  · exact h x hx
  · rw [List.mem_singleton.1 hx]; exact hl
theorem Reds.at {w : World} {L : List Lv} (h : Reds w L) (i : Nat) {l : Lv} (hi : L[i]? = some l) : Red w (.agg #[.bool l.b, .slice l.a1 l.n1 l.c1, .slice l.a2 l.n2 l.c2]) l.r := h l (List.mem_of_getElem? hi)
theorem region_plain {P : Program} {Q : Exit → Act → World → Prop} {ops : Array Oper} {id : Nat} {a : Act} {w : World} (S : World → Prop) (hm : P.follows .mixedOrders = true)
    (h : wpAnyH P .any ops (QZ Q) S ops.size (Array.replicate ops.size false) a w.drew) : (Code.region id ops true).wp P Q a w :=
  Code.wp_mono (fun e _ _ h => by cases e <;> first | exact h | exact (h : False).elim) (wp_region_held hm h)
theorem Fra.len {w : World} {b : Bool} {a1 : Option Addr} {n1 c1 : Nat} {v : Value} {r : Rat} (h : Fra w (.agg #[.bool b, .slice a1 n1 c1, v]) r) : n1 = 0 ↔ r = 0 := by
  obtain ⟨x, vn, vd, N, D, e, ⟨a, cap, e2, -⟩, -, hD0, -, -, -, rfl⟩ := h
  simp only [Value.agg.injEq, Array.mk.injEq, List.cons.injEq, and_true] at e
  obtain ⟨-, rfl, -⟩ := e
  simp only [Value.slice.injEq] at e2
  obtain ⟨-, rfl, -⟩ := e2
  rw [rat_eq_zero hD0]
  constructor
  · intro h
    apply Decidable.byContradiction; intro hn
    rw [nd_pos (by omega)] at h; simp at h
  · rintro rfl; rw [nd_zero]; rfl
theorem qz_normal {Q : Exit → Act → World → Prop} {a : Act} {w : World} (h : Q .normal a w) : QZ Q .normal a w := h
end Go.Proofs.YtjpjnbgfodlkcaaGreatDoor
/- Valid at any list of ints, both sides. -/
namespace Go.Proofs.YtjpjnbgfodlkcaaGreatDoor
open Go Go.RowKit Go.Sort
set_option maxRecDepth 100000
set_option linter.unusedVariables false
/-- a slice of ints that reads as l -/
def RdI (w : World) (v : Value) (l : List Int) : Prop :=
  ∃ (a : Option Addr) (cap : Nat), v = .slice a l.length cap ∧ l.length ≤ cap ∧ cap ≤ 9223372036854775807 ∧
    ∀ i, i < l.length → ∃ b off : Nat, a = some ⟨b, off, none⟩ ∧ w.cell? ⟨b, off + i, none⟩ = some (.int .i64 (l.getD i 0))
theorem RdI.gr {w w' : World} {v : Value} {l : List Int} (h : RdI w v l) (g : Gr w w') : RdI w' v l := by
  obtain ⟨a, cap, e, h1, h2, H⟩ := h
  refine ⟨a, cap, e, h1, h2, fun i hi => ?_⟩
  obtain ⟨b, off, ea, hc⟩ := H i hi
  exact ⟨b, off, ea, by rw [(Gr.cells g).1 b _ (World.block_lt_of_cell? _ _ hc)]; exact hc⟩
def inLimb (x : Int) : Prop := 0 ≤ x ∧ x < 1073741824
instance (x : Int) : Decidable (inLimb x) := inferInstanceAs (Decidable (_ ∧ _))
/-- what Valid answers -/
def vraw (l : List Int) : Bool := decide (l.length ≤ 256) && (l.all (fun x => decide (inLimb x)) && (l.length == 0 || l.getD (l.length - 1) 0 != 0))
theorem vraw_long {l : List Int} (h : 256 < l.length) : vraw l = false := by
  unfold vraw
  rw [decide_eq_false (by omega)]; rfl
theorem vraw_no {l : List Int} {k : Nat} (hk : k < l.length) (h : ¬ inLimb (l.getD k 0)) : vraw l = false := by
  unfold vraw
  have : l.all (fun x => decide (inLimb x)) = false := by
    rw [List.all_eq_false]
    refine ⟨l[k], List.getElem_mem hk, ?_⟩
    rw [List.getD_eq_getElem?_getD, List.getElem?_eq_getElem hk] at h
    simpa using h
  rw [this]; simp
theorem vraw_end {l : List Int} (H : ∀ j, j < l.length → inLimb (l.getD j 0)) : vraw l = (decide (l.length ≤ 256) && (l.length == 0 || l.getD (l.length - 1) 0 != 0)) := by
  unfold vraw
  have : l.all (fun x => decide (inLimb x)) = true := by
    rw [List.all_eq_true]
    intro x hx
    obtain ⟨j, hj, rfl⟩ := List.getElem_of_mem hx
    have := H j hj
    rw [List.getD_eq_getElem?_getD, List.getElem?_eq_getElem hj] at this
    simpa using this
  rw [this, Bool.true_and]
theorem nraw_any (v : Value) (l : List Int) (w : World) (h : RdI w v l) :
    Calls Tryz.prog 59 #[v] w fun e w' => e = .returned (.bool (vraw l)) ∧ w = w' := by
  obtain ⟨a, cap, rfl, hl', hcap, H⟩ := h
  have HH := Lib.hid H
  clear H
  by_cases hn : 256 < l.length
  · have d : decide (256 < l.length) = true := by simpa using hn
    have HV := Lib.hid (vraw_long hn)
    have hn2 : (256 : Int) < (l.length : Int) := by omega
    clear hn
    go_enter Tryz.func59, Tryz.ntmps59
    go_wp2
    all_goals first
      | (go_ret; exact ⟨ret_bool HV.out.symm, rfl⟩)
      | (exfalso; omega)
  have d : decide (256 < l.length) = false := by simpa using hn
  go_enter Tryz.func59, Tryz.ntmps59
  go_wp2
  go_loop [9] (fun s => ∃ k : Nat, k ≤ l.length ∧ s = .int .i64 k ∧ Hid (∀ j, j < k → inLimb (l.getD j 0))) (fun s => l.length - (intOf s).toNat)
  case atStart => exact ⟨0, Nat.zero_le _, rfl, Lib.hid (fun j hj => absurd hj (Nat.not_lt_zero j))⟩
  case round =>
    obtain ⟨k, hk, rfl, HK⟩ := hrel
    by_cases hlt : k < l.length
    · obtain ⟨b, off, rfl, hc⟩ := HH.out k hlt
      by_cases hx : inLimb (l.getD k 0)
      · have HK2 := Lib.hid (show ∀ j, j < k + 1 → inLimb (l.getD j 0) from fun j hj => by
          rcases Nat.lt_or_eq_of_le (Nat.le_of_lt_succ hj) with h | rfl
          · exact HK.out j h
          · exact hx)
        unfold inLimb at hx
        clear HK
        generalize l.getD k 0 = x at *
        have x1 : x ≤ 1073741823 := by omega
        have x0 : 0 ≤ x := by omega
        go_wp2
        go_round
        case rel => exact ⟨k + 1, by omega, by go_num, HK2⟩
        case measure => simp [intOf]; omega
      · have HV := Lib.hid (vraw_no hlt hx)
        unfold inLimb at hx
        clear HK
        generalize l.getD k 0 = x at *
        by_cases hx0 : x < 0
        · have d1 : decide (x < 0) = true := by simpa using hx0
          clear hx
          go_wp2
          go_ret
          exact ⟨ret_bool HV.out.symm, rfl⟩
        · have d1 : decide (x < 0) = false := by simpa using hx0
          have d2 : decide (1073741823 < x) = true := by rw [decide_eq_true_eq]; omega
          clear hx
          go_wp2
          go_ret
          exact ⟨ret_bool HV.out.symm, rfl⟩
    · obtain rfl : k = l.length := by omega
      have hv := vraw_end HK.out
      rw [decide_eq_true (show l.length ≤ 256 by omega), Bool.true_and] at hv
      clear HK
      by_cases h0 : l.length = 0
      · have d2 : ((l.length : Int) == 0) = true := by rw [beq_iff_eq]; omega
        have HV : Hid (vraw l = true) := Lib.hid (by rw [hv, h0]; rfl)
        clear hv
        go_wp2
        go_ret
        exact ⟨ret_bool HV.out.symm, rfl⟩
      · obtain ⟨b, off, rfl, hc⟩ := HH.out (l.length - 1) (by omega)
        have d2 : ((l.length : Int) == 0) = false := by rw [beq_eq_false_iff_ne]; omega
        have d4 : (l.length : Int) - 1 = ((l.length - 1 : Nat) : Int) := by omega
        have HV : Hid (vraw l = (l.getD (l.length - 1) 0 != 0)) := Lib.hid (by rw [hv, beq_eq_false_iff_ne.2 h0, Bool.false_or])
        clear hv
        generalize l.getD (l.length - 1) 0 = x at *
        go_wp2
        go_ret
        exact ⟨ret_bool HV.out.symm, rfl⟩
theorem rraw_any (v : Value) (l : List Int) (w : World) (h : RdI w v l) :
    Calls Tryz.prog 60 #[v] w fun e w' => e = .returned (.bool (vraw l)) ∧ w = w' := by
  obtain ⟨a, cap, rfl, hl', hcap, H⟩ := h
  have HH := Lib.hid H
  clear H
  go_enter Tryz.func60, Tryz.ntmps60
  go_wp2
  go_loop [3] (fun s => ∃ k : Nat, k ≤ l.length ∧ s = .int .i64 k ∧ Hid (∀ j, j < k → inLimb (l.getD j 0))) (fun s => l.length - (intOf s).toNat)
  case atStart => exact ⟨0, Nat.zero_le _, rfl, Lib.hid (fun j hj => absurd hj (Nat.not_lt_zero j))⟩
  case round =>
    obtain ⟨k, hk, rfl, HK⟩ := hrel
    by_cases hlt : k < l.length
    · obtain ⟨b, off, rfl, hc⟩ := HH.out k hlt
      by_cases hx : inLimb (l.getD k 0)
      · have HK2 := Lib.hid (show ∀ j, j < k + 1 → inLimb (l.getD j 0) from fun j hj => by
          rcases Nat.lt_or_eq_of_le (Nat.le_of_lt_succ hj) with h | rfl
          · exact HK.out j h
          · exact hx)
        unfold inLimb at hx
        clear HK
        generalize l.getD k 0 = x at *
        have d1 : decide (x < 0) = false := by rw [decide_eq_false_iff_not]; omega
        have d2 : decide (1073741824 ≤ x) = false := by rw [decide_eq_false_iff_not]; omega
        clear hx
        go_wp2
        go_round
        case rel => exact ⟨k + 1, by omega, by go_num, HK2⟩
        case measure => simp [intOf]; omega
      · have HV := Lib.hid (vraw_no hlt hx)
        unfold inLimb at hx
        clear HK
        generalize l.getD k 0 = x at *
        by_cases hx0 : x < 0
        · have d1 : decide (x < 0) = true := by simpa using hx0
          clear hx
          go_wp2
          go_ret
          exact ⟨ret_bool HV.out.symm, rfl⟩
        · have d1 : decide (x < 0) = false := by simpa using hx0
          have d2 : decide (1073741824 ≤ x) = true := by rw [decide_eq_true_eq]; omega
          clear hx
          go_wp2
          go_ret
          exact ⟨ret_bool HV.out.symm, rfl⟩
    · obtain rfl : k = l.length := by omega
      have hv := vraw_end HK.out
      clear HK
      by_cases hn : l.length ≤ 256
      · rw [decide_eq_true hn, Bool.true_and] at hv
        have dn : decide ((l.length : Int) ≤ 256) = true := by rw [decide_eq_true_eq]; omega
        by_cases h0 : l.length = 0
        · have d2 : ((l.length : Int) == 0) = true := by rw [beq_iff_eq]; omega
          have HV : Hid (vraw l = true) := Lib.hid (by rw [hv, h0]; rfl)
          clear hv
          go_wp2
          go_ret
          exact ⟨ret_bool HV.out.symm, rfl⟩
        · obtain ⟨b, off, rfl, hc⟩ := HH.out (l.length - 1) (by omega)
          have d2 : ((l.length : Int) == 0) = false := by rw [beq_eq_false_iff_ne]; omega
          have d4 : (l.length : Int) - 1 = ((l.length - 1 : Nat) : Int) := by omega
          have HV : Hid (vraw l = (l.getD (l.length - 1) 0 != 0)) := Lib.hid (by rw [hv, beq_eq_false_iff_ne.2 h0, Bool.false_or])
          clear hv
          generalize l.getD (l.length - 1) 0 = x at *
          go_wp2
          go_ret
          exact ⟨ret_bool HV.out.symm, rfl⟩
      · rw [decide_eq_false hn, Bool.false_and] at hv
        have dn : decide ((l.length : Int) ≤ 256) = false := by rw [decide_eq_false_iff_not]; omega
        have HV := Lib.hid hv
        clear hv
        go_wp2
        go_ret
        exact ⟨ret_bool HV.out.symm, rfl⟩
end Go.Proofs.YtjpjnbgfodlkcaaGreatDoor
/- Valid of fractions at any parts, both sides. -/
namespace Go.Proofs.YtjpjnbgfodlkcaaGreatDoor
open Go Go.RowKit Go.Sort
set_option maxRecDepth 100000
set_option linter.unusedVariables false
/-- what Valid answers -/
def fvr (x : Bool) (l m : List Int) : Bool := vraw l && (vraw m && (decide (l.length ≤ 64) && (decide (m.length ≤ 64) && (decide (0 < m.length) && (decide (0 < l.length) || !x)))))
theorem rdi_slice {w : World} {v : Value} {l : List Int} (h : RdI w v l) : ∃ (a : Option Addr) (cap : Nat), v = .slice a l.length cap := by
  obtain ⟨a, cap, e, -⟩ := h
  exact ⟨a, cap, e⟩
set_option maxHeartbeats 1000000 in
theorem rfvraw_c (x : Bool) (vn vd : Value) (l m : List Int) (w : World) (h1 : RdI w vn l) (h2 : RdI w vd m) (c : Bool) (hc : c = fvr x l m) :
    Calls Tryz.prog 30 #[.agg #[.bool x, vn, vd]] w fun e w' => e = .returned (.bool c) ∧ Gr w w' := by
  have HL := Lib.hid (fun W (g : Gr w W) => rraw_any vn l W (h1.gr g))
  have HM := Lib.hid (fun W (g : Gr w W) => rraw_any vd m W (h2.gr g))
  obtain ⟨an, cn, rfl⟩ := rdi_slice h1
  obtain ⟨ad, cd, rfl⟩ := rdi_slice h2
  clear h1 h2
  unfold fvr at hc
  have HCC := Lib.hid hc
  clear hc
  cases e1 : vraw l with
  | false =>
    rw [e1] at HL
    have HC : Hid (c = false) := Lib.hid (by rw [HCC.out, e1]; rfl)
    clear e1
    go_enter Tryz.func30, Tryz.ntmps30
    go_wp2_with fail
    refine (HL.out _ (Gr.alloc (Gr.refl _) _)).mono ?_
    rintro e w' ⟨rfl, rfl⟩
    go_wp2_with fail
    go_ret
    first | exact ⟨ret_bool HC.out.symm, Gr.alloc (Gr.refl _) _⟩ | (rw [HC.out]; exact ⟨rfl, Gr.alloc (Gr.refl _) _⟩)
  | true =>
    rw [e1] at HL
    cases e2 : vraw m with
    | false =>
      rw [e2] at HM
      have HC : Hid (c = false) := Lib.hid (by rw [HCC.out, e1, e2]; rfl)
      clear e1 e2
      go_enter Tryz.func30, Tryz.ntmps30
      go_wp2_with fail
      refine (HL.out _ (Gr.alloc (Gr.refl _) _)).mono ?_
      rintro e w' ⟨rfl, rfl⟩
      go_wp2_with fail
      refine (HM.out _ (Gr.alloc (Gr.refl _) _)).mono ?_
      rintro e w' ⟨rfl, rfl⟩
      go_wp2_with fail
      go_ret
      first | exact ⟨ret_bool HC.out.symm, Gr.alloc (Gr.refl _) _⟩ | (rw [HC.out]; exact ⟨rfl, Gr.alloc (Gr.refl _) _⟩)
    | true =>
      rw [e2] at HM
      have HCD := Lib.hid (show c = (decide (l.length ≤ 64) && (decide (m.length ≤ 64) && (decide (0 < m.length) && (decide (0 < l.length) || !x)))) by rw [HCC.out, e1, e2]; rfl)
      clear e1 e2 HCC
      by_cases p1 : l.length ≤ 64
      · have q1 : decide ((l.length : Int) ≤ 64) = true := by rw [decide_eq_true_eq]; omega
        by_cases p2 : m.length ≤ 64
        · have q2 : decide ((m.length : Int) ≤ 64) = true := by rw [decide_eq_true_eq]; omega
          by_cases p3 : 0 < m.length
          · have q3 : decide ((0 : Int) < (m.length : Int)) = true := by rw [decide_eq_true_eq]; omega
            have q3b : decide (0 < m.length) = true := by rw [decide_eq_true_eq]; omega
            by_cases p4 : 0 < l.length
            · have q4 : decide ((0 : Int) < (l.length : Int)) = true := by rw [decide_eq_true_eq]; omega
              have q4b : decide (0 < l.length) = true := by rw [decide_eq_true_eq]; omega
              have HC : Hid (c = true) := Lib.hid (by rw [HCD.out, decide_eq_true p1, decide_eq_true p2, decide_eq_true p3, decide_eq_true p4]; rfl)
              clear p1 p2 p3 p4
              go_enter Tryz.func30, Tryz.ntmps30
              go_wp2_with fail
              refine (HL.out _ (Gr.alloc (Gr.refl _) _)).mono ?_
              rintro e w' ⟨rfl, rfl⟩
              go_wp2_with fail
              refine (HM.out _ (Gr.alloc (Gr.refl _) _)).mono ?_
              rintro e w' ⟨rfl, rfl⟩
              go_wp2_with fail
              go_ret
              first | exact ⟨ret_bool HC.out.symm, Gr.alloc (Gr.refl _) _⟩ | (rw [HC.out]; exact ⟨rfl, Gr.alloc (Gr.refl _) _⟩)
            · have q4 : decide ((0 : Int) < (l.length : Int)) = false := by rw [decide_eq_false_iff_not]; omega
              have q4b : decide (0 < l.length) = false := by rw [decide_eq_false_iff_not]; omega
              have HC : Hid (c = !x) := Lib.hid (by rw [HCD.out, decide_eq_true p1, decide_eq_true p2, decide_eq_true p3, decide_eq_false p4]; rfl)
              clear p1 p2 p3 p4
              cases x
              · skip
                go_enter Tryz.func30, Tryz.ntmps30
                go_wp2_with fail
                refine (HL.out _ (Gr.alloc (Gr.refl _) _)).mono ?_
                rintro e w' ⟨rfl, rfl⟩
                go_wp2_with fail
                refine (HM.out _ (Gr.alloc (Gr.refl _) _)).mono ?_
                rintro e w' ⟨rfl, rfl⟩
                go_wp2_with fail
                go_ret
                first | exact ⟨ret_bool HC.out.symm, Gr.alloc (Gr.refl _) _⟩ | (rw [HC.out]; exact ⟨rfl, Gr.alloc (Gr.refl _) _⟩)
              · skip
                go_enter Tryz.func30, Tryz.ntmps30
                go_wp2_with fail
                refine (HL.out _ (Gr.alloc (Gr.refl _) _)).mono ?_
                rintro e w' ⟨rfl, rfl⟩
                go_wp2_with fail
                refine (HM.out _ (Gr.alloc (Gr.refl _) _)).mono ?_
                rintro e w' ⟨rfl, rfl⟩
                go_wp2_with fail
                go_ret
                first | exact ⟨ret_bool HC.out.symm, Gr.alloc (Gr.refl _) _⟩ | (rw [HC.out]; exact ⟨rfl, Gr.alloc (Gr.refl _) _⟩)
          · have q3 : decide ((0 : Int) < (m.length : Int)) = false := by rw [decide_eq_false_iff_not]; omega
            have q3b : decide (0 < m.length) = false := by rw [decide_eq_false_iff_not]; omega
            have HC : Hid (c = false) := Lib.hid (by rw [HCD.out, decide_eq_true p1, decide_eq_true p2, decide_eq_false p3]; rfl)
            clear p1 p2 p3
            go_enter Tryz.func30, Tryz.ntmps30
            go_wp2_with fail
            refine (HL.out _ (Gr.alloc (Gr.refl _) _)).mono ?_
            rintro e w' ⟨rfl, rfl⟩
            go_wp2_with fail
            refine (HM.out _ (Gr.alloc (Gr.refl _) _)).mono ?_
            rintro e w' ⟨rfl, rfl⟩
            go_wp2_with fail
            go_ret
            first | exact ⟨ret_bool HC.out.symm, Gr.alloc (Gr.refl _) _⟩ | (rw [HC.out]; exact ⟨rfl, Gr.alloc (Gr.refl _) _⟩)
        · have q2 : decide ((m.length : Int) ≤ 64) = false := by rw [decide_eq_false_iff_not]; omega
          have HC : Hid (c = false) := Lib.hid (by rw [HCD.out, decide_eq_true p1, decide_eq_false p2]; rfl)
          clear p1 p2
          go_enter Tryz.func30, Tryz.ntmps30
          go_wp2_with fail
          refine (HL.out _ (Gr.alloc (Gr.refl _) _)).mono ?_
          rintro e w' ⟨rfl, rfl⟩
          go_wp2_with fail
          refine (HM.out _ (Gr.alloc (Gr.refl _) _)).mono ?_
          rintro e w' ⟨rfl, rfl⟩
          go_wp2_with fail
          go_ret
          first | exact ⟨ret_bool HC.out.symm, Gr.alloc (Gr.refl _) _⟩ | (rw [HC.out]; exact ⟨rfl, Gr.alloc (Gr.refl _) _⟩)
      · have q1 : decide ((l.length : Int) ≤ 64) = false := by rw [decide_eq_false_iff_not]; omega
        have HC : Hid (c = false) := Lib.hid (by rw [HCD.out, decide_eq_false p1]; rfl)
        clear p1
        go_enter Tryz.func30, Tryz.ntmps30
        go_wp2_with fail
        refine (HL.out _ (Gr.alloc (Gr.refl _) _)).mono ?_
        rintro e w' ⟨rfl, rfl⟩
        go_wp2_with fail
        refine (HM.out _ (Gr.alloc (Gr.refl _) _)).mono ?_
        rintro e w' ⟨rfl, rfl⟩
        go_wp2_with fail
        go_ret
        first | exact ⟨ret_bool HC.out.symm, Gr.alloc (Gr.refl _) _⟩ | (rw [HC.out]; exact ⟨rfl, Gr.alloc (Gr.refl _) _⟩)
theorem part_raw (v : Value) (l : List Int) (w : World) (b : Bool) (h : RdI w v l) (hb : b = (vraw l && decide (l.length ≤ 64))) :
    Calls Tryz.prog 58 #[v] w fun e w' => e = .returned (.bool b) ∧ w = w' := by
  have HV := Lib.hid (nraw_any v l w h)
  obtain ⟨a, cap, rfl⟩ := rdi_slice h
  have HB := Lib.hid hb
  clear h hb
  cases e1 : vraw l with
  | false =>
    rw [e1] at HV
    have HC : Hid (b = false) := Lib.hid (by rw [HB.out, e1]; rfl)
    clear e1
    go_enter Tryz.func58, Tryz.ntmps58
    go_wp2_with fail
    refine HV.out.mono ?_
    rintro e w' ⟨rfl, rfl⟩
    go_wp2
    go_ret
    first | exact ⟨ret_bool HC.out.symm, rfl⟩ | (rw [HC.out]; exact ⟨rfl, rfl⟩)
  | true =>
    rw [e1] at HV
    have HC : Hid (b = decide (l.length ≤ 64)) := Lib.hid (by rw [HB.out, e1]; rfl)
    clear e1
    go_enter Tryz.func58, Tryz.ntmps58
    go_wp2_with fail
    refine HV.out.mono ?_
    rintro e w' ⟨rfl, rfl⟩
    go_wp2
    go_ret
    exact ⟨ret_bool (by rw [HC.out, decide_eq_decide]; omega), rfl⟩
theorem fvr_eq (x : Bool) (l m : List Int) : fvr x l m = ((vraw l && decide (l.length ≤ 64)) && ((vraw m && decide (m.length ≤ 64)) && (decide (0 < m.length) && (decide (0 < l.length) || !x)))) := by
  unfold fvr
  cases vraw l <;> cases vraw m <;> cases decide (l.length ≤ 64) <;> cases decide (m.length ≤ 64) <;> rfl
set_option maxHeartbeats 1000000 in
theorem fvraw_c (x : Bool) (vn vd : Value) (l m : List Int) (w : World) (h1 : RdI w vn l) (h2 : RdI w vd m) (c : Bool) (hc : c = fvr x l m) :
    Calls Tryz.prog 29 #[.agg #[.bool x, vn, vd]] w fun e w' => e = .returned (.bool c) ∧ Gr w w' := by
  have H1 := Lib.hid h1
  have H2 := Lib.hid h2
  obtain ⟨an, cn, rfl⟩ := rdi_slice h1
  obtain ⟨ad, cd, rfl⟩ := rdi_slice h2
  rw [fvr_eq] at hc
  obtain ⟨b1, hb1⟩ : ∃ b, b = (vraw l && decide (l.length ≤ 64)) := ⟨_, rfl⟩
  obtain ⟨b2, hb2⟩ : ∃ b, b = (vraw m && decide (m.length ≤ 64)) := ⟨_, rfl⟩
  rw [← hb1, ← hb2] at hc
  have HB1 := Lib.hid hb1
  have HB2 := Lib.hid hb2
  have HCC := Lib.hid hc
  clear h1 h2 hc hb1 hb2
  cases b1 with
  | false =>
    have HC : Hid (c = false) := Lib.hid (by rw [HCC.out]; rfl)
    go_enter Tryz.func29, Tryz.ntmps29
    go_wp2_with fail
    refine (part_raw _ l _ false (H1.out.gr (Gr.alloc (Gr.refl _) _)) HB1.out).mono ?_
    rintro e w' ⟨rfl, rfl⟩
    go_wp2
    go_ret
    first | exact ⟨ret_bool HC.out.symm, (by repeat' (first | (with_reducible exact Gr.refl _) | (with_reducible assumption) | (with_reducible refine Gr.drewN ?_ _) | (with_reducible refine Gr.drew ?_) | (with_reducible refine Gr.alloc ?_ _) | (with_reducible refine Gr.setCell ?_ ?_ _) | (with_reducible refine Gr.grow ?_ _ _) | (refine Gr.step ?_ (by with_reducible assumption)) | go_size))⟩ | (rw [HC.out]; exact ⟨rfl, (by repeat' (first | (with_reducible exact Gr.refl _) | (with_reducible assumption) | (with_reducible refine Gr.drewN ?_ _) | (with_reducible refine Gr.drew ?_) | (with_reducible refine Gr.alloc ?_ _) | (with_reducible refine Gr.setCell ?_ ?_ _) | (with_reducible refine Gr.grow ?_ _ _) | (refine Gr.step ?_ (by with_reducible assumption)) | go_size))⟩)
  | true =>
    cases b2 with
    | false =>
      have HC : Hid (c = false) := Lib.hid (by rw [HCC.out]; rfl)
      go_enter Tryz.func29, Tryz.ntmps29
      go_wp2_with fail
      refine (part_raw _ l _ true (H1.out.gr (Gr.alloc (Gr.refl _) _)) HB1.out).mono ?_
      rintro e w' ⟨rfl, rfl⟩
      go_wp2_with fail
      refine (part_raw _ m _ false (H2.out.gr (Gr.alloc (Gr.refl _) _)) HB2.out).mono ?_
      rintro e w' ⟨rfl, rfl⟩
      go_wp2
      go_ret
      first | exact ⟨ret_bool HC.out.symm, (by repeat' (first | (with_reducible exact Gr.refl _) | (with_reducible assumption) | (with_reducible refine Gr.drewN ?_ _) | (with_reducible refine Gr.drew ?_) | (with_reducible refine Gr.alloc ?_ _) | (with_reducible refine Gr.setCell ?_ ?_ _) | (with_reducible refine Gr.grow ?_ _ _) | (refine Gr.step ?_ (by with_reducible assumption)) | go_size))⟩ | (rw [HC.out]; exact ⟨rfl, (by repeat' (first | (with_reducible exact Gr.refl _) | (with_reducible assumption) | (with_reducible refine Gr.drewN ?_ _) | (with_reducible refine Gr.drew ?_) | (with_reducible refine Gr.alloc ?_ _) | (with_reducible refine Gr.setCell ?_ ?_ _) | (with_reducible refine Gr.grow ?_ _ _) | (refine Gr.step ?_ (by with_reducible assumption)) | go_size))⟩)
    | true =>
      have HCD := Lib.hid (show c = (decide (0 < m.length) && (decide (0 < l.length) || !x)) by rw [HCC.out]; rfl)
      by_cases p3 : 0 < m.length
      · have q3 : decide ((0 : Int) < (m.length : Int)) = true := by rw [decide_eq_true_eq]; omega
        have q3b : decide (0 < m.length) = true := by rw [decide_eq_true_eq]; omega
        by_cases p4 : 0 < l.length
        · have q4 : decide ((0 : Int) < (l.length : Int)) = true := by rw [decide_eq_true_eq]; omega
          have q4b : decide (0 < l.length) = true := by rw [decide_eq_true_eq]; omega
          have HC : Hid (c = true) := Lib.hid (by rw [HCD.out, decide_eq_true p3, decide_eq_true p4]; rfl)
          clear p3 p4
          go_enter Tryz.func29, Tryz.ntmps29
          go_wp2_with fail
          refine (part_raw _ l _ true (H1.out.gr (Gr.alloc (Gr.refl _) _)) HB1.out).mono ?_
          rintro e w' ⟨rfl, rfl⟩
          go_wp2_with fail
          refine (part_raw _ m _ true (H2.out.gr (Gr.alloc (Gr.refl _) _)) HB2.out).mono ?_
          rintro e w' ⟨rfl, rfl⟩
          go_wp2
          go_ret
          first | exact ⟨ret_bool HC.out.symm, (by repeat' (first | (with_reducible exact Gr.refl _) | (with_reducible assumption) | (with_reducible refine Gr.drewN ?_ _) | (with_reducible refine Gr.drew ?_) | (with_reducible refine Gr.alloc ?_ _) | (with_reducible refine Gr.setCell ?_ ?_ _) | (with_reducible refine Gr.grow ?_ _ _) | (refine Gr.step ?_ (by with_reducible assumption)) | go_size))⟩ | (rw [HC.out]; exact ⟨rfl, (by repeat' (first | (with_reducible exact Gr.refl _) | (with_reducible assumption) | (with_reducible refine Gr.drewN ?_ _) | (with_reducible refine Gr.drew ?_) | (with_reducible refine Gr.alloc ?_ _) | (with_reducible refine Gr.setCell ?_ ?_ _) | (with_reducible refine Gr.grow ?_ _ _) | (refine Gr.step ?_ (by with_reducible assumption)) | go_size))⟩)
        · have q4 : decide ((0 : Int) < (l.length : Int)) = false := by rw [decide_eq_false_iff_not]; omega
          have q4b : decide (0 < l.length) = false := by rw [decide_eq_false_iff_not]; omega
          have HC : Hid (c = !x) := Lib.hid (by rw [HCD.out, decide_eq_true p3, decide_eq_false p4]; rfl)
          clear p3 p4
          cases x
          · skip
            go_enter Tryz.func29, Tryz.ntmps29
            go_wp2_with fail
            refine (part_raw _ l _ true (H1.out.gr (Gr.alloc (Gr.refl _) _)) HB1.out).mono ?_
            rintro e w' ⟨rfl, rfl⟩
            go_wp2_with fail
            refine (part_raw _ m _ true (H2.out.gr (Gr.alloc (Gr.refl _) _)) HB2.out).mono ?_
            rintro e w' ⟨rfl, rfl⟩
            go_wp2
            go_ret
            first | exact ⟨ret_bool HC.out.symm, (by repeat' (first | (with_reducible exact Gr.refl _) | (with_reducible assumption) | (with_reducible refine Gr.drewN ?_ _) | (with_reducible refine Gr.drew ?_) | (with_reducible refine Gr.alloc ?_ _) | (with_reducible refine Gr.setCell ?_ ?_ _) | (with_reducible refine Gr.grow ?_ _ _) | (refine Gr.step ?_ (by with_reducible assumption)) | go_size))⟩ | (rw [HC.out]; exact ⟨rfl, (by repeat' (first | (with_reducible exact Gr.refl _) | (with_reducible assumption) | (with_reducible refine Gr.drewN ?_ _) | (with_reducible refine Gr.drew ?_) | (with_reducible refine Gr.alloc ?_ _) | (with_reducible refine Gr.setCell ?_ ?_ _) | (with_reducible refine Gr.grow ?_ _ _) | (refine Gr.step ?_ (by with_reducible assumption)) | go_size))⟩)
          · skip
            go_enter Tryz.func29, Tryz.ntmps29
            go_wp2_with fail
            refine (part_raw _ l _ true (H1.out.gr (Gr.alloc (Gr.refl _) _)) HB1.out).mono ?_
            rintro e w' ⟨rfl, rfl⟩
            go_wp2_with fail
            refine (part_raw _ m _ true (H2.out.gr (Gr.alloc (Gr.refl _) _)) HB2.out).mono ?_
            rintro e w' ⟨rfl, rfl⟩
            go_wp2
            go_ret
            first | exact ⟨ret_bool HC.out.symm, (by repeat' (first | (with_reducible exact Gr.refl _) | (with_reducible assumption) | (with_reducible refine Gr.drewN ?_ _) | (with_reducible refine Gr.drew ?_) | (with_reducible refine Gr.alloc ?_ _) | (with_reducible refine Gr.setCell ?_ ?_ _) | (with_reducible refine Gr.grow ?_ _ _) | (refine Gr.step ?_ (by with_reducible assumption)) | go_size))⟩ | (rw [HC.out]; exact ⟨rfl, (by repeat' (first | (with_reducible exact Gr.refl _) | (with_reducible assumption) | (with_reducible refine Gr.drewN ?_ _) | (with_reducible refine Gr.drew ?_) | (with_reducible refine Gr.alloc ?_ _) | (with_reducible refine Gr.setCell ?_ ?_ _) | (with_reducible refine Gr.grow ?_ _ _) | (refine Gr.step ?_ (by with_reducible assumption)) | go_size))⟩)
      · have q3 : decide ((0 : Int) < (m.length : Int)) = false := by rw [decide_eq_false_iff_not]; omega
        have q3b : decide (0 < m.length) = false := by rw [decide_eq_false_iff_not]; omega
        have HC : Hid (c = false) := Lib.hid (by rw [HCD.out, decide_eq_false p3]; rfl)
        clear p3
        go_enter Tryz.func29, Tryz.ntmps29
        go_wp2_with fail
        refine (part_raw _ l _ true (H1.out.gr (Gr.alloc (Gr.refl _) _)) HB1.out).mono ?_
        rintro e w' ⟨rfl, rfl⟩
        go_wp2_with fail
        refine (part_raw _ m _ true (H2.out.gr (Gr.alloc (Gr.refl _) _)) HB2.out).mono ?_
        rintro e w' ⟨rfl, rfl⟩
        go_wp2
        go_ret
        first | exact ⟨ret_bool HC.out.symm, (by repeat' (first | (with_reducible exact Gr.refl _) | (with_reducible assumption) | (with_reducible refine Gr.drewN ?_ _) | (with_reducible refine Gr.drew ?_) | (with_reducible refine Gr.alloc ?_ _) | (with_reducible refine Gr.setCell ?_ ?_ _) | (with_reducible refine Gr.grow ?_ _ _) | (refine Gr.step ?_ (by with_reducible assumption)) | go_size))⟩ | (rw [HC.out]; exact ⟨rfl, (by repeat' (first | (with_reducible exact Gr.refl _) | (with_reducible assumption) | (with_reducible refine Gr.drewN ?_ _) | (with_reducible refine Gr.drew ?_) | (with_reducible refine Gr.alloc ?_ _) | (with_reducible refine Gr.setCell ?_ ?_ _) | (with_reducible refine Gr.grow ?_ _ _) | (refine Gr.step ?_ (by with_reducible assumption)) | go_size))⟩)
end Go.Proofs.YtjpjnbgfodlkcaaGreatDoor
/- The document's fractions: limited, Opposite. -/
namespace Go.Proofs.YtjpjnbgfodlkcaaGreatDoor
open Go Go.RowKit Go.Sort
set_option maxRecDepth 100000
set_option linter.unusedVariables false
theorem num_rdi {w : World} {v : Value} {N : Nat} (h : Num w v N) : RdI w v ((nd N).map fun x : Nat => (x : Int)) := by
  obtain ⟨a, cap, e, hl, hc, H⟩ := h
  refine ⟨a, cap, by rw [List.length_map]; exact e, by rw [List.length_map]; exact hl, hc, fun i hi => ?_⟩
  rw [List.length_map] at hi
  obtain ⟨b, off, ea, -, hcell⟩ := H i hi
  refine ⟨b, off, ea, ?_⟩
  rw [hcell]
  congr 2
  rw [List.getD_eq_getElem?_getD, List.getD_eq_getElem?_getD, List.getElem?_map, List.getElem?_eq_getElem hi]; rfl
theorem vraw_nd (N : Nat) : vraw ((nd N).map fun x : Nat => (x : Int)) = decide ((nd N).length ≤ 256) := by
  have h1 : ((nd N).map fun x : Nat => (x : Int)).all (fun x => decide (inLimb x)) = true := by
    rw [List.all_eq_true]
    intro x hx
    rw [List.mem_map] at hx
    obtain ⟨y, hy, rfl⟩ := hx
    obtain ⟨j, hj, rfl⟩ := List.getElem_of_mem hy
    have := lim_getD (lim_nd N) j
    have e : (nd N).getD j 0 = (nd N)[j] := by rw [List.getD_eq_getElem?_getD, List.getElem?_eq_getElem hj]; rfl
    rw [e] at this
    rw [decide_eq_true_eq]
    generalize (nd N)[j] = q at this
    exact ⟨Int.natCast_nonneg _, by omega⟩
  unfold vraw
  rw [h1, List.length_map, Bool.true_and]
  rcases Nat.eq_zero_or_pos N with rfl | h0
  · rw [nd_zero]; rfl
  · have hl : 0 < (nd N).length := by rw [nd_pos h0]; simp
    have h2 : (((nd N).map fun x : Nat => (x : Int)).getD ((nd N).length - 1) 0 != 0) = true := by
      rw [bne_iff_ne, List.getD_eq_getElem?_getD, List.getElem?_map, List.getElem?_eq_getElem (by omega)]
      have := nd_last (n := N) h0
      rw [List.getD_eq_getElem?_getD, List.getElem?_eq_getElem (by omega)] at this
      simpa using this
    rw [h2, Bool.or_true, Bool.and_true]
theorem fvr_nd {x : Bool} {N D : Nat} (hD : 0 < D) (hx : x = true → 0 < N) : fvr x ((nd N).map fun x : Nat => (x : Int)) ((nd D).map fun x : Nat => (x : Int)) = (decide ((nd N).length ≤ 64) && decide ((nd D).length ≤ 64)) := by
  have hd : decide (0 < (nd D).length) = true := by rw [decide_eq_true_eq, nd_pos hD]; simp
  have hn : (decide (0 < (nd N).length) || !x) = true := by
    cases x with
    | false => simp
    | true => rw [Bool.or_eq_true, decide_eq_true_eq]; left; rw [nd_pos (hx rfl)]; simp
  unfold fvr
  rw [vraw_nd, vraw_nd, List.length_map, List.length_map, hd, hn]
  by_cases p1 : (nd N).length ≤ 64
  · by_cases p2 : (nd D).length ≤ 64
    · rw [decide_eq_true p1, decide_eq_true p2, decide_eq_true (show (nd N).length ≤ 256 by omega), decide_eq_true (show (nd D).length ≤ 256 by omega)]; rfl
    · rw [decide_eq_false p2]; simp
  · rw [decide_eq_false p1]; simp
theorem rfv {x : Bool} {N D : Nat} (vn vd : Value) (w : World) (hN : Num w vn N) (hD : Num w vd D) (hD0 : 0 < D) (hx : x = true → 0 < N) (c : Bool) (hc : c = (decide ((nd N).length ≤ 64) && decide ((nd D).length ≤ 64))) :
    Calls Tryz.prog 30 #[.agg #[.bool x, vn, vd]] w fun e w' => e = .returned (.bool c) ∧ Gr w w' :=
  rfvraw_c x vn vd _ _ w (num_rdi hN) (num_rdi hD) c (by rw [fvr_nd hD0 hx]; exact hc)
set_option maxHeartbeats 1000000 in
theorem rlimited_any {r : Rat} (v : Value) (w : World) (h : Red w v r) :
    Calls Tryz.prog 42 #[v] w (FRes w r) := by
  obtain ⟨vn, vd, rfl, hN, hD⟩ := h
  have HN := Lib.hid hN
  have HD := Lib.hid hD
  obtain ⟨an, cn, rfl⟩ := num_slice hN
  obtain ⟨ad, cd, rfl⟩ := num_slice hD
  have HX := Lib.hid (show decide (r.num < 0) = true → 0 < r.num.natAbs from fun h => by rw [decide_eq_true_eq] at h; omega)
  obtain ⟨b, hb⟩ : ∃ b, b = decide (r.num < 0) := ⟨_, rfl⟩
  rw [← hb] at HX ⊢
  have HBB := Lib.hid hb
  have hF := (C3.new w (.bool b) (.slice an (nd r.num.natAbs).length cn) (.slice ad (nd r.den).length cd) 26 w.heap.size rfl).gr (Gr.alloc (Gr.refl _) (.cells #[.bool false, .slice none 0 0, .slice none 0 0] 26))
  have hR := C3.new (w.alloc (.cells #[.bool b, .slice an (nd r.num.natAbs).length cn, .slice ad (nd r.den).length cd] 26)) (.bool false) (.slice none 0 0) (.slice none 0 0) 26 (w.heap.size + 1) (by simp)
  have hG : Gr w ((w.alloc (.cells #[.bool b, .slice an (nd r.num.natAbs).length cn, .slice ad (nd r.den).length cd] 26)).alloc (.cells #[.bool false, .slice none 0 0, .slice none 0 0] 26)) := (Gr.alloc (Gr.refl _) _).alloc _
  clear hN hD hb
  by_cases hbd : Bd 64 r
  · have HBD := Lib.hid hbd
    have hc : true = (decide ((nd r.num.natAbs).length ≤ 64) && decide ((nd r.den).length ≤ 64)) := by rw [decide_eq_true hbd.1, decide_eq_true hbd.2]; rfl
    have HV := Lib.hid (fun W (g : Gr w W) => rfv (x := b) _ _ W (HN.out.gr g) (HD.out.gr g) r.den_pos HX.out true hc)
    clear hbd hc
    obtain ⟨fc0, fc1, fc2, -, -, -, -, -⟩ := id hF
    go_enter Tryz.func42, Tryz.ntmps42
    go_wp2_with fail
    generalize (w.alloc (.cells #[.bool b, .slice an (nd r.num.natAbs).length cn, .slice ad (nd r.den).length cd] 26)).alloc (.cells #[.bool false, .slice none 0 0, .slice none 0 0] 26) = W0 at *
    refine (HV.out _ hG).mono ?_
    rintro e w1 ⟨rfl, hg⟩
    replace hF := hF.gr hg
    replace hR := hR.gr hg
    replace hG := hG.step hg
    clear fc0 fc1 fc2 hg
    obtain ⟨fc0, fc1, fc2, -, -, -, -, -⟩ := id hF
    have hfl := hR.fill b an ad (nd r.num.natAbs).length (nd r.den).length cn cd
    obtain ⟨sc0, sc1, sc2, -, -, -, -, -⟩ := hfl.1
    obtain ⟨rc0, rc1, rc2, rf0, rf1, rf2, rlt, -⟩ := id hR
    go_wp2_with fail
    refine bodyPost_ret (v := .tuple #[.agg #[.bool b, .slice an (nd r.num.natAbs).length cn, .slice ad (nd r.den).length cd], .int .i64 0]) (by simp [results, Tryz.results42, go_sem, sc0, sc1, sc2]) rfl ?_
    exact ⟨_, 0, rfl, .inl ⟨HBD.out, rfl, ⟨_, _, by rw [← HBB.out], hfl.2 (HN.out.gr hG), hfl.2 (HD.out.gr hG)⟩⟩, C3.three hG (by omega) _ _ _⟩
  · have HBD := Lib.hid hbd
    have hc : false = (decide ((nd r.num.natAbs).length ≤ 64) && decide ((nd r.den).length ≤ 64)) := by
      symm
      rw [Bool.and_eq_false_iff]
      by_cases h1 : (nd r.num.natAbs).length ≤ 64
      · right; rw [decide_eq_false_iff_not]; exact fun h2 => hbd ⟨h1, h2⟩
      · left; rw [decide_eq_false_iff_not]; exact h1
    have HV := Lib.hid (fun W (g : Gr w W) => rfv (x := b) _ _ W (HN.out.gr g) (HD.out.gr g) r.den_pos HX.out false hc)
    clear hbd hc
    obtain ⟨fc0, fc1, fc2, -, -, -, -, -⟩ := id hF
    go_enter Tryz.func42, Tryz.ntmps42
    go_wp2_with fail
    generalize (w.alloc (.cells #[.bool b, .slice an (nd r.num.natAbs).length cn, .slice ad (nd r.den).length cd] 26)).alloc (.cells #[.bool false, .slice none 0 0, .slice none 0 0] 26) = W0 at *
    refine (HV.out _ hG).mono ?_
    rintro e w1 ⟨rfl, hg⟩
    replace hF := hF.gr hg
    replace hR := hR.gr hg
    replace hG := hG.step hg
    clear fc0 fc1 fc2 hg
    have hfl := hR.fill false none none 0 0 0 0
    obtain ⟨sc0, sc1, sc2, -, -, -, -, -⟩ := hfl.1
    obtain ⟨rc0, rc1, rc2, rf0, rf1, rf2, rlt, -⟩ := id hR
    go_wp2_with fail
    refine bodyPost_ret (v := .tuple #[.agg #[.bool false, .slice none 0 0, .slice none 0 0], .int .i64 5]) (by simp [results, Tryz.results42, go_sem, sc0, sc1, sc2]) rfl ?_
    exact ⟨_, 5, rfl, .inr ⟨HBD.out, rfl, rfl⟩, C3.three hG (by omega) _ _ _⟩
/-- the opposite -/
def OpRes (w : World) (r : Rat) (e : Ending) (w' : World) : Prop := ∃ (b : Bool) (a1 a2 : Option Addr) (n1 n2 c1 c2 : Nat), e = .returned (.agg #[.bool b, .slice a1 n1 c1, .slice a2 n2 c2]) ∧ Fra w' (.agg #[.bool b, .slice a1 n1 c1, .slice a2 n2 c2]) r ∧ Gr w w'
set_option maxHeartbeats 1000000 in
theorem ropp_any {r : Rat} (v : Value) (w : World) (h : Fra w v r) :
    Calls Tryz.prog 44 #[v] w (OpRes w (-r)) := by
  obtain ⟨x, va, vb, A, B, rfl, hA, hB, hB0, hx, lA, lB, rfl⟩ := h
  have hopp := rat_opp (B := B) hx
  obtain ⟨aa, ca, rfl⟩ := num_slice hA
  obtain ⟨ab, cb, rfl⟩ := num_slice hB
  have HA := Lib.hid hA
  have HB := Lib.hid hB
  have HB0 := Lib.hid hB0
  have HLA := Lib.hid lA
  have HLB := Lib.hid lB
  clear hA hB hB0 hx
  cases x
  · by_cases h0 : 0 < A
    · have hnl : 0 < (nd A).length := by rw [nd_pos h0]; simp
      have d2 : decide (0 < (nd A).length) = true := by simpa using hnl
      have HR := Lib.hid (show -rat false A B = rat true A B by rw [hopp, decide_eq_true h0]; rfl)
      have HP := Lib.hid h0
      clear h0 hnl hopp
      have hR := C3.new (w.alloc (.cells #[.bool true, .slice aa (nd A).length ca, .slice ab (nd B).length cb] 26)) (.bool true) (.slice aa (nd A).length ca) (.slice ab (nd B).length cb) 26 (w.heap.size + 1) (by simp)
      have hG : Gr w ((w.alloc (.cells #[.bool true, .slice aa (nd A).length ca, .slice ab (nd B).length cb] 26)).alloc (.cells #[.bool true, .slice aa (nd A).length ca, .slice ab (nd B).length cb] 26)) := (Gr.alloc (Gr.refl _) _).alloc _
      have HGG := Lib.hid hG
      obtain ⟨sc0, sc1, sc2, -, -, -, -, -⟩ := id hR
      clear hG hR
      go_enter Tryz.func44, Tryz.ntmps44
      go_wp2_with fail
      refine bodyPost_ret (v := .agg #[.bool true, .slice aa (nd A).length ca, .slice ab (nd B).length cb]) (by simp [results, Tryz.results44, go_sem, sc0, sc1, sc2]) rfl ?_
      exact ⟨_, _, _, _, _, _, _, rfl, ⟨_, _, _, A, B, rfl, HA.out.gr HGG.out, HB.out.gr HGG.out, HB0.out, (fun _ => HP.out), HLA.out, HLB.out, HR.out⟩, HGG.out⟩
    · have hnl : (nd A).length = 0 := by rw [show A = 0 by omega, nd_zero]; rfl
      have d2 : decide (0 < (nd A).length) = false := by rw [hnl]; rfl
      have HR := Lib.hid (show -rat false A B = rat false A B by rw [hopp, decide_eq_false h0]; rfl)
      clear h0 hnl hopp
      have hR := C3.new (w.alloc (.cells #[.bool false, .slice aa (nd A).length ca, .slice ab (nd B).length cb] 26)) (.bool false) (.slice aa (nd A).length ca) (.slice ab (nd B).length cb) 26 (w.heap.size + 1) (by simp)
      have hG : Gr w ((w.alloc (.cells #[.bool false, .slice aa (nd A).length ca, .slice ab (nd B).length cb] 26)).alloc (.cells #[.bool false, .slice aa (nd A).length ca, .slice ab (nd B).length cb] 26)) := (Gr.alloc (Gr.refl _) _).alloc _
      have HGG := Lib.hid hG
      obtain ⟨sc0, sc1, sc2, -, -, -, -, -⟩ := id hR
      clear hG hR
      go_enter Tryz.func44, Tryz.ntmps44
      go_wp2_with fail
      refine bodyPost_ret (v := .agg #[.bool false, .slice aa (nd A).length ca, .slice ab (nd B).length cb]) (by simp [results, Tryz.results44, go_sem, sc0, sc1, sc2]) rfl ?_
      exact ⟨_, _, _, _, _, _, _, rfl, ⟨_, _, _, A, B, rfl, HA.out.gr HGG.out, HB.out.gr HGG.out, HB0.out, (fun h => by cases h), HLA.out, HLB.out, HR.out⟩, HGG.out⟩
  · have HR := Lib.hid (show -rat true A B = rat false A B by rw [hopp]; rfl)
    clear hopp
    have hR := C3.new (w.alloc (.cells #[.bool false, .slice aa (nd A).length ca, .slice ab (nd B).length cb] 26)) (.bool false) (.slice aa (nd A).length ca) (.slice ab (nd B).length cb) 26 (w.heap.size + 1) (by simp)
    have hG : Gr w ((w.alloc (.cells #[.bool false, .slice aa (nd A).length ca, .slice ab (nd B).length cb] 26)).alloc (.cells #[.bool false, .slice aa (nd A).length ca, .slice ab (nd B).length cb] 26)) := (Gr.alloc (Gr.refl _) _).alloc _
    have HGG := Lib.hid hG
    obtain ⟨sc0, sc1, sc2, -, -, -, -, -⟩ := id hR
    clear hG hR
    go_enter Tryz.func44, Tryz.ntmps44
    go_wp2_with fail
    refine bodyPost_ret (v := .agg #[.bool false, .slice aa (nd A).length ca, .slice ab (nd B).length cb]) (by simp [results, Tryz.results44, go_sem, sc0, sc1, sc2]) rfl ?_
    exact ⟨_, _, _, _, _, _, _, rfl, ⟨_, _, _, A, B, rfl, HA.out.gr HGG.out, HB.out.gr HGG.out, HB0.out, (fun h => by cases h), HLA.out, HLB.out, HR.out⟩, HGG.out⟩
end Go.Proofs.YtjpjnbgfodlkcaaGreatDoor
