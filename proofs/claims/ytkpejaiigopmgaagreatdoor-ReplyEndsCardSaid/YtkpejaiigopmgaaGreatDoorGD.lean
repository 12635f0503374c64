/- Several texts in one. -/
import Derived.Test.YtkpejaiigopmgaaGreatDoorGr
import Derived.WalkKit
import Derived.WalkSpells
import Derived.WalkLawsBesides
import Derived.WalkSmall
import Derived.Handy
import Derived.BigQuiet
import Derived.Deep.QuietTactic
import Derived.Deep.RegionHeld3
import Derived.Deep.DeepFit
import Derived.Below
import Derived.Lib.Hide
import Derived.Lib.QuietBelow
import Derived.Deep.RegionHeld
import Derived.OrdersIn
import Derived.RangeFuncCalls
import Derived.Test.YtkpejaiigopmgaaGreatDoorGA
import Derived.Laws.BytesArg
import Derived.Lib.Strings
import Derived.Laws.IdiomStrings
/- Regions that draw their order, one operation at a time (for any chapter). -/
namespace Go.Proofs.YtkpejaiigopmgaaGreatDoor
open Go Go.RowKit Go.Sort
set_option maxRecDepth 100000
set_option linter.unusedVariables false
/-- what is asked at the end alone -/
def QZ (Q : Exit → Act → World → Prop) : Exit → Act → World → Prop
  | .normal, a, w => Q .normal a w
  | _, _, _ => False
/-- taking an operation first, its slot written out -/
theorem take_at {P : Program} {ops : Array Oper} {Q : Exit → Act → World → Prop} {md : Region.Mode} {S : World → Prop} (i : Nat) (d : Option Tmp) {oi : Oper} {v : Value} {fuel : Nat} {listed : Array Bool} {a : Act} {w : World} (hi : ops[i]? = some oi) (hdst : oi.dst = d)
    (hs : Region.noSelect ops = true) (hf : Region.free md ops listed i = true) (hr : (Region.ready md ops listed).contains i = true) (hw : Region.wanted oi (yielded ops a.tmps) = true) (hy : ∀ w, S w → (execOp a.eval oi).run P w = .ok (.value v) w) (hS : S w)
    (h : wpAnyH P md ops (QZ Q) S fuel (listed.setIfInBounds i true) (a.put d v) w) : wpAnyH P md ops (QZ Q) S (fuel + 1) listed a w := by
  subst hdst
  exact wpAnyH_take hi hs hf hr (fun _ _ _ h => h) (.inl ⟨hw, hy⟩) hS h
/-- the last calls and stores, one after the other -/
theorem next_at {P : Program} {ops : Array Oper} {Q : Exit → Act → World → Prop} {md : Region.Mode} {S : World → Prop} (i : Nat) {fuel : Nat} {listed : Array Bool} {a : Act} {w : World} {o : Oper} (ho : ops[i]? = some o) (hr : Region.ready md ops listed = [i]) (hw : Region.wanted o (yielded ops a.tmps) = true)
    (h : ∀ K : Act → World → Prop, (∀ a w, S w → wpAnyH P md ops Q S fuel (listed.setIfInBounds i true) a w → K a w) → o.wp P a w K Q) : wpAnyH P md ops Q S (fuel + 1) listed a w := by
  refine wpAnyH_all hr (by simp) (fun j hj => ?_)
  rw [List.mem_singleton] at hj
  subst hj
  unfold wpOp
  simp only [ho, hw, if_true]
  exact .inl (h _ (fun a w hS hw => ⟨hS, hw⟩))
/-- two of which either may come first -/
theorem next_two {P : Program} {ops : Array Oper} {Q : Exit → Act → World → Prop} {md : Region.Mode} {S : World → Prop} (i j : Nat) {fuel : Nat} {listed : Array Bool} {a : Act} {w : World} {oi oj : Oper} (hi : ops[i]? = some oi) (hj : ops[j]? = some oj)
    (hr : Region.ready md ops listed = [i, j]) (hwi : Region.wanted oi (yielded ops a.tmps) = true) (hwj : Region.wanted oj (yielded ops a.tmps) = true)
    (h1 : ∀ K : Act → World → Prop, (∀ a w, S w → wpAnyH P md ops Q S fuel (listed.setIfInBounds i true) a w → K a w) → oi.wp P a w K Q)
    (h2 : ∀ K : Act → World → Prop, (∀ a w, S w → wpAnyH P md ops Q S fuel (listed.setIfInBounds j true) a w → K a w) → oj.wp P a w K Q) : wpAnyH P md ops Q S (fuel + 1) listed a w := by
  refine wpAnyH_all hr (by simp) (fun m hm => ?_)
  rcases List.mem_cons.1 hm with rfl | hm
  · unfold wpOp
    simp only [hi, hwi, if_true]
    exact .inl (h1 _ (fun a w hS hw => ⟨hS, hw⟩))
  · rw [List.mem_singleton] at hm
    subst hm
    unfold wpOp
    simp only [hj, hwj, if_true]
    exact .inl (h2 _ (fun a w hS hw => ⟨hS, hw⟩))
theorem region_plain {P : Program} {Q : Exit → Act → World → Prop} {ops : Array Oper} {id : Nat} {a : Act} {w : World} (S : World → Prop) (hm : P.follows .mixedOrders = true)
    (h : wpAnyH P .any ops (QZ Q) S ops.size (Array.replicate ops.size false) a w.drew) : (Code.region id ops true).wp P Q a w :=
  Code.wp_mono (fun e _ _ h => by cases e <;> first | exact h | exact (h : False).elim) (wp_region_held hm h)
theorem qz_normal {Q : Exit → Act → World → Prop} {a : Act} {w : World} (h : Q .normal a w) : QZ Q .normal a w := h
end Go.Proofs.YtkpejaiigopmgaaGreatDoor
/- Equal: two slices of bytes, as the package compares them and as the document does. -/
namespace Go.Proofs.YtkpejaiigopmgaaGreatDoor
open Go Go.RowKit Go.Sort
set_option maxRecDepth 100000
set_option linter.unusedVariables false
/-- bytes as a string -/
def strB (l : List Nat) : ByteArray := strOfNums (l.map fun x : Nat => (x : Int))
theorem strB_list (l : List Nat) : (strB l).toList = l.map UInt8.ofNat := by
  rw [Lib.toList_data]
  unfold strB
  rw [strOfNums_data, List.map_map]
  exact List.map_congr_left fun x _ => by simp
theorem ofNat_inj {a b : Nat} (ha : a < 256) (hb : b < 256) (h : UInt8.ofNat a = UInt8.ofNat b) : a = b := by
  have := congrArg UInt8.toNat h
  simp at this
  omega
theorem map_inj {l m : List Nat} (hl : ∀ x ∈ l, x < 256) (hm : ∀ x ∈ m, x < 256) (h : l.map UInt8.ofNat = m.map UInt8.ofNat) : l = m := by
  induction l generalizing m with
  | nil => cases m with
    | nil => rfl
    | cons y t => simp at h
  | cons x t ih =>
    cases m with
    | nil => simp at h
    | cons y s =>
      simp only [List.map_cons, List.cons.injEq] at h
      rw [ofNat_inj (hl x (List.mem_cons_self ..)) (hm y (List.mem_cons_self ..)) h.1, ih (fun z hz => hl z (List.mem_cons_of_mem _ hz)) (fun z hz => hm z (List.mem_cons_of_mem _ hz)) h.2]
theorem strB_eq {l m : List Nat} (hl : ∀ x ∈ l, x < 256) (hm : ∀ x ∈ m, x < 256) : ((strB l).toList == (strB m).toList) = decide (l = m) := by
  rw [strB_list, strB_list, Bool.eq_iff_iff, beq_iff_eq, decide_eq_true_eq]
  exact ⟨map_inj hl hm, fun h => by rw [h]⟩
theorem conv_rb {p : Nat → Prop} {w : World} {v : Value} {l : List Nat} (h : Rb p w v l) : (convert 22 9 v).run Tryz.prog w = .ok (.string (strB l)) w := by
  obtain ⟨a, cap, rfl, hl, hc, hn, hx, H⟩ := h
  cases a with
  | none =>
    have hm : l = [] := by
      cases l with
      | nil => rfl
      | cons y t => obtain ⟨b, off, e, _⟩ := H 0 (by simp); cases e
    subst hm
    exact run_convert_bytes_nil w _ _ Tryz.underlying22 Tryz.underlying5 _ _ _ Tryz.underlying9
  | some ad =>
    have hl' : (loadCells ad l.length).run Tryz.prog w = .ok ((l.map fun x : Nat => (x : Int)).map (Value.int .u8)).toArray w := by
      have := run_loadCells_list (P := Tryz.prog) w ad (cellsB l) (fun j u hj => by
        have hjm : j < l.length := by
          rcases Nat.lt_or_ge j l.length with h | h
          · exact h
          · rw [List.getElem?_eq_none (by rw [cellsB_len]; exact h)] at hj; cases hj
        rw [cellsB_at l hjm] at hj
        obtain rfl := Option.some.inj hj
        obtain ⟨b, off, e, _, hcell⟩ := H j hjm
        cases e
        rw [show (⟨b, off, none⟩ : Addr).add j = ⟨b, off + j, none⟩ by unfold Addr.add; split <;> simp_all]
        exact hcell)
      rw [cellsB_len] at this
      rw [this]
      congr 1
      simp [cellsB]
    rw [run_convert_bytes_string w _ _ _ _ l.length cap Tryz.underlying22 Tryz.underlying5 Tryz.underlying9, run_bytesToString w _ l.length cap _ hl', foldl_push_bytes]
    simp [strB, strOfNums, ByteArray.empty, ByteArray.emptyWithCapacity]
    rfl
theorem weq_any {p q : Nat → Prop} {va vb : Value} {l m : List Nat} (w : World) (ha : Rb p w va l) (hb : Rb q w vb m) :
    Calls Tryz.prog 83 #[va, vb] w fun e w' => e = .returned (.bool (decide (l = m))) ∧ w = w' := by
  have h1 := conv_rb ha
  have h2 := conv_rb hb
  have hE := strB_eq ha.bytes hb.bytes
  obtain ⟨a, ca, rfl, -, -⟩ := ha.form
  obtain ⟨b, cb, rfl, -, -⟩ := hb.form
  clear ha hb
  generalize strB l = S at *
  generalize strB m = T at *
  generalize decide (l = m) = c at *
  go_enter Tryz.func83, Tryz.ntmps83
  go_wp2
  go_ret
  exact ⟨rfl, rfl⟩
end Go.Proofs.YtkpejaiigopmgaaGreatDoor
