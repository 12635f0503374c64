/- A region that draws its order, inside a round of a loop over a function. -/
import Derived.Test.YtikkobmccagdlaaGreatDoorGr
import Derived.Deep.RegionHeld
import Derived.OrdersIn
import Derived.RangeFuncCalls
namespace Go.Proofs.YtikkobmccagdlaaGreatDoor
open Go Go.RowKit

/-- what is asked at the end alone -/
def QZ (Q : Exit → Act → World → Prop) : Exit → Act → World → Prop
  | .normal, a, w => Q .normal a w
  | _, _, _ => False
def noDefer (o : Oper) : Bool := match o.op with
  | .defer _ => false
  | _ => true
theorem noDefer_ne {o : Oper} (h : noDefer o = true) : ∀ c, o.op ≠ .defer c := by
  intro c hc; unfold noDefer at h; rw [hc] at h; cases h
theorem op_round {P : Program} {Q : Exit → Act → World → Prop} (l n : Nat) {o : Oper} {a : Act} {w : World} {K : Act → World → Prop} (hd : noDefer o = true) (h : o.wp P a w K (QZ Q)) : o.wpIn (Fence.wide.inRound l) n P a w K Q := by
  unfold Oper.wpIn
  refine ⟨fun _ _ => trivial, ?_⟩
  rw [Oper.semAt_eq _ _ _ (noDefer_ne hd)]
  unfold Oper.wp at h
  generalize (execOp a.eval o).run P w = r at *
  cases r with
  | ok x w' =>
    cases x <;> simp only [Oper.upon] at h <;> simp only [Oper.uponIn]
    case value v => exact h
    case skip => exact h
    case defer d => exact h
    case enter f args =>
      refine ⟨(fun hc => by cases hc), CallsIn.inRound l (callsIn_wide.2 (h.mono fun e w'' he => ?_))⟩
      cases e with
      | returned v => exact he
      | panicked c => exact (he : False).elim
      | outgrown => obtain ⟨_, _, hq⟩ := he; exact (hq : False).elim
    case row row args =>
      refine ⟨(fun hc => by cases hc), fun c cs _ => ?_⟩
      obtain ⟨v, w'', hv, hs⟩ := h c cs
      exact ⟨v, w'', hv, stepsIn_wide.2 hs⟩
  | halt x w' => cases x <;> simp only [Oper.upon] at h <;> exact (h : False).elim
theorem any_round {P : Program} {Q : Exit → Act → World → Prop} {ops : Array Oper} (l n : Nat) (hd : ops.toList.all noDefer = true) :
    ∀ (fuel : Nat) (listed : Array Bool) (a : Act) (w : World), wpAny P .any ops (QZ Q) fuel listed a w → wpAnyIn (Fence.wide.inRound l) n P .any ops Q fuel listed a w
  | 0, _, _, _, h => h
  | fuel + 1, _, _, _, h => ⟨h.1, fun i hi => by
    have hw := h.2 i hi
    unfold wpOp at hw
    unfold wpOpIn
    cases ho : ops[i]? with
    | none => simp only [ho] at hw ⊢; exact any_round l n hd fuel _ _ _ hw
    | some o =>
      simp only [ho] at hw ⊢
      have hdo : noDefer o = true := List.all_eq_true.1 hd o (by rw [← Array.getElem?_toList] at ho; exact List.mem_of_getElem? ho)
      split
      · rename_i hwt
        rw [if_pos hwt] at hw
        rcases hw with hw | ⟨-, hl⟩
        · exact Oper.wpIn_mono (fun a w h => any_round l n hd fuel _ a w h) (op_round l n hdo hw)
        · obtain ⟨_, _, hq⟩ := hl; exact (hq : False).elim
      · rename_i hwt
        rw [if_neg hwt] at hw
        exact ⟨fun _ _ => trivial, any_round l n hd fuel _ _ _ hw⟩⟩
theorem region_round {P : Program} {Q : Exit → Act → World → Prop} {ops : Array Oper} {id : Nat} {a : Act} {w : World} (S : World → Prop) (l n : Nat) (hm : P.follows .mixedOrders = true) (hd : ops.toList.all noDefer = true)
    (h : wpAnyH P .any ops (QZ Q) S ops.size (Array.replicate ops.size false) a w.drew) : (Code.region id ops true).wpIn (Fence.wide.inRound l) n P Q a w :=
  wpIn_region_any hm (any_round l n hd _ _ _ _ (wpAny_of_held _ _ _ _ h))
theorem region_wide {P : Program} {Q : Exit → Act → World → Prop} {ops : Array Oper} {id : Nat} {a : Act} {w : World} (S : World → Prop) (n : Nat) (hm : P.follows .mixedOrders = true)
    (h : wpAnyH P .any ops (QZ Q) S ops.size (Array.replicate ops.size false) a w.drew) : (Code.region id ops true).wpIn Fence.wide n P Q a w :=
  wpIn_wide.2 (Code.wp_mono (fun e _ _ h => by cases e <;> first | exact h | exact (h : False).elim) (wp_region_held hm h))
/-- taking an operation first, its slot written out -/
theorem take_at {P : Program} {ops : Array Oper} {Q : Exit → Act → World → Prop} {md : Region.Mode} {S : World → Prop} (i : Nat) (d : Option Tmp) {oi : Oper} {v : Value} {fuel : Nat} {listed : Array Bool} {a : Act} {w : World} (hi : ops[i]? = some oi) (hdst : oi.dst = d)
    (hs : Region.noSelect ops = true) (hf : Region.free md ops listed i = true) (hr : (Region.ready md ops listed).contains i = true) (hw : Region.wanted oi (yielded ops a.tmps) = true) (hy : ∀ w, S w → (execOp a.eval oi).run P w = .ok (.value v) w) (hS : S w)
    (h : wpAnyH P md ops (QZ Q) S fuel (listed.setIfInBounds i true) (a.put d v) w) : wpAnyH P md ops (QZ Q) S (fuel + 1) listed a w := by
  subst hdst
  exact wpAnyH_take hi hs hf hr (fun _ _ _ h => h) (.inl ⟨hw, hy⟩) hS h
/-- the last calls and stores, one after the other -/
theorem next_at {P : Program} {ops : Array Oper} {Q : Exit → Act → World → Prop} {md : Region.Mode} {S : World → Prop} (i : Nat) {fuel : Nat} {listed : Array Bool} {a : Act} {w : World} {o : Oper} (ho : ops[i]? = some o) (hr : Region.ready md ops listed = [i]) (hw : Region.wanted o (yielded ops a.tmps) = true)
    (h : ∀ K : Act → World → Prop, (∀ a w, S w → wpAnyH P md ops Q S fuel (listed.setIfInBounds i true) a w → K a w) → o.wp P a w K Q) : wpAnyH P md ops Q S (fuel + 1) listed a w := by
  refine wpAnyH_all hr (by simp) (fun j hj => ?_)
  rw [List.mem_singleton] at hj
  subst hj
  unfold wpOp
  simp only [ho, hw, if_true]
  exact .inl (h _ (fun a w hS hw => ⟨hS, hw⟩))
end Go.Proofs.YtikkobmccagdlaaGreatDoor
