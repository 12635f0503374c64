/- Several texts in one. -/
import Derived.Test.YtjpjnbgfodlkcaaGreatDoorGAD
import Derived.WalkKit
import Derived.WalkSpells
import Derived.WalkLawsBesides
import Derived.WalkSmall
import Derived.Handy
import Derived.BigQuiet
import Derived.Deep.QuietTactic
import Derived.Deep.RegionHeld3
import Derived.Deep.DeepFit
import Derived.Below
import Derived.Lib.Hide
import Derived.Lib.QuietBelow
import Derived.Deep.DeepCutAuto
import Derived.Test.YtjpjnbgfodlkcaaGreatDoorGAA
import Derived.Deep.RegionHeld
import Derived.OrdersIn
import Derived.RangeFuncCalls
/- digit: one limb of a quotient. -/
namespace Go.Proofs.YtjpjnbgfodlkcaaGreatDoor
open Go Go.RowKit Go.Sort
set_option maxRecDepth 100000
set_option linter.unusedVariables false

def dq (R D : List Nat) : Nat := min (nv R / nv D) 1073741823
def DgPost (r off : Nat) (R D : List Nat) (w : World) (e : Ending) (w' : World) : Prop :=
  ∃ R' : List Nat, e = .returned (.int .i64 (dq R D : Nat)) ∧ R'.length = R.length ∧ Lim R' ∧ nv R' + dq R D * nv D = nv R ∧ Arr w' r off R' ∧ Win r off R.length w w'
def DgRel (r off : Nat) (R D : List Nat) (w : World) (sv gv : Value) (wr : World) : Prop :=
  ∃ (g : Nat) (s : Int) (R' : List Nat), gv = .int .i64 g ∧ g ≤ 1073741823 ∧ dq R D ≤ g ∧ sv = .int .i64 s ∧ R'.length = R.length ∧ Lim R' ∧ ((nv R' : Nat) : Int) + s * 1073741824 ^ R.length = (nv R : Nat) - (g : Int) * (nv D : Nat) ∧ Arr wr r off R' ∧ Win r off R.length w wr
theorem dg_hg {R D : List Nat} {n g : Nat} (lD : Lim D) (hR : R.length = n + 2) (hD : D.length = n + 1) (hg : g ≤ 1073741823) : (g : Int) * (nv D : Nat) ≤ 1073741824 ^ R.length := by
  have h1 := nv_lt lD
  rw [hD] at h1
  have h2 : g * nv D ≤ 1073741824 * 1073741824 ^ (n + 1) := Nat.mul_le_mul (by omega) (by omega)
  rw [← bp_succ, ← hR] at h2
  have h3 : ((g * nv D : Nat) : Int) ≤ ((1073741824 ^ R.length : Nat) : Int) := by exact_mod_cast h2
  simpa using h3
theorem pow_cast {a k : Nat} (h : a < 1073741824 ^ k) : ((a : Nat) : Int) < 1073741824 ^ k := by
  have : ((a : Nat) : Int) < ((1073741824 ^ k : Nat) : Int) := Int.ofNat_lt.2 h
  simpa using this
set_option maxHeartbeats 2000000 in
theorem digit_any (R D : List Nat) (n r off cap : Nat) (vd : Value) (w : World) (hR : R.length = n + 2) (hD : D.length = n + 1) (hn : n ≤ 100000) (lR : Lim R) (lD : Lim D) (ht : 0 < D.getD n 0) (hA : Arr w r off R) (hB : Rd (· ≠ r) w vd D) :
    Calls Tryz.prog 115 #[.slice (some ⟨r, off, none⟩) R.length cap, vd] w (DgPost r off R D w) := by
  obtain ⟨hD0, hge⟩ := guess_ge lR hR hD ht
  have HA := Lib.hid hA
  have HB := Lib.hid hB
  have x1 := lim_getD lR (n + 1)
  have x0 := lim_getD lR n
  have y0 := lim_getD lD n
  have c1 := (hA (n + 1) (by omega)).1
  have c0 := (hA n (by omega)).1
  obtain ⟨ad, dcap, rfl, hdc, hdc2, hdcell⟩ := hB
  obtain ⟨bd, od, rfl, hbd, d0⟩ := hdcell n (by omega)
  generalize R.getD (n + 1) 0 = u at *
  generalize R.getD n 0 = v at *
  generalize D.getD n 0 = y at *
  obtain ⟨t, htt⟩ : ∃ t : Nat, t = u * 1073741824 + v := ⟨_, rfl⟩
  obtain ⟨s, hs⟩ : ∃ s : Nat, s = u * 1073741824 := ⟨_, rfl⟩
  obtain ⟨p, hp⟩ : ∃ p : Nat, p = t / y := ⟨_, rfl⟩
  have hu : u * 1073741824 ≤ 1073741823 * 1073741824 := Nat.mul_le_mul_right _ (by omega)
  have hpt : p ≤ t := by rw [hp]; exact Nat.div_le_self _ _
  obtain ⟨g0, hg0⟩ : ∃ g0 : Nat, g0 = min p 1073741823 := ⟨_, rfl⟩
  have hG1 : g0 ≤ 1073741823 := by omega
  have hG0 : dq R D ≤ g0 := by
    unfold dq
    rw [← htt, ← hp] at hge
    omega
  have HG0 := Lib.hid hG0
  have HGE := Lib.hid hge
  clear hG0 hge
  have f1 : (u : Int) * 1073741824 = (s : Int) := by omega
  have f2 : (s : Int) + (v : Int) = (t : Int) := by omega
  have f3 : (0 : Int) ≤ (s : Int) ∧ (s : Int) ≤ 1152921504606846975 := by omega
  have f4 : (0 : Int) ≤ (t : Int) ∧ (t : Int) ≤ 1152921504606846975 := by omega
  have f5 : (0 : Int) ≤ (p : Int) ∧ (p : Int) ≤ 1152921504606846975 := by omega
  have n4 := Lib.hid (show min (p : Int) 1073741823 = (g0 : Int) by omega)
  have n3 := Lib.hid (show ((y : Int) == 0) = false by rw [beq_eq_false_iff_ne]; omega)
  have n1 := Lib.hid (show (t : Int).tdiv (y : Int) = (p : Int) by rw [Int.tdiv_eq_ediv_of_nonneg f4.1, hp]; simp)
  have e1 := Lib.hid (show ((n + 1 : Nat) : Int) - 1 = (n : Int) by omega)
  have y1 : 0 < (y : Int) := by omega
  clear hg0 hp htt hs
  have m1 := Lib.hid (show IntKind.i64.wrap ((u : Int) * 1073741824) = (s : Int) by rw [f1]; exact IntWalk.i64_in _ ⟨by omega, by omega⟩)
  have m2 := Lib.hid (show IntKind.i64.wrap ((s : Int) + (v : Int)) = (t : Int) by rw [f2]; exact IntWalk.i64_in _ ⟨by omega, by omega⟩)
  have n2 := Lib.hid (show wrap64 (p : Int) = (p : Int) from IntWalk.wrap64_in _ ⟨by omega, by omega⟩)
  have e2 := Lib.hid (show IntKind.i64.wrap (((n + 1 : Nat) : Int) - 1) = (n : Int) by rw [e1.out]; exact IntWalk.i64_in _ ⟨by omega, by omega⟩)
  have HLR := Lib.hid lR
  have HLD := Lib.hid lD
  have HR := Lib.hid hR
  have HD := Lib.hid hD
  have HD0 := Lib.hid hD0
  have hB2 : Rd (· ≠ r) w (.slice (some ⟨bd, od, none⟩) (n + 1) dcap) D := by have := HB.out; rwa [hD] at this
  have hat : ∀ (W : World) (R' : List Nat) (f : Int), R'.length = n + 2 → Lim R' → Arr W r off R' → Ex r w W → -1073741824 < f → f < 1073741824 →
      Calls Tryz.prog 71 #[.slice (some ⟨r, off, none⟩) (n + 2) cap, .slice (some ⟨bd, od, none⟩) (n + 1) dcap, .int .i64 f] W (AtPost r off R' D f W) := by
    intro W R' f h1 h2 h3 h4 h5 h6
    have := addTimes_any R' D f r off cap _ W h3 (hB2.ex h4) h2 lD (by omega) h5 h6 (by omega)
    rwa [h1] at this
  have HAT := Lib.hid hat
  clear hat hB2
  rw [hR, hD]
  clear hA hdcell lR lD hu hR hD hD0 f1 f2 f3 f4 f5 hpt
  have m1 := m1.out
  have m2 := m2.out
  have n1 := n1.out
  have n2 := n2.out
  have n3 := n3.out
  have n4 := n4.out
  have e1 := e1.out
  have e2 := e2.out
  go_enter Tryz.func115, Tryz.ntmps115
  go_wp2_with fail
  go_quiet (fail)
  go_wp2_with fail
  refine (HAT.out _ R (-(g0 : Int)) HR.out HLR.out (HA.out.gr (Gr.drewN (Gr.refl _) _)) (Ex.drewN (Ex.refl _ _) _) (by omega) (by omega)).mono ?_
  rintro e w1 ⟨c, R1, rfl, hl1, hL1, hc0, hc1, heq1, harr1, hwin1⟩
  have hwin0 : Win r off R.length w w1 := (Win.gr (Gr.drewN (Gr.refl _) _) (World.block_lt_of_cell? _ _ c0)).trans hwin1
  have heq0 : ((nv R1 : Nat) : Int) + c * 1073741824 ^ R.length = (nv R : Nat) - (g0 : Int) * (nv D : Nat) := by rw [heq1, Int.neg_mul]; omega
  have HE0 := Lib.hid heq0
  have HW0 := Lib.hid hwin0
  have HA1 := Lib.hid harr1
  have HL1 := Lib.hid hl1
  clear heq1 heq0 hwin1 hwin0 harr1 hl1 m1 m2 n1 n2 n3 n4 e2
  go_wp2_with fail
  go_loopw [7, 6] (fun sv gv wr => DgRel r off R D w sv gv wr) (fun _ gv _ => (intOf gv).toNat)
  case atStart => exact ⟨g0, c, R1, rfl, hG1, HG0.out, rfl, HL1.out, hL1, HE0.out, HA1.out, HW0.out⟩
  case round =>
    obtain ⟨g, s, R', rfl, hg1, hgq, rfl, hl', hL', heq, harr, hwin⟩ := hrel
    have hdg := dg_hg (g := g) HLD.out HR.out HD.out hg1
    have hRp : ((nv R : Nat) : Int) < 1073741824 ^ R.length := pow_cast (nv_lt HLR.out)
    have hnp : ((nv R' : Nat) : Int) < 1073741824 ^ R.length := pow_cast (by have := nv_lt hL'; rwa [hl'] at this)
    obtain ⟨hs1, hs2, hs3, hs4⟩ := digit_sign heq (by omega) hnp hRp hdg HD0.out
    have HS := Lib.hid hs1
    have HS4 := Lib.hid hs4
    have HEQ := Lib.hid heq
    have HGQ := Lib.hid hgq
    have HL' := Lib.hid hl'
    have HA' := Lib.hid harr
    have HW' := Lib.hid hwin
    clear hs1 hs4 heq hgq hl' harr hwin hdg hRp hnp
    by_cases hlt : s < 0
    · have hg2 : 1 ≤ g := Nat.lt_of_le_of_lt (Nat.zero_le _) (HS.out.1 hlt)
      have hg3 : dq R D ≤ g - 1 := by have := HS.out.1 hlt; unfold dq; omega
      have HG3 := Lib.hid hg3
      clear hg3
      go_wp2_with fail
      refine (HAT.out _ R' 1 (by rw [HL'.out, HR.out]) hL' HA'.out HW'.out.ex (by omega) (by omega)).mono ?_
      rintro e w2 ⟨c', R2, rfl, hl2, hL2, hc2, hc3, heq2, harr2, hwin2⟩
      have heq3 : ((nv R2 : Nat) : Int) + (s + c') * 1073741824 ^ R.length = (nv R : Nat) - ((g - 1 : Nat) : Int) * (nv D : Nat) := by
        have h1 := HEQ.out
        rw [HL'.out] at heq2
        rw [show ((g - 1 : Nat) : Int) = (g : Int) - 1 by omega]
        generalize (1073741824 : Int) ^ R.length = P at *
        grind
      have HE3 := Lib.hid heq3
      have HL2 := Lib.hid hl2
      have HA2 := Lib.hid harr2
      have HW2 := Lib.hid hwin2
      clear heq2 heq3 hl2 harr2 hwin2
      have eg : ((g - 1 : Nat) : Int) = (g : Int) - 1 := by omega
      have EG := Lib.hid eg
      clear eg
      go_wp2_with fail
      go_roundw
      case rel =>
        rw [← EG.out]
        exact ⟨g - 1, s + c', R2, rfl, by omega, HG3.out, rfl, by rw [HL2.out, HL'.out], hL2, HE3.out, HA2.out, HW'.out.trans (by have := HW2.out; rw [HL'.out] at this; exact this)⟩
      case measure => simp only [intOf]; omega
    · have hge : g ≤ nv R / nv D := by have := HS.out; omega
      have hgd : g = dq R D := by have := HGQ.out; unfold dq at *; omega
      have hs0 : s = 0 := by omega
      have hv : nv R' + g * nv D = nv R := by
        have h1 := HEQ.out
        rw [hs0, Int.zero_mul, Int.add_zero] at h1
        have h2 : (g : Int) * (nv D : Nat) = ((g * nv D : Nat) : Int) := by simp
        omega
      have HV := Lib.hid hv
      have HGD := Lib.hid hgd
      clear hv hgd hs0 hge
      go_wp2_with fail
      go_ret
      exact ⟨R', by rw [← HGD.out]; rfl, HL'.out, hL', by rw [← HGD.out]; exact HV.out, HA'.out, HW'.out⟩
end Go.Proofs.YtjpjnbgfodlkcaaGreatDoor
/- A region that draws its order, inside a round of a loop over a function. -/
namespace Go.Proofs.YtjpjnbgfodlkcaaGreatDoor
open Go Go.RowKit

/-- what is asked at the end alone -/
def QZ (Q : Exit → Act → World → Prop) : Exit → Act → World → Prop
  | .normal, a, w => Q .normal a w
  | _, _, _ => False
def noDefer (o : Oper) : Bool := match o.op with
  | .defer _ => false
  | _ => true
theorem noDefer_ne {o : Oper} (h : noDefer o = true) : ∀ c, o.op ≠ .defer c := by
  intro c hc; unfold noDefer at h; rw [hc] at h; cases h
theorem op_round {P : Program} {Q : Exit → Act → World → Prop} (l n : Nat) {o : Oper} {a : Act} {w : World} {K : Act → World → Prop} (hd : noDefer o = true) (h : o.wp P a w K (QZ Q)) : o.wpIn (Fence.wide.inRound l) n P a w K Q := by
  unfold Oper.wpIn
  refine ⟨fun _ _ => trivial, ?_⟩
  rw [Oper.semAt_eq _ _ _ (noDefer_ne hd)]
  unfold Oper.wp at h
  generalize (execOp a.eval o).run P w = r at *
  cases r with
  | ok x w' =>
    cases x <;> simp only [Oper.upon] at h <;> simp only [Oper.uponIn]
    case value v => exact h
    case skip => exact h
    case defer d => exact h
    case enter f args =>
      refine ⟨(fun hc => by cases hc), CallsIn.inRound l (callsIn_wide.2 (h.mono fun e w'' he => ?_))⟩
      cases e with
      | returned v => exact he
      | panicked c => exact (he : False).elim
      | outgrown => obtain ⟨_, _, hq⟩ := he; exact (hq : False).elim
    case row row args =>
      refine ⟨(fun hc => by cases hc), fun c cs _ => ?_⟩
      obtain ⟨v, w'', hv, hs⟩ := h c cs
      exact ⟨v, w'', hv, stepsIn_wide.2 hs⟩
  | halt x w' => cases x <;> simp only [Oper.upon] at h <;> exact (h : False).elim
theorem any_round {P : Program} {Q : Exit → Act → World → Prop} {ops : Array Oper} (l n : Nat) (hd : ops.toList.all noDefer = true) :
    ∀ (fuel : Nat) (listed : Array Bool) (a : Act) (w : World), wpAny P .any ops (QZ Q) fuel listed a w → wpAnyIn (Fence.wide.inRound l) n P .any ops Q fuel listed a w
  | 0, _, _, _, h => h
  | fuel + 1, _, _, _, h => ⟨h.1, fun i hi => by
    have hw := h.2 i hi
    unfold wpOp at hw
    unfold wpOpIn
    cases ho : ops[i]? with
    | none => simp only [ho] at hw ⊢; exact any_round l n hd fuel _ _ _ hw
    | some o =>
      simp only [ho] at hw ⊢
      have hdo : noDefer o = true := List.all_eq_true.1 hd o (by rw [← Array.getElem?_toList] at ho; exact List.mem_of_getElem? ho)
      split
      · rename_i hwt
        rw [if_pos hwt] at hw
        rcases hw with hw | ⟨-, hl⟩
        · exact Oper.wpIn_mono (fun a w h => any_round l n hd fuel _ a w h) (op_round l n hdo hw)
        · obtain ⟨_, _, hq⟩ := hl; exact (hq : False).elim
      · rename_i hwt
        rw [if_neg hwt] at hw
        exact ⟨fun _ _ => trivial, any_round l n hd fuel _ _ _ hw⟩⟩
theorem region_round {P : Program} {Q : Exit → Act → World → Prop} {ops : Array Oper} {id : Nat} {a : Act} {w : World} (S : World → Prop) (l n : Nat) (hm : P.follows .mixedOrders = true) (hd : ops.toList.all noDefer = true)
    (h : wpAnyH P .any ops (QZ Q) S ops.size (Array.replicate ops.size false) a w.drew) : (Code.region id ops true).wpIn (Fence.wide.inRound l) n P Q a w :=
  wpIn_region_any hm (any_round l n hd _ _ _ _ (wpAny_of_held _ _ _ _ h))
theorem region_wide {P : Program} {Q : Exit → Act → World → Prop} {ops : Array Oper} {id : Nat} {a : Act} {w : World} (S : World → Prop) (n : Nat) (hm : P.follows .mixedOrders = true)
    (h : wpAnyH P .any ops (QZ Q) S ops.size (Array.replicate ops.size false) a w.drew) : (Code.region id ops true).wpIn Fence.wide n P Q a w :=
  wpIn_wide.2 (Code.wp_mono (fun e _ _ h => by cases e <;> first | exact h | exact (h : False).elim) (wp_region_held hm h))
/-- taking an operation first, its slot written out -/
theorem take_at {P : Program} {ops : Array Oper} {Q : Exit → Act → World → Prop} {md : Region.Mode} {S : World → Prop} (i : Nat) (d : Option Tmp) {oi : Oper} {v : Value} {fuel : Nat} {listed : Array Bool} {a : Act} {w : World} (hi : ops[i]? = some oi) (hdst : oi.dst = d)
    (hs : Region.noSelect ops = true) (hf : Region.free md ops listed i = true) (hr : (Region.ready md ops listed).contains i = true) (hw : Region.wanted oi (yielded ops a.tmps) = true) (hy : ∀ w, S w → (execOp a.eval oi).run P w = .ok (.value v) w) (hS : S w)
    (h : wpAnyH P md ops (QZ Q) S fuel (listed.setIfInBounds i true) (a.put d v) w) : wpAnyH P md ops (QZ Q) S (fuel + 1) listed a w := by
  subst hdst
  exact wpAnyH_take hi hs hf hr (fun _ _ _ h => h) (.inl ⟨hw, hy⟩) hS h
/-- the last calls and stores, one after the other -/
theorem next_at {P : Program} {ops : Array Oper} {Q : Exit → Act → World → Prop} {md : Region.Mode} {S : World → Prop} (i : Nat) {fuel : Nat} {listed : Array Bool} {a : Act} {w : World} {o : Oper} (ho : ops[i]? = some o) (hr : Region.ready md ops listed = [i]) (hw : Region.wanted o (yielded ops a.tmps) = true)
    (h : ∀ K : Act → World → Prop, (∀ a w, S w → wpAnyH P md ops Q S fuel (listed.setIfInBounds i true) a w → K a w) → o.wp P a w K Q) : wpAnyH P md ops Q S (fuel + 1) listed a w := by
  refine wpAnyH_all hr (by simp) (fun j hj => ?_)
  rw [List.mem_singleton] at hj
  subst hj
  unfold wpOp
  simp only [ho, hw, if_true]
  exact .inl (h _ (fun a w hS hw => ⟨hS, hw⟩))
end Go.Proofs.YtjpjnbgfodlkcaaGreatDoor
