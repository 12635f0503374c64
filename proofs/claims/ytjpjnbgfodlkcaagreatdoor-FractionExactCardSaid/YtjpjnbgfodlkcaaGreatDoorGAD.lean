/- Several texts in one. -/
import Derived.Test.YtjpjnbgfodlkcaaGreatDoorGAB
import Derived.WalkKit
import Derived.WalkSpells
import Derived.WalkLawsBesides
import Derived.WalkSmall
import Derived.Handy
import Derived.BigQuiet
import Derived.Deep.QuietTactic
import Derived.Deep.RegionHeld3
import Derived.Deep.DeepFit
import Derived.Below
import Derived.Lib.Hide
import Derived.Lib.QuietBelow
import Derived.Test.YtjpjnbgfodlkcaaGreatDoorGAC
import Derived.Deep.DeepCutAuto
import Derived.StillTailTactics
/- addTimes. -/
namespace Go.Proofs.YtjpjnbgfodlkcaaGreatDoor
open Go Go.RowKit Go.Sort
set_option maxRecDepth 100000
set_option linter.unusedVariables false

def AtPost (r off : Nat) (la lb : List Nat) (f : Int) (w : World) (e : Ending) (w' : World) : Prop :=
  ∃ (c : Int) (l : List Nat), e = .returned (.int .i64 c) ∧ l.length = la.length ∧ Lim l ∧ -1073741824 < c ∧ c < 1073741824 ∧ ((nv l : Nat) : Int) + c * 1073741824 ^ la.length = (nv la : Nat) + f * (nv lb : Nat) ∧ Arr w' r off l ∧ Win r off la.length w w'
theorem getD_mid (pre l : List Nat) (k : Nat) (h : pre.length = k) : (pre ++ l.drop k).getD k 0 = l.getD k 0 := by
  rw [List.getD_eq_getElem?_getD, List.getElem?_append_right (by omega), List.getElem?_drop, List.getD_eq_getElem?_getD]; congr 2; omega
theorem set_mid (pre l : List Nat) (k x : Nat) (h : pre.length = k) (hk : k < l.length) : (pre ++ l.drop k).set k x = pre ++ [x] ++ l.drop (k + 1) := by
  rw [List.set_append_right _ _ (by omega), drop_cons hk, show k - pre.length = 0 by omega, List.set_cons_zero]; simp
set_option maxHeartbeats 1000000 in
theorem addTimes_any (la lb : List Nat) (f : Int) (r off cap : Nat) (vb : Value) (w : World) (hA : Arr w r off la) (hB : Rd (· ≠ r) w vb lb) (lA : Lim la) (lB : Lim lb) (hl : lb.length ≤ la.length)
    (f0 : -1073741824 < f) (f1 : f < 1073741824) (hn : la.length ≤ 1000000) :
    Calls Tryz.prog 71 #[.slice (some ⟨r, off, none⟩) la.length cap, vb, .int .i64 f] w (AtPost r off la lb f w) := by
  have HA := Lib.hid hA
  have HB := Lib.hid hB
  have HLA := Lib.hid lA
  have HLB := Lib.hid lB
  obtain ⟨bb, bcap, rfl, -, -, -⟩ := hB
  clear hA lA lB
  go_enter Tryz.func71, Tryz.ntmps71
  go_wp2
  go_loopw [7, 11] (fun cv s wr => ∃ (k : Nat) (c : Int) (pre : List Nat), k ≤ la.length ∧ s = .int .i64 k ∧ cv = .int .i64 c ∧ pre.length = k ∧ Lim pre ∧ -1073741824 < c ∧ c < 1073741824 ∧ ((nv pre : Nat) : Int) + c * 1073741824 ^ k = (nv (la.take k) : Nat) + f * (nv (lb.take k) : Nat) ∧ Arr wr r off (pre ++ la.drop k) ∧ Win r off la.length w wr) (fun _ s _ => la.length - (intOf s).toNat)
  case atStart => exact ⟨0, 0, [], Nat.zero_le _, rfl, rfl, rfl, lim_nil, by omega, by omega, by simp [nv], HA.out, Win.refl _ _ _ _⟩
  case round =>
    obtain ⟨k, c, pre, hk, rfl, rfl, hp, hpl, c0, c1, hv, harr, hwin⟩ := hrel
    have HV := Lib.hid hv
    have HP := Lib.hid hp
    have HR := Lib.hid harr
    have HW := Lib.hid hwin
    clear hv hp harr hwin
    by_cases hlt : k < la.length
    · have hx := lim_getD HLA.out k
      have hy := lim_getD HLB.out k
      obtain ⟨b1, b2, b3, b4, b5, b6⟩ := at_bound c0 c1 f0 f1 hx hy
      have hcell := (HR.out k (by rw [List.length_append, List.length_drop, HP.out]; omega)).1
      rw [getD_mid _ _ _ HP.out] at hcell
      have hfroz := (HR.out k (by rw [List.length_append, List.length_drop, HP.out]; omega)).2
      have hlimb := fun n => limb_any k (wr.drewN n) ((HB.out.ex HW.out.ex).gr (Gr.drewN (Gr.refl _) n))
      have HS := Lib.hid (at_step (x := (la.getD k 0 : Nat)) (y := (lb.getD k 0 : Nat)) HV.out)
      generalize hxx : la.getD k 0 = x at hcell hx b1 b2 b3 b4 HS
      generalize hyy : lb.getD k 0 = y at hlimb hy b1 b2 b3 b4 b5 b6 HS
      have HXX := Lib.hid hxx
      have HYY := Lib.hid hyy
      obtain ⟨z, hz⟩ : ∃ z : Int, z = f * (y : Int) := ⟨_, rfl⟩
      rw [← hz] at b1 b2 b3 b4 b5 b6
      have m1 : IntKind.i64.wrap (f * (y : Int)) = z := by rw [← hz]; exact IntWalk.i64_in _ (by omega)
      have m2 : IntKind.i64.wrap ((x : Int) + z) = (x : Int) + z := IntWalk.i64_in _ (by omega)
      have m3 : IntKind.i64.wrap (c + ((x : Int) + z)) = c + ((x : Int) + z) := IntWalk.i64_in _ (by omega)
      have HZ := Lib.hid hz
      have hd := Int.emod_nonneg (c + ((x : Int) + z)) (show (1073741824 : Int) ≠ 0 by decide)
      have hd2 := Int.emod_lt_of_pos (c + ((x : Int) + z)) (show (0 : Int) < 1073741824 by decide)
      have HD := Lib.hid hd
      have HD2 := Lib.hid hd2
      have ha := and30 (c + ((x : Int) + z))
      clear hz hxx hyy hd hd2
      go_wp2
      go_quiet ((go_at_call 74; exact Calls.quiet_of_same ((hlimb _).mono fun e w' ⟨he, hw⟩ => ⟨he, hw.symm⟩)))
      go_wp2
      go_roundw
      case rel =>
        have e0 : c + (x : Int) + f * (y : Int) = c + ((x : Int) + z) := by rw [HZ.out]; omega
        have hs := HS.out
        rw [e0] at hs
        obtain ⟨d, hd⟩ : ∃ d : Nat, (d : Int) = (c + ((x : Int) + z)) % 1073741824 := ⟨_, Int.toNat_of_nonneg HD.out⟩
        have hd2 := HD2.out
        rw [← hd] at hs hd2 ⊢
        have e1 : ((nv (pre ++ [d]) : Nat) : Int) = (nv pre : Nat) + 1073741824 ^ k * (d : Int) := by rw [nv_append, HP.out]; simp [nv]
        have e2 : ((nv (la.take (k + 1)) : Nat) : Int) = (nv (la.take k) : Nat) + 1073741824 ^ k * (x : Int) := by rw [take_split', HXX.out]; simp
        have e3 : ((nv (lb.take (k + 1)) : Nat) : Int) = (nv (lb.take k) : Nat) + 1073741824 ^ k * (y : Int) := by rw [take_split', HYY.out]; simp
        refine ⟨k + 1, _, pre ++ [d], by omega, by go_num, rfl, by simp [HP.out], lim_append.2 ⟨hpl, lim_cons.2 ⟨by omega, lim_nil⟩⟩, b3, b4, ?_, ?_, ?_⟩
        · rw [e1, e2, e3, Int.pow_succ, Int.mul_comm (1073741824 ^ k) 1073741824]; exact hs
        · have h1 := (HR.out.gr (Gr.drewN (Gr.refl _) nq)).set (i := k) (by rw [List.length_append, List.length_drop, HP.out]; omega) d
          rw [set_mid _ _ _ _ HP.out hlt] at h1
          exact h1
        · exact HW.out.trans ((Win.gr (Gr.drewN (Gr.refl _) nq) (World.block_lt_of_cell? _ _ hcell)).trans (Win.set _ _ (by omega) (by omega)))
      case measure => simp [intOf]; omega
    · obtain rfl : k = la.length := by omega
      go_wp2
      go_ret
      refine ⟨c, pre, rfl, HP.out, hpl, c0, c1, ?_, ?_, HW.out⟩
      · have := HV.out
        rw [List.take_of_length_le (Nat.le_refl _), List.take_of_length_le (by omega)] at this
        exact this
      · have := HR.out
        rw [List.drop_of_length_le (Nat.le_refl _), List.append_nil] at this
        exact this
theorem addTimes_nil (f : Int) (vb : Value) (w : World) :
    Calls Tryz.prog 71 #[.slice none 0 0, vb, .int .i64 f] w fun e w' => e = .returned (.int .i64 0) ∧ w = w' := by
  go_enter Tryz.func71, Tryz.ntmps71
  go_wp2
  go_loop [7, 11] (fun cv s => cv = .int .i64 0 ∧ s = .int .i64 0) (fun _ _ => 0)
  case atStart => exact ⟨rfl, rfl⟩
  case round =>
    obtain ⟨rfl, rfl⟩ := hrel
    go_wp2
    go_ret
    exact ⟨rfl, rfl⟩
end Go.Proofs.YtjpjnbgfodlkcaaGreatDoor
/- Mul. -/
namespace Go.Proofs.YtjpjnbgfodlkcaaGreatDoor
open Go Go.RowKit Go.Sort
set_option maxRecDepth 100000
set_option linter.unusedVariables false

set_option maxHeartbeats 1000000 in
theorem mul_any {A B : Nat} (va vb : Value) (w : World) (hA : Num w va A) (hB : Num w vb B) (lA : (nd A).length ≤ 256) (lB : (nd B).length ≤ 256) :
    Calls Tryz.prog 37 #[va, vb] w (Res w (A * B)) := by
  have hA0 := hA
  have hB0 := hB
  obtain ⟨aa, acap, rfl, -, -, -⟩ := hA
  obtain ⟨ab, bcap, rfl, -, -, -⟩ := hB
  have hA := Lib.hid hA0
  have hB := Lib.hid hB0
  have va := Lib.hid (num_valid hA0 lA)
  have vb := Lib.hid (num_valid hB0 lB)
  clear hA0 hB0
  go_enter Tryz.func37, Tryz.ntmps37
  go_wp2_with fail
  refine va.out.mono ?_
  rintro e w' ⟨rfl, rfl⟩
  go_wp2_with fail
  refine vb.out.mono ?_
  rintro e w' ⟨rfl, rfl⟩
  obtain ⟨ti, hi1, hi2, hi3, hi4⟩ := intInfo
  go_wp2_with (refine wpList_make_full _ rfl _ _ 24 rfl w.heap.size 3 ti (.int .i64 0) 1 Tryz.underlying24 hi1 hi2 hi3 .i64 .i64 _ _ ((nd A).length + (nd B).length) rfl rfl (by simp) (by simp) (by rw [hi4]; omega) (by unfold maxLen; omega) (Nat.le_refl _) ?_; intro w1 hown1 hgrow1)
  obtain ⟨hn, harr, hlt, hcap, hcap2⟩ := (own_made hown1).arr
  have hG1 : Gr w w1 := Gr.grown (Gr.refl _) hgrow1 (fun k hk => by cases hk)
  have hGr := Lib.hid hG1
  obtain ⟨r, hr⟩ : ∃ r, r = w.heap.size := ⟨_, rfl⟩
  have hA1 : Rd (· ≠ r) w1 (.slice aa (nd A).length acap) (nd A) := Rd.gr (hA.out.off (by omega)) hG1
  have hB1 : Rd (· ≠ r) w1 (.slice ab (nd B).length bcap) (nd B) := Rd.gr (hB.out.off (by omega)) hG1
  rw [← hr] at harr hlt ⊢
  have HR := Lib.hid hr
  have HA1 := Lib.hid hA1
  have HB1 := Lib.hid hB1
  clear hA1 hB1 hr hG1 hown1 hgrow1 hn hi1 hi2 hi3 hi4
  go_loopw [24] (fun s wr => ∃ (k : Nat) (P : List Nat), s = .int .i64 k ∧ k ≤ (nd A).length ∧ P.length = (nd A).length + (nd B).length ∧ Lim P ∧ nv P = nv ((nd A).take k) * B ∧ (∀ j, k + (nd B).length ≤ j → P.getD j 0 = 0) ∧ Arr wr r 0 P ∧ Ex r w1 wr) (fun s _ => (nd A).length - (intOf s).toNat)
  case atStart => exact ⟨0, _, rfl, Nat.zero_le _, List.length_replicate, lim_replicate _, by rw [nv_replicate]; simp [nv], fun j _ => by rw [List.getD_eq_getElem?_getD, List.getElem?_replicate]; split <;> rfl, harr, Ex.refl _ _⟩
  case round =>
    obtain ⟨k, P, rfl, hk, hPl, hPL, hPv, hPz, hPa, hex⟩ := hrel
    have HL := Lib.hid hPl
    have HV := Lib.hid hPv
    have HZ := Lib.hid hPz
    have HA := Lib.hid hPa
    clear hPl hPv hPz hPa
    by_cases hlt : k < (nd A).length
    · obtain ⟨ba, oa, rfl, hba, hca⟩ := (HA1.out.ex hex).at' hlt
      obtain ⟨hi, hhi⟩ : ∃ hi : Nat, hi = k + (nd B).length + 1 := ⟨_, rfl⟩
      have m1 : IntKind.i64.wrap ((k : Int) + (nd B).length) = (k : Int) + (nd B).length := IntWalk.i64_in _ (by omega)
      have m2 : IntKind.i64.wrap ((k : Int) + (nd B).length + 1) = (hi : Int) := by rw [hhi]; exact IntWalk.i64_in _ (by omega)
      have f1 : k ≤ hi := by omega
      have f2 : hi ≤ (nd A).length + (nd B).length := by omega
      have f3 : (k : Int) ≤ (hi : Int) := by omega
      have f4 : (hi : Int) ≤ (nd A).length + (nd B).length := by omega
      have f5 : (hi : Int) ≤ ((nd A).length + (nd B).length : Nat) := by omega
      have f6 : (0 : Int) ≤ (hi : Int) := by omega
      have HI := Lib.hid hhi
      clear hhi
      have f7 : ((nd A).length + (nd B).length = k) = False := by simp; omega
      have hxl := lim_getD (lim_nd A) k
      have hW : ((P.drop k).take ((nd B).length + 1)).length = hi - k := by rw [List.length_take, List.length_drop, HL.out, HI.out]; omega
      have hE : ∀ W, Gr wr W → Calls Tryz.prog 71 #[.slice (some ⟨r, k, none⟩) (hi - k) ((nd A).length + (nd B).length - k), .slice ab (nd B).length bcap, .int .i64 ((nd A).getD k 0 : Nat)] W (AtPost r k ((P.drop k).take ((nd B).length + 1)) (nd B) ((nd A).getD k 0 : Nat) W) := by
        intro W hg
        have := addTimes_any ((P.drop k).take ((nd B).length + 1)) (nd B) ((nd A).getD k 0 : Nat) r k ((nd A).length + (nd B).length - k) (.slice ab (nd B).length bcap) W (by have := (HA.out.sub k ((nd B).length + 1)).gr hg; rwa [Nat.zero_add] at this) ((HB1.out.ex hex).gr hg) (lim_take (lim_drop hPL _) _) (lim_nd B) (by rw [hW, HI.out]; omega) (by omega) (by omega) (by rw [hW, HI.out]; omega)
        rwa [hW] at this
      have HE := Lib.hid hE
      have HW := Lib.hid hW
      have HX := Lib.hid (take_split' (nd A) k)
      generalize (nd A).getD k 0 = x at hca hxl HE HX
      clear hE hW
      have hgd : Gr wr wr.drew := Gr.drew (Gr.refl _)
      go_wp2_with fail
      go_still_tail 13, (by kernel_rfl)
      change wpList _ _ _ _ _ wr.drew
      generalize wr.drew = w2 at *
      go_wp2_with fail
      refine (HE.out _ hgd).mono ?_
      rintro e w3 ⟨c, l, rfl, hll, hlL, -, -, heq, harr3, hwin3⟩
      go_wp2_with fail
      have hl1 : l.length = (nd B).length + 1 := by rw [hll, HW.out, HI.out]; omega
      have hz' : ∀ j, k + ((nd B).length + 1) ≤ j → P.getD j 0 = 0 := fun j hj => HZ.out j (by omega)
      have hb1 : k + ((nd B).length + 1) ≤ P.length := by rw [HL.out]; omega
      rw [HW.out, show hi - k = (nd B).length + 1 by rw [HI.out]; omega] at heq hwin3
      have hms := mul_step (P := P) (W' := l) (b := nd B) (i := k) (x := x) (na := nv ((nd A).take k)) (by rw [nv_nd]; exact HV.out) (by omega) HZ.out hPL (lim_nd B) hlL hl1 hxl heq
      refine ⟨⟨k + 1, P.take k ++ (l ++ P.drop (k + ((nd B).length + 1))), by go_num, by omega, by rw [win_len hl1 hb1]; exact HL.out, win_lim hPL hlL, ?_, ?_, ?_, ?_⟩, by simp only [intOf]; omega⟩
      · rw [hms.2, HX.out, nv_nd]
      · intro j hj; exact win_zero hl1 hb1 hz' j (by omega)
      · have := (HA.out.gr hgd).win (i := k) (m := l) (w' := w3) (by rw [Nat.zero_add, hl1]; exact hwin3) (by rw [Nat.zero_add]; exact harr3) (by omega)
        rw [hl1] at this
        exact this
      · exact hex.trans ((Ex.ofGr hgd).trans hwin3.ex)
    · obtain rfl : k = (nd A).length := by omega
      have hrd : Rd (fun _ => True) wr (.slice (some ⟨r, 0, none⟩) ((nd A).length + (nd B).length) ((nd A).length + (nd B).length)) P := by
        have := HA.out.rd (p := fun _ => True) (cap := (nd A).length + (nd B).length) (by rw [HL.out]; exact Nat.le_refl _) (by omega) trivial
        rwa [HL.out] at this
      have hnv : nv P = A * B := by rw [HV.out, List.take_of_length_le (Nat.le_refl _), nv_nd]
      have HT := Lib.hid (trim_any wr hrd hPL)
      have HN := Lib.hid hnv
      have hG : Gr w wr := Ex.gr hGr.out (by rw [← HR.out]; exact Nat.le_refl _) hex
      clear hnv hrd
      go_wp2_with fail
      refine HT.out.mono ?_
      rintro e w' ⟨v, rfl, hv, rfl⟩
      rw [HN.out] at hv
      have HF := Lib.hid (num_fit hv hG)
      clear hv
      go_wp2_with fail
      refine HF.out.mono ?_
      rintro e w' ⟨v, er, rfl, hres, hg⟩
      go_wp2_with fail
      go_ret2
      exact ⟨v, er, rfl, hres, hg⟩
end Go.Proofs.YtjpjnbgfodlkcaaGreatDoor
/- Clone. -/
namespace Go.Proofs.YtjpjnbgfodlkcaaGreatDoor
open Go Go.RowKit Go.Sort
set_option maxRecDepth 100000
set_option linter.unusedVariables false
theorem nd_mono {A B : Nat} (h : A ≤ B) : (nd A).length ≤ (nd B).length := (nd_len A _).2 (Nat.lt_of_le_of_lt h (nd_hi B))
theorem clone_any {p : Nat → Prop} (v : Value) (l : List Nat) (w : World) (h : Rd p w v l) (hl : l.length ≤ 1000000) :
    Calls Tryz.prog 78 #[v] w fun e w' => ∃ v', e = .returned v' ∧ Own w' w.heap.size v' l ∧ Gr w w' := by
  obtain ⟨a, cap, rfl, hcap, hcap2, H⟩ := h
  have HH := Lib.hid H
  clear H
  obtain ⟨ti, hi1, hi2, hi3, hi4⟩ := intInfo
  have hnil := fun (w : World) (a : Option Addr) (n c : Nat) => Lib.run_eql_slice_nil (P := Tryz.prog) w 24 3 a n c 0 0 Tryz.underlying24
  cases a with
  | none =>
    obtain rfl : l = [] := by
      apply Decidable.byContradiction; intro hc
      have h0 : 0 < l.length := List.length_pos_iff.2 hc
      obtain ⟨b, off, e, -⟩ := HH.out 0 h0
      cases e
    go_enter Tryz.func78, Tryz.ntmps78
    go_wp2
    go_ret
    exact ⟨_, rfl, Own.nil _ _, Gr.refl _⟩
  | some ad =>
    go_enter Tryz.func78, Tryz.ntmps78
    have hown := World.ownsRow_lit (base := w.heap.size) (e := 3) (size := 1) w #[] 0 (Nat.le_refl _) (by unfold maxLen; omega) rfl
    have hnews : ∀ j u, (l.map lv)[j]? = some u → (w.alloc (.cells #[] 3)).cell? (ad.add j) = some u := by
      intro j u hj
      rw [List.getElem?_map] at hj
      by_cases hjl : j < l.length
      · rw [List.getElem?_eq_getElem hjl] at hj
        obtain ⟨b, off, e, -, hc⟩ := HH.out j hjl
        obtain rfl := Option.some.inj e
        rw [show (⟨b, off, none⟩ : Addr).add j = ⟨b, off + j, none⟩ by simp [Addr.add], World.cell?_alloc_lt _ _ _ (World.block_lt_of_cell? _ _ hc), hc, List.getD_eq_getElem?_getD, List.getElem?_eq_getElem hjl]
        simpa [lv] using hj
      · rw [List.getElem?_eq_none (by omega)] at hj; cases hj
    have HW := Lib.hid hnews
    clear hnews
    go_wp2_with (at_builtin; refine wpList_append_own_at _ rfl _ _ 24 rfl w.heap.size 3 ti (.int .i64 0) 1 8 Tryz.underlying24 hi1 hi2 hi3 hi4 rfl (by decide) _ _ _ rfl hown ad l.length cap (l.map lv) rfl (by simp) HW.out (by intro u hu; rw [List.mem_map] at hu; obtain ⟨n, -, rfl⟩ := hu; rfl) (by unfold maxLen; omega) (by omega) (by simp) ?_; intro v' w2 hown2 hgrow hnil hloc)
    go_ret
    refine ⟨_, rfl, ?_, ?_⟩
    · unfold Own
      rw [Nat.zero_add] at hown2
      exact hown2
    · exact Gr.grown ((Gr.refl _).alloc _) hgrow (fun k hk => (hown.lt k hk).1)
end Go.Proofs.YtjpjnbgfodlkcaaGreatDoor
/- Sub. -/
namespace Go.Proofs.YtjpjnbgfodlkcaaGreatDoor
open Go Go.RowKit Go.Sort
set_option maxRecDepth 100000
set_option linter.unusedVariables false

/-- a difference, or an error because it is less than 0 -/
def SubRes (w : World) (A B : Nat) (e : Ending) (w' : World) : Prop :=
  ∃ (v : Value) (er : Int), e = .returned (.tuple #[v, .int .i64 er]) ∧ ((B ≤ A ∧ er = 0 ∧ Num w' v (A - B)) ∨ (A < B ∧ er = 15 ∧ v = .slice none 0 0)) ∧ Gr w w'
set_option maxHeartbeats 1000000 in
theorem sub_any {A B : Nat} (va vb : Value) (w : World) (hA : Num w va A) (hB : Num w vb B) (lA : (nd A).length ≤ 256) (lB : (nd B).length ≤ 256) :
    Calls Tryz.prog 41 #[va, vb] w (SubRes w A B) := by
  have hA0 := hA
  have hB0 := hB
  obtain ⟨aa, acap, rfl, -, -, -⟩ := hA
  obtain ⟨ab, bcap, rfl, -, -, -⟩ := hB
  have hA := Lib.hid hA0
  have hB := Lib.hid hB0
  have va := Lib.hid (num_valid hA0 lA)
  have vb := Lib.hid (num_valid hB0 lB)
  have vc := Lib.hid (cmp_any _ _ w hA0 hB0 (by omega))
  clear hA0 hB0
  by_cases hlt : A < B
  · have HC : Hid (ncmp A B = -1) := Lib.hid (ncmp_lt hlt)
    have HL := Lib.hid hlt
    clear hlt
    go_enter Tryz.func41, Tryz.ntmps41
    go_wp2_with fail
    refine va.out.mono ?_
    rintro e w' ⟨rfl, rfl⟩
    go_wp2_with fail
    refine vb.out.mono ?_
    rintro e w' ⟨rfl, rfl⟩
    go_wp2_with fail
    refine vc.out.mono ?_
    rintro e w1 ⟨rfl, hg1⟩
    rw [HC.out]
    go_wp2_with fail
    go_ret2
    exact ⟨_, 15, rfl, .inr ⟨HL.out, rfl, rfl⟩, hg1⟩
  · have hle : B ≤ A := by omega
    have HC : Hid (0 ≤ ncmp A B) := Lib.hid (by rcases Nat.eq_or_lt_of_le hle with rfl | h; rw [ncmp_eq]; omega; rw [ncmp_gt h]; omega)
    have HL := Lib.hid hle
    clear hlt hle
    go_enter Tryz.func41, Tryz.ntmps41
    go_wp2_with fail
    refine va.out.mono ?_
    rintro e w' ⟨rfl, rfl⟩
    go_wp2_with fail
    refine vb.out.mono ?_
    rintro e w' ⟨rfl, rfl⟩
    go_wp2_with fail
    refine vc.out.mono ?_
    rintro e w1 ⟨rfl, hg1⟩
    have d : decide (ncmp A B < 0) = false := by have := HC.out; simpa using this
    go_wp2_with fail
    refine (clone_any _ _ w1 (hA.out.gr hg1) (by omega)).mono ?_
    rintro e w2 ⟨v2, rfl, hown, hg2⟩
    have hG := hg1.step hg2
    rcases hown.is with ⟨rfl, hz⟩ | ⟨g, cap, rfl, hb, hcap, hcap2, harr, hlt⟩
    · have hA0 : A = 0 := by rw [← nv_nd A, hz]; rfl
      have hN : Num w2 (.slice none 0 0) (A - B) := by rw [hA0, Nat.zero_sub]; exact Num.nil _
      have HT := Lib.hid (trim_any w2 hN (lim_nd _))
      clear hz hA0 hN hown
      go_wp2_with (go_at_call 71; refine (addTimes_nil _ _ _).mono ?_; rintro e w' ⟨rfl, rfl⟩)
      refine HT.out.mono ?_
      rintro e w' ⟨v, rfl, hv, rfl⟩
      rw [nv_nd] at hv
      have HV := Lib.hid hv
      clear hv
      go_wp2_with fail
      go_ret2
      exact ⟨_, 0, rfl, .inl ⟨HL.out, rfl, HV.out⟩, hG⟩
    · have hC := addTimes_any (nd A) (nd B) (-1) g 0 cap (.slice ab (nd B).length bcap) w2 harr (Rd.gr (Rd.off (hB.out.gr hg1) hb) hg2) (lim_nd A) (lim_nd B) (nd_mono HL.out) (by omega) (by omega) (by omega)
      have HAT := Lib.hid hC
      have HO := Lib.hid hown
      clear hC hown harr
      go_wp2_with fail
      refine HAT.out.mono ?_
      rintro e w3 ⟨c, l, rfl, hll, hlL, -, -, heq, harr3, hwin3⟩
      have hp : (1073741824 : Int) ^ (nd A).length = ((1073741824 ^ (nd A).length : Nat) : Int) := by simp
      have hc0 : c = 0 := by
        have h1 := nv_lt hlL
        have h2 := nd_hi A
        have h3 := HL.out
        rw [hll] at h1
        refine carry_zero _ heq (by omega) (by rw [hp]; omega) ?_ ?_
        · rw [nv_nd, nv_nd]; omega
        · rw [nv_nd, nv_nd, hp]; omega
      have hv : nv l = A - B := by
        rw [hc0, nv_nd, nv_nd, Int.zero_mul] at heq
        have := HL.out
        omega
      have hrd : Rd (fun _ => True) w3 (.slice (some ⟨g, 0, none⟩) (nd A).length cap) l := by
        have := harr3.rd (p := fun _ => True) (cap := cap) (by omega) hcap2 trivial
        rwa [hll] at this
      have HT := Lib.hid (trim_any w3 hrd hlL)
      have HN := Lib.hid hv
      have hG3 : Gr w w3 := hg1.step (Ex.gr hg2 hb hwin3.ex)
      clear hp hc0 hv hrd heq
      go_wp2_with fail
      refine HT.out.mono ?_
      rintro e w' ⟨v, rfl, hv, rfl⟩
      rw [HN.out] at hv
      have HV := Lib.hid hv
      clear hv
      go_wp2_with fail
      go_ret2
      exact ⟨_, 0, rfl, .inl ⟨HL.out, rfl, HV.out⟩, hG3⟩
end Go.Proofs.YtjpjnbgfodlkcaaGreatDoor
