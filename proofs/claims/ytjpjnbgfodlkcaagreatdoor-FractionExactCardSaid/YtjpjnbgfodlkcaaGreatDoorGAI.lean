/- Several texts in one. -/
import Derived.Test.YtjpjnbgfodlkcaaGreatDoorGAH
import Derived.Test.YtjpjnbgfodlkcaaGreatDoorGAG
import Derived.Test.YtjpjnbgfodlkcaaGreatDoorGAB
import Derived.WalkKit
import Derived.WalkSpells
import Derived.WalkLawsBesides
import Derived.WalkSmall
import Derived.Handy
import Derived.BigQuiet
import Derived.Deep.QuietTactic
import Derived.Deep.RegionHeld3
import Derived.Deep.DeepFit
import Derived.Below
import Derived.Lib.Hide
import Derived.Lib.QuietBelow
import Derived.Deep.DeepCutAuto
/- The document's numbers: Order, limb, Compare, Plus. -/
namespace Go.Proofs.YtjpjnbgfodlkcaaGreatDoor
open Go Go.RowKit Go.Sort
set_option maxRecDepth 100000
set_option linter.unusedVariables false
/-- one number -/
def OneNum (w : World) (N : Nat) (e : Ending) (w' : World) : Prop := ∃ v, e = .returned v ∧ Num w' v N ∧ Gr w w'
theorem rorder_any (x y : Int) (w : World) :
    Calls Tryz.prog 97 #[.int .i64 x, .int .i64 y] w fun e w' => e = .returned (.int .i64 (Lib.compareInt x y)) ∧ w = w' := by
  rcases Int.lt_trichotomy x y with h | h | h
  · have E : Hid (Lib.compareInt x y = -1) := Lib.hid (by unfold Lib.compareInt; rw [if_pos h])
    go_enter Tryz.func97, Tryz.ntmps97
    go_wp2
    go_ret
    exact ⟨ret_int E.out.symm, rfl⟩
  · have E : Hid (Lib.compareInt x y = 0) := Lib.hid (by unfold Lib.compareInt; rw [if_neg (by omega), if_neg (by omega)])
    have h1 : ¬ x < y := by omega
    have h2 : ¬ y < x := by omega
    clear h
    go_enter Tryz.func97, Tryz.ntmps97
    go_wp2
    go_ret
    exact ⟨ret_int E.out.symm, rfl⟩
  · have E : Hid (Lib.compareInt x y = 1) := Lib.hid (by unfold Lib.compareInt; rw [if_neg (by omega), if_pos (by omega)])
    have h1 : ¬ x < y := by omega
    go_enter Tryz.func97, Tryz.ntmps97
    go_wp2
    go_ret
    exact ⟨ret_int E.out.symm, rfl⟩
theorem rlimb_any {p : Nat → Prop} {v : Value} {l : List Nat} (i : Nat) (w : World) (h : Rd p w v l) :
    Calls Tryz.prog 80 #[v, .int .i64 i] w fun e w' => e = .returned (.int .i64 (l.getD i 0 : Nat)) ∧ w = w' := by
  obtain ⟨a, cap, rfl, hl, hcap, H⟩ := h
  by_cases hlt : i < l.length
  · obtain ⟨b, off, rfl, -, hc⟩ := H i hlt
    clear H
    generalize l.getD i 0 = x at *
    go_enter Tryz.func80, Tryz.ntmps80
    go_wp2
    go_ret
    exact ⟨rfl, rfl⟩
  · rw [getD_ge hlt]
    clear H
    have d : decide (i < l.length) = false := by simpa using hlt
    go_enter Tryz.func80, Tryz.ntmps80
    go_wp2
    go_ret
    exact ⟨rfl, rfl⟩
set_option maxHeartbeats 1000000 in
theorem rcmp_nat {A B : Nat} (va vb : Value) (w : World) (hA : Num w va A) (hB : Num w vb B) (lA : (nd A).length ≤ 1000000) (_ : (nd B).length ≤ 1000000) :
    Calls Tryz.prog 68 #[va, vb] w fun e w' => e = .returned (.int .i64 (ncmp A B)) ∧ Gr w w' := by
  obtain ⟨aa, acap, rfl, -, -, hA⟩ := hA
  obtain ⟨ab, bcap, rfl, -, -, hB⟩ := hB
  have HA := Lib.hid hA
  have HB := Lib.hid hB
  clear hA hB
  by_cases hl : (nd A).length = (nd B).length
  · have d : (((nd A).length : Int) != ((nd B).length : Int)) = false := by simp [hl]
    have HL := Lib.hid hl
    clear hl
    go_enter Tryz.func68, Tryz.ntmps68
    go_wp2
    go_loopw [5] (fun s wr => ∃ k : Nat, s = .int .i64 ((k : Int) - 1) ∧ k ≤ (nd A).length ∧ (∀ j, k ≤ j → j < (nd A).length → (nd A).getD j 0 = (nd B).getD j 0) ∧ Gr w wr) (fun s _ => (intOf s + 1).toNat)
    case atStart => exact ⟨(nd A).length, rfl, Nat.le_refl _, fun j h1 h2 => by omega, Gr.refl _⟩
    case round =>
      obtain ⟨k, rfl, hk, he, hg⟩ := hrel
      have HE := Lib.hid he
      clear he
      by_cases hk0 : 0 < k
      · obtain ⟨k, rfl⟩ : ∃ j, k = j + 1 := ⟨k - 1, by omega⟩
        have e1 : ((k + 1 : Nat) : Int) - 1 = (k : Int) := by omega
        rw [e1]
        obtain ⟨ba, oa, rfl, -, ha⟩ := HA.out k (by omega)
        obtain ⟨bb, ob, rfl, -, hb⟩ := HB.out k (by rw [← HL.out]; omega)
        have ha2 : wr.cell? ⟨ba, oa + k, none⟩ = some (.int .i64 ((nd A).getD k 0 : Nat)) := by rw [(Gr.cells hg).1 _ _ (World.block_lt_of_cell? _ _ ha)]; exact ha
        have hb2 : wr.cell? ⟨bb, ob + k, none⟩ = some (.int .i64 ((nd B).getD k 0 : Nat)) := by rw [(Gr.cells hg).1 _ _ (World.block_lt_of_cell? _ _ hb)]; exact hb
        have k0 : (0 : Int) ≤ (k : Int) := by omega
        have k1 : (k : Int) < ((nd A).length : Int) := by omega
        have k2 : k < (nd B).length := by rw [← HL.out]; omega
        have k3 : (k : Int) < ((nd B).length : Int) := by omega
        clear ha hb e1
        by_cases hxy : (nd A).getD k 0 = (nd B).getD k 0
        · have HXY := Lib.hid hxy
          rw [← hxy] at hb2
          clear hxy
          generalize (nd A).getD k 0 = x at ha2 hb2
          have d2 : ((x : Int) != (x : Int)) = false := by simp
          go_wp2_with fail
          go_quiet (fail)
          go_wp2_with fail
          go_roundw
          case rel =>
            refine ⟨k, rfl, by omega, fun j h1 h2 => ?_, (by repeat' (first | (with_reducible exact Gr.refl _) | (with_reducible assumption) | (with_reducible refine Gr.drewN ?_ _) | (with_reducible refine Gr.drew ?_) | (with_reducible refine Gr.alloc ?_ _) | (with_reducible refine Gr.setCell ?_ ?_ _) | (with_reducible refine Gr.grow ?_ _ _) | (refine Gr.step ?_ (by with_reducible assumption)) | go_size))⟩
            rcases Nat.lt_or_ge k j with h | h
            · exact HE.out j (by omega) h2
            · obtain rfl : j = k := by omega
              exact HXY.out
          case measure => simp [intOf]
        · have HN := Lib.hid (ncmp_at HL.out (show k < (nd A).length by omega) (fun j h1 h2 => HE.out j (by omega) h2) hxy)
          generalize (nd A).getD k 0 = x at ha2 hxy HN
          generalize (nd B).getD k 0 = y at hb2 hxy HN
          have d2 : ((x : Int) != (y : Int)) = true := by simp; omega
          have HO : ∀ W, Calls Tryz.prog 97 #[.int .i64 (x : Int), .int .i64 (y : Int)] W fun e w' => e = .returned (.int .i64 (Lib.compareInt (x : Int) (y : Int))) ∧ W = w' := fun W => rorder_any _ _ W
          clear hxy
          go_wp2_with fail
          go_quiet (fail)
          have hgq : Gr w (wr.drewN nq) := Gr.drewN hg nq
          have ha3 : (wr.drewN nq).cell? ⟨ba, oa + k, none⟩ = some (.int .i64 (x : Nat)) := ha2
          have hb3 : (wr.drewN nq).cell? ⟨bb, ob + k, none⟩ = some (.int .i64 (y : Nat)) := hb2
          clear ha2 hb2
          generalize wr.drewN nq = w3 at *
          go_wp2_with fail
          go_quiet ((go_at_call 97; exact Calls.quiet_of_same ((HO _).mono fun e w' ⟨he, hw⟩ => ⟨he, hw.symm⟩)))
          go_wp2_with fail
          go_ret
          exact ⟨ret_int HN.out, (by repeat' (first | (with_reducible exact Gr.refl _) | (with_reducible assumption) | (with_reducible refine Gr.drewN ?_ _) | (with_reducible refine Gr.drew ?_) | (with_reducible refine Gr.alloc ?_ _) | (with_reducible refine Gr.setCell ?_ ?_ _) | (with_reducible refine Gr.grow ?_ _ _) | (refine Gr.step ?_ (by with_reducible assumption)) | go_size))⟩
      · obtain rfl : k = 0 := by omega
        have hAB : A = B := nd_ext HL.out fun i hi => HE.out i (by omega) hi
        have HN : Hid ((0 : Int) = ncmp A B) := Lib.hid (by rw [hAB, ncmp_eq])
        have e0 : ((0 : Nat) : Int) - 1 = -1 := by omega
        rw [e0]
        clear hAB
        go_wp2_with fail
        go_ret
        exact ⟨ret_int HN.out, hg⟩
  · have HN := Lib.hid (ncmp_len hl)
    have d : (((nd A).length : Int) != ((nd B).length : Int)) = true := by simp; omega
    go_enter Tryz.func68, Tryz.ntmps68
    go_wp2_with (go_at_call 97; refine (rorder_any _ _ _).mono ?_; rintro e w' ⟨rfl, rfl⟩)
    go_ret
    exact ⟨ret_int HN.out, Gr.refl _⟩
end Go.Proofs.YtjpjnbgfodlkcaaGreatDoor
/- The document's numbers: Plus, Less. -/
namespace Go.Proofs.YtjpjnbgfodlkcaaGreatDoor
open Go Go.RowKit Go.Sort
set_option maxRecDepth 100000
set_option linter.unusedVariables false
/-- what the loop of Plus keeps -/
def PlRel (w : World) (A B : Nat) (v cv s : Value) (wr : World) : Prop :=
  ∃ (k c : Nat) (l : List Nat), s = .int .i64 k ∧ cv = .int .i64 c ∧ c ≤ 1 ∧ l.length = k ∧ Lim l ∧ nv l + c * 1073741824 ^ k = nv ((nd A).take k) + nv ((nd B).take k) ∧ (k = 0 ∨ 1073741824 ^ (k - 1) ≤ A + B) ∧
    (k ≤ (nd A).length ∨ k ≤ (nd B).length ∨ c = 0) ∧ Own wr w.heap.size v l ∧ Gr w wr
set_option maxHeartbeats 1000000 in
theorem plus_any {A B : Nat} (va vb : Value) (w : World) (hA : Num w va A) (hB : Num w vb B) (lA : (nd A).length ≤ 10000) (lB : (nd B).length ≤ 10000) :
    Calls Tryz.prog 51 #[va, vb] w (OneNum w (A + B)) := by
  have hA0 := hA
  have hB0 := hB
  obtain ⟨aa, acap, rfl, -, -, -⟩ := hA
  obtain ⟨ab, bcap, rfl, -, -, -⟩ := hB
  have hA := Lib.hid hA0
  have hB := Lib.hid hB0
  clear hA0 hB0
  go_enter Tryz.func51, Tryz.ntmps51
  go_wp2_with fail
  go_loopw [5, 6, 7] (fun v cv s wr => PlRel w A B v cv s wr) (fun _ _ s _ => (nd A).length + (nd B).length + 1 - (intOf s).toNat)
  case atStart => exact ⟨0, 0, [], rfl, rfl, by omega, rfl, lim_nil, by simp [nv], .inl rfl, .inl (Nat.zero_le _), Own.nil _ _, Gr.refl _⟩
  case round =>
    obtain ⟨k, c, l, rfl, rfl, hc1, hlen, hLl, hv, hlo, hk3, hown, hgr⟩ := hrel
    have HV := Lib.hid hv
    have HL := Lib.hid hlo
    clear hv hlo
    by_cases c1 : k < (nd A).length
    · have d1 : decide (k < (nd A).length) = true := by simpa using c1
      have hC : k < (nd A).length ∨ k < (nd B).length ∨ 0 < c := .inl c1
      have hx := lim_getD (lim_nd A) k
      have hy := lim_getD (lim_nd B) k
      have ca := rlimb_any k wr (hA.out.gr hgr)
      have cb := rlimb_any k wr (hB.out.gr hgr)
      have HLO := Lib.hid (add_lo HV.out hC)
      have HS := Lib.hid (add_step (x := (nd A).getD k 0) (y := (nd B).getD k 0) HV.out)
      generalize hxx : (nd A).getD k 0 = x at ca hx HS
      generalize hyy : (nd B).getD k 0 = y at cb hy HS
      have HXX := Lib.hid hxx
      have HYY := Lib.hid hyy
      have x1 : (x : Int) < 1073741824 := by omega
      have y1 : (y : Int) < 1073741824 := by omega
      have c2 : (c : Int) ≤ 1 := by omega
      obtain ⟨d, hd⟩ : ∃ d : Nat, d = (c + (x + y)) % 1073741824 := ⟨_, rfl⟩
      obtain ⟨q, hq⟩ : ∃ q : Nat, q = (c + (x + y)) / 1073741824 := ⟨_, rfl⟩
      have hd0 : ((x : Int) + (y : Int) + (c : Int)) % 1073741824 = (d : Int) := by omega
      have hq0 : ((x : Int) + (y : Int) + (c : Int)) / 1073741824 = (q : Int) := by omega
      have HD := Lib.hid hd
      have HQ := Lib.hid hq
      have CA := Lib.hid ca
      have CB := Lib.hid cb
      have HK := Lib.hid hlen
      obtain ⟨ti, hi1, hi2, hi3, hi4⟩ := intInfo
      have hown0 := hown
      unfold Own at hown
      have kz : l.length ≤ 1000000 := by have := hlen; have := hk3; omega
      clear hxx hyy hd hq ca cb hlen
      go_wp2_with fail
      refine CA.out.mono ?_
      rintro e w' ⟨rfl, rfl⟩
      go_wp2_with fail
      refine CB.out.mono ?_
      rintro e w' ⟨rfl, rfl⟩
      go_wp2_with (at_builtin; refine wpList_append_own_at _ rfl _ _ 24 rfl w.heap.size 3 ti (.int .i64 0) 1 8 Tryz.underlying24 hi1 hi2 hi3 hi4 rfl (by decide) _ _ _ rfl (hown.alloc _) ⟨wr.heap.size, 0, none⟩ 1 1 [.int .i64 d] rfl rfl (cell_one_new _ _ _) (by simp [Value.oneCell']) (by unfold maxLen; omega) (by omega) (by have := Gr.size hgr; simp; omega) ?_; intro v' w2 hown2 hgrow hnil hloc)
      clear hnil hloc
      refine ⟨⟨k + 1, q, l ++ [d], by go_num, iv hq0, by have := HQ.out; omega, by simp [HK.out], lim_append.2 ⟨hLl, lim_cons.2 ⟨by rw [HD.out]; omega, lim_nil⟩⟩, ?_, .inr (by simpa using HLO.out), ?_, ?_, ?_⟩, ?_⟩
      · have hs := HS.out
        rw [← HD.out, ← HQ.out] at hs
        rw [nv_append, HK.out, take_split', take_split', HXX.out, HYY.out, bp_succ]
        simpa [nv] using hs
      · by_cases e1 : k + 1 ≤ (nd A).length
        · exact .inl e1
        · by_cases e2 : k + 1 ≤ (nd B).length
          · exact .inr (.inl e2)
          · have h1 := HXX.out
            rw [getD_ge (by omega)] at h1
            have h2 := HYY.out
            rw [getD_ge (by omega)] at h2
            have := HQ.out
            exact .inr (.inr (by omega))
      · unfold Own
        rw [List.length_append, List.map_append]
        exact hown2
      · exact Gr.grown (by repeat' (first | (with_reducible exact Gr.refl _) | (with_reducible assumption) | (with_reducible refine Gr.drewN ?_ _) | (with_reducible refine Gr.drew ?_) | (with_reducible refine Gr.alloc ?_ _) | (with_reducible refine Gr.setCell ?_ ?_ _) | (with_reducible refine Gr.grow ?_ _ _) | (refine Gr.step ?_ (by with_reducible assumption)) | go_size)) hgrow (fun k hk => (hown.lt k hk).1)
      · have := hk3
        simp only [intOf]; omega
    · have d1 : decide (k < (nd A).length) = false := by simpa using c1
      by_cases c2 : k < (nd B).length
      · have d2 : decide (k < (nd B).length) = true := by simpa using c2
        have hC : k < (nd A).length ∨ k < (nd B).length ∨ 0 < c := .inr (.inl c2)
        have hx := lim_getD (lim_nd A) k
        have hy := lim_getD (lim_nd B) k
        have ca := rlimb_any k wr (hA.out.gr hgr)
        have cb := rlimb_any k wr (hB.out.gr hgr)
        have HLO := Lib.hid (add_lo HV.out hC)
        have HS := Lib.hid (add_step (x := (nd A).getD k 0) (y := (nd B).getD k 0) HV.out)
        generalize hxx : (nd A).getD k 0 = x at ca hx HS
        generalize hyy : (nd B).getD k 0 = y at cb hy HS
        have HXX := Lib.hid hxx
        have HYY := Lib.hid hyy
        have x1 : (x : Int) < 1073741824 := by omega
        have y1 : (y : Int) < 1073741824 := by omega
        have c2 : (c : Int) ≤ 1 := by omega
        obtain ⟨d, hd⟩ : ∃ d : Nat, d = (c + (x + y)) % 1073741824 := ⟨_, rfl⟩
        obtain ⟨q, hq⟩ : ∃ q : Nat, q = (c + (x + y)) / 1073741824 := ⟨_, rfl⟩
        have hd0 : ((x : Int) + (y : Int) + (c : Int)) % 1073741824 = (d : Int) := by omega
        have hq0 : ((x : Int) + (y : Int) + (c : Int)) / 1073741824 = (q : Int) := by omega
        have HD := Lib.hid hd
        have HQ := Lib.hid hq
        have CA := Lib.hid ca
        have CB := Lib.hid cb
        have HK := Lib.hid hlen
        obtain ⟨ti, hi1, hi2, hi3, hi4⟩ := intInfo
        have hown0 := hown
        unfold Own at hown
        have kz : l.length ≤ 1000000 := by have := hlen; have := hk3; omega
        clear hxx hyy hd hq ca cb hlen
        go_wp2_with fail
        refine CA.out.mono ?_
        rintro e w' ⟨rfl, rfl⟩
        go_wp2_with fail
        refine CB.out.mono ?_
        rintro e w' ⟨rfl, rfl⟩
        go_wp2_with (at_builtin; refine wpList_append_own_at _ rfl _ _ 24 rfl w.heap.size 3 ti (.int .i64 0) 1 8 Tryz.underlying24 hi1 hi2 hi3 hi4 rfl (by decide) _ _ _ rfl (hown.alloc _) ⟨wr.heap.size, 0, none⟩ 1 1 [.int .i64 d] rfl rfl (cell_one_new _ _ _) (by simp [Value.oneCell']) (by unfold maxLen; omega) (by omega) (by have := Gr.size hgr; simp; omega) ?_; intro v' w2 hown2 hgrow hnil hloc)
        clear hnil hloc
        refine ⟨⟨k + 1, q, l ++ [d], by go_num, iv hq0, by have := HQ.out; omega, by simp [HK.out], lim_append.2 ⟨hLl, lim_cons.2 ⟨by rw [HD.out]; omega, lim_nil⟩⟩, ?_, .inr (by simpa using HLO.out), ?_, ?_, ?_⟩, ?_⟩
        · have hs := HS.out
          rw [← HD.out, ← HQ.out] at hs
          rw [nv_append, HK.out, take_split', take_split', HXX.out, HYY.out, bp_succ]
          simpa [nv] using hs
        · by_cases e1 : k + 1 ≤ (nd A).length
          · exact .inl e1
          · by_cases e2 : k + 1 ≤ (nd B).length
            · exact .inr (.inl e2)
            · have h1 := HXX.out
              rw [getD_ge (by omega)] at h1
              have h2 := HYY.out
              rw [getD_ge (by omega)] at h2
              have := HQ.out
              exact .inr (.inr (by omega))
        · unfold Own
          rw [List.length_append, List.map_append]
          exact hown2
        · exact Gr.grown (by repeat' (first | (with_reducible exact Gr.refl _) | (with_reducible assumption) | (with_reducible refine Gr.drewN ?_ _) | (with_reducible refine Gr.drew ?_) | (with_reducible refine Gr.alloc ?_ _) | (with_reducible refine Gr.setCell ?_ ?_ _) | (with_reducible refine Gr.grow ?_ _ _) | (refine Gr.step ?_ (by with_reducible assumption)) | go_size)) hgrow (fun k hk => (hown.lt k hk).1)
        · have := hk3
          simp only [intOf]; omega
      · have d2 : decide (k < (nd B).length) = false := by simpa using c2
        by_cases c3 : 0 < c
        · have hC : k < (nd A).length ∨ k < (nd B).length ∨ 0 < c := .inr (.inr c3)
          have d3 : decide (0 < c) = true := by simpa using c3
          have hx := lim_getD (lim_nd A) k
          have hy := lim_getD (lim_nd B) k
          have ca := rlimb_any k wr (hA.out.gr hgr)
          have cb := rlimb_any k wr (hB.out.gr hgr)
          have HLO := Lib.hid (add_lo HV.out hC)
          have HS := Lib.hid (add_step (x := (nd A).getD k 0) (y := (nd B).getD k 0) HV.out)
          generalize hxx : (nd A).getD k 0 = x at ca hx HS
          generalize hyy : (nd B).getD k 0 = y at cb hy HS
          have HXX := Lib.hid hxx
          have HYY := Lib.hid hyy
          have x1 : (x : Int) < 1073741824 := by omega
          have y1 : (y : Int) < 1073741824 := by omega
          have c2 : (c : Int) ≤ 1 := by omega
          obtain ⟨d, hd⟩ : ∃ d : Nat, d = (c + (x + y)) % 1073741824 := ⟨_, rfl⟩
          obtain ⟨q, hq⟩ : ∃ q : Nat, q = (c + (x + y)) / 1073741824 := ⟨_, rfl⟩
          have hd0 : ((x : Int) + (y : Int) + (c : Int)) % 1073741824 = (d : Int) := by omega
          have hq0 : ((x : Int) + (y : Int) + (c : Int)) / 1073741824 = (q : Int) := by omega
          have HD := Lib.hid hd
          have HQ := Lib.hid hq
          have CA := Lib.hid ca
          have CB := Lib.hid cb
          have HK := Lib.hid hlen
          obtain ⟨ti, hi1, hi2, hi3, hi4⟩ := intInfo
          have hown0 := hown
          unfold Own at hown
          have kz : l.length ≤ 1000000 := by have := hlen; have := hk3; omega
          clear hxx hyy hd hq ca cb hlen
          go_wp2_with fail
          refine CA.out.mono ?_
          rintro e w' ⟨rfl, rfl⟩
          go_wp2_with fail
          refine CB.out.mono ?_
          rintro e w' ⟨rfl, rfl⟩
          go_wp2_with (at_builtin; refine wpList_append_own_at _ rfl _ _ 24 rfl w.heap.size 3 ti (.int .i64 0) 1 8 Tryz.underlying24 hi1 hi2 hi3 hi4 rfl (by decide) _ _ _ rfl (hown.alloc _) ⟨wr.heap.size, 0, none⟩ 1 1 [.int .i64 d] rfl rfl (cell_one_new _ _ _) (by simp [Value.oneCell']) (by unfold maxLen; omega) (by omega) (by have := Gr.size hgr; simp; omega) ?_; intro v' w2 hown2 hgrow hnil hloc)
          clear hnil hloc
          refine ⟨⟨k + 1, q, l ++ [d], by go_num, iv hq0, by have := HQ.out; omega, by simp [HK.out], lim_append.2 ⟨hLl, lim_cons.2 ⟨by rw [HD.out]; omega, lim_nil⟩⟩, ?_, .inr (by simpa using HLO.out), ?_, ?_, ?_⟩, ?_⟩
          · have hs := HS.out
            rw [← HD.out, ← HQ.out] at hs
            rw [nv_append, HK.out, take_split', take_split', HXX.out, HYY.out, bp_succ]
            simpa [nv] using hs
          · by_cases e1 : k + 1 ≤ (nd A).length
            · exact .inl e1
            · by_cases e2 : k + 1 ≤ (nd B).length
              · exact .inr (.inl e2)
              · have h1 := HXX.out
                rw [getD_ge (by omega)] at h1
                have h2 := HYY.out
                rw [getD_ge (by omega)] at h2
                have := HQ.out
                exact .inr (.inr (by omega))
          · unfold Own
            rw [List.length_append, List.map_append]
            exact hown2
          · exact Gr.grown (by repeat' (first | (with_reducible exact Gr.refl _) | (with_reducible assumption) | (with_reducible refine Gr.drewN ?_ _) | (with_reducible refine Gr.drew ?_) | (with_reducible refine Gr.alloc ?_ _) | (with_reducible refine Gr.setCell ?_ ?_ _) | (with_reducible refine Gr.grow ?_ _ _) | (refine Gr.step ?_ (by with_reducible assumption)) | go_size)) hgrow (fun k hk => (hown.lt k hk).1)
          · have := hk3
            simp only [intOf]; omega
        · have hc0 : c = 0 := by omega
          have d3 : decide (0 < c) = false := by simpa using c3
          have hn : nv l = A + B := by
            have := HV.out
            rw [List.take_of_length_le (by omega), List.take_of_length_le (by omega), nv_nd, nv_nd, hc0] at this
            omega
          have hl : l = nd (A + B) := by
            rw [← hn]
            refine nd_of hLl ?_
            rw [hlen, hn]
            rcases HL.out with h | h
            · exact .inl (List.length_eq_zero_iff.1 (by omega))
            · exact .inr h
          have HO := Lib.hid (hown.num hl)
          clear hl hn hown hlen hc0 c3 c1 c2 hc1 hk3
          go_wp2_with fail
          go_ret
          exact ⟨_, rfl, HO.out, hgr⟩
/-- nil, or a slice with an address -/
def Hd (v : Value) : Prop := v = .slice none 0 0 ∨ ∃ (a : Addr) (n c : Nat), v = .slice (some a) n c
/-- a number in memory of the call's own -/
def Fresh (w : World) (N : Nat) (e : Ending) (w' : World) : Prop := ∃ v, e = .returned v ∧ Rd (fun b => w.heap.size ≤ b) w' v (nd N) ∧ Hd v ∧ Gr w w'
/-- what the loop of Less keeps -/
def LsRel (w : World) (A B : Nat) (v cv s : Value) (wr : World) : Prop :=
  ∃ (k c : Nat) (l : List Nat), s = .int .i64 k ∧ cv = .int .i64 c ∧ c ≤ 1 ∧ l.length = k ∧ k ≤ (nd A).length ∧ Lim l ∧ nv l + nv ((nd B).take k) = nv ((nd A).take k) + c * 1073741824 ^ k ∧ Own wr w.heap.size v l ∧ Gr w wr
set_option maxHeartbeats 1000000 in
theorem less_own {A B : Nat} (va vb : Value) (w : World) (hA : Num w va A) (hB : Num w vb B) (hBA : B ≤ A) (lA : (nd A).length ≤ 10000) :
    Calls Tryz.prog 79 #[va, vb] w (Fresh w (A - B)) := by
  have hA0 := hA
  have hB0 := hB
  obtain ⟨aa, acap, rfl, -, -, hcA⟩ := hA
  obtain ⟨ab, bcap, rfl, -, -, -⟩ := hB
  have hA := Lib.hid hcA
  have hB := Lib.hid hB0
  have HBA := Lib.hid hBA
  clear hA0 hB0 hcA hBA
  go_enter Tryz.func79, Tryz.ntmps79
  go_wp2_with fail
  go_loopw [5, 6, 7] (fun v cv s wr => LsRel w A B v cv s wr) (fun _ _ s _ => (nd A).length - (intOf s).toNat)
  case atStart => exact ⟨0, 0, [], rfl, rfl, by omega, rfl, Nat.zero_le _, lim_nil, by simp [nv], Own.nil _ _, Gr.refl _⟩
  case round =>
    obtain ⟨k, c, l, rfl, rfl, hc1, hlen, hkA, hLl, hv, hown, hgr⟩ := hrel
    have HV := Lib.hid hv
    have HK := Lib.hid hlen
    clear hv
    by_cases c1 : k < (nd A).length
    · have d1 : decide (k < (nd A).length) = true := by simpa using c1
      have hx := lim_getD (lim_nd A) k
      have hy := lim_getD (lim_nd B) k
      obtain ⟨ba, oa, rfl, -, hca⟩ := hA.out k c1
      have hca2 : wr.cell? ⟨ba, oa + k, none⟩ = some (.int .i64 ((nd A).getD k 0 : Nat)) := by rw [(Gr.cells hgr).1 _ _ (World.block_lt_of_cell? _ _ hca)]; exact hca
      have cb : ∀ W, Gr wr W → Calls Tryz.prog 80 #[.slice ab (nd B).length bcap, .int .i64 k] W fun e w' => e = .returned (.int .i64 ((nd B).getD k 0 : Nat)) ∧ W = w' := fun W hg => rlimb_any k W ((hB.out.gr hgr).gr hg)
      clear hca
      generalize hxx : (nd A).getD k 0 = x at hca2 hx
      generalize hyy : (nd B).getD k 0 = y at cb hy
      have HXX := Lib.hid hxx
      have HYY := Lib.hid hyy
      have CB := Lib.hid cb
      have x1 : (x : Int) < 1073741824 := by omega
      have y1 : (y : Int) < 1073741824 := by omega
      have c2 : (c : Int) ≤ 1 := by omega
      have k0 : (0 : Int) ≤ (k : Int) := by omega
      have k1 : (k : Int) < ((nd A).length : Int) := by omega
      have kz : l.length ≤ 1000000 := by omega
      clear hxx hyy cb hlen
      go_wp2_with fail
      go_quiet ((go_at_call 80; exact Calls.quiet_of_same ((CB.out _ (Gr.drewN (Gr.refl _) _)).mono fun e w' ⟨he, hw⟩ => ⟨he, hw.symm⟩)))
      have hgq : Gr w (wr.drewN nq) := Gr.drewN hgr nq
      replace hown := hown.gr (Gr.drewN (Gr.refl wr) nq)
      generalize wr.drewN nq = w3 at *
      by_cases hs : (x : Int) - y - c < 0
      · have d2 : decide ((x : Int) - y - c < 0) = true := by simpa using hs
        obtain ⟨d, hd⟩ : ∃ d : Nat, (x : Int) - y - c + 1073741824 = d := ⟨(x + 1073741824 - y - c), by omega⟩
        have HD := Lib.hid (show d < 1073741824 ∧ (x : Int) - y - c + 1073741824 = d from ⟨by omega, hd⟩)
        clear hs
        obtain ⟨ti, hi1, hi2, hi3, hi4⟩ := intInfo
        have hown0 := hown
        unfold Own at hown
        go_wp2_with (at_builtin; refine wpList_append_own_at _ rfl _ _ 24 rfl w.heap.size 3 ti (.int .i64 0) 1 8 Tryz.underlying24 hi1 hi2 hi3 hi4 rfl (by decide) _ _ _ rfl (hown.alloc _) ⟨w3.heap.size, 0, none⟩ 1 1 [.int .i64 d] rfl rfl (cell_one_new _ _ _) (by simp [Value.oneCell']) (by unfold maxLen; omega) (by omega) (by have := Gr.size hgq; simp; omega) ?_; intro v' w2 hown2 hgrow hnil hloc)
        clear hnil hloc
        refine ⟨⟨k + 1, 1, l ++ [d], by go_num, rfl, by omega, by simp [HK.out], by omega, lim_append.2 ⟨hLl, lim_cons.2 ⟨by have := HD.out; omega, lim_nil⟩⟩, ?_, ?_, ?_⟩, ?_⟩
        · have hs := less_step (d := d) (e := 1) (x := x) (y := y) (c := c) HV.out (by have := HD.out; omega)
          rw [nv_append, HK.out, take_split', take_split', HXX.out, HYY.out, bp_succ]
          simpa [nv] using hs
        · unfold Own
          rw [List.length_append, List.map_append]
          exact hown2
        · exact Gr.grown (by repeat' (first | (with_reducible exact Gr.refl _) | (with_reducible assumption) | (with_reducible refine Gr.drewN ?_ _) | (with_reducible refine Gr.drew ?_) | (with_reducible refine Gr.alloc ?_ _) | (with_reducible refine Gr.setCell ?_ ?_ _) | (with_reducible refine Gr.grow ?_ _ _) | (refine Gr.step ?_ (by with_reducible assumption)) | go_size)) hgrow (fun k hk => (hown.lt k hk).1)
        · simp only [intOf]; omega
      · have d2 : decide ((x : Int) - y - c < 0) = false := by simpa using hs
        obtain ⟨d, hd⟩ : ∃ d : Nat, (x : Int) - y - c = d := ⟨(x - y - c), by omega⟩
        have HD := Lib.hid (show d < 1073741824 ∧ (x : Int) - y - c = d from ⟨by omega, hd⟩)
        rw [hd] at d2 ⊢
        clear hs hd
        obtain ⟨ti, hi1, hi2, hi3, hi4⟩ := intInfo
        have hown0 := hown
        unfold Own at hown
        go_wp2_with (at_builtin; refine wpList_append_own_at _ rfl _ _ 24 rfl w.heap.size 3 ti (.int .i64 0) 1 8 Tryz.underlying24 hi1 hi2 hi3 hi4 rfl (by decide) _ _ _ rfl (hown.alloc _) ⟨w3.heap.size, 0, none⟩ 1 1 [.int .i64 d] rfl rfl (cell_one_new _ _ _) (by simp [Value.oneCell']) (by unfold maxLen; omega) (by omega) (by have := Gr.size hgq; simp; omega) ?_; intro v' w2 hown2 hgrow hnil hloc)
        clear hnil hloc
        refine ⟨⟨k + 1, 0, l ++ [d], by go_num, rfl, by omega, by simp [HK.out], by omega, lim_append.2 ⟨hLl, lim_cons.2 ⟨by have := HD.out; omega, lim_nil⟩⟩, ?_, ?_, ?_⟩, ?_⟩
        · have hs := less_step (d := d) (e := 0) (x := x) (y := y) (c := c) HV.out (by have := HD.out; omega)
          rw [nv_append, HK.out, take_split', take_split', HXX.out, HYY.out, bp_succ]
          simpa [nv] using hs
        · unfold Own
          rw [List.length_append, List.map_append]
          exact hown2
        · exact Gr.grown (by repeat' (first | (with_reducible exact Gr.refl _) | (with_reducible assumption) | (with_reducible refine Gr.drewN ?_ _) | (with_reducible refine Gr.drew ?_) | (with_reducible refine Gr.alloc ?_ _) | (with_reducible refine Gr.setCell ?_ ?_ _) | (with_reducible refine Gr.grow ?_ _ _) | (refine Gr.step ?_ (by with_reducible assumption)) | go_size)) hgrow (fun k hk => (hown.lt k hk).1)
        · simp only [intOf]; omega
    · obtain rfl : k = (nd A).length := by omega
      have hn : nv l = A - B := by
        have h := HV.out
        have hBl : (nd B).length ≤ (nd A).length := (nd_len _ _).2 (Nat.lt_of_le_of_lt HBA.out (nd_hi A))
        rw [List.take_of_length_le (Nat.le_refl _), List.take_of_length_le hBl, nv_nd, nv_nd] at h
        have h2 := nv_lt hLl
        rw [hlen] at h2
        have h3 := nd_hi A
        have h4 := HBA.out
        rcases Nat.eq_zero_or_pos c with rfl | hc
        · omega
        · obtain rfl : c = 1 := by omega
          omega
      have HN := Lib.hid hn
      rcases hown.is with ⟨rfl, rfl⟩ | ⟨g, cap, rfl, hb, hcap, hcap2, harr, hlt⟩
      · have HT := Lib.hid (rtrim_at (p := fun b => w.heap.size ≤ b) (l := []) (n := 0) (cap := 0) (a := none) wr (Rd.nil _ _) hLl)
        have hz : A - B = 0 := by rw [← hn]; rfl
        have HZ := Lib.hid hz
        clear hn hown hlen c1 hc1 hkA hz
        go_wp2_with fail
        refine HT.out.mono ?_
        rintro e w' ⟨rfl, rfl⟩
        have e0 : (nd (nv [])).length = 0 := by rw [show nv [] = 0 from rfl, nd_zero]; rfl
        rw [e0]
        go_wp2_with fail
        go_ret
        exact ⟨_, rfl, by rw [HZ.out, nd_zero]; exact Rd.nil _ _, .inl rfl, hgr⟩
      · have hrd : Rd (fun b => w.heap.size ≤ b) wr (.slice (some ⟨g, 0, none⟩) l.length cap) l := harr.rd hcap hcap2 hb
        have HT := Lib.hid (rtrim_at wr hrd hLl)
        have HR2 := Lib.hid (hrd.take (k := (nd (nv l)).length) (nd_nv_le hLl))
        have HTK := Lib.hid (nd_take hLl)
        clear hn hown hlen c1 hc1 hkA hrd harr hlt
        go_wp2_with fail
        refine HT.out.mono ?_
        rintro e w' ⟨rfl, rfl⟩
        go_wp2_with fail
        go_ret
        refine ⟨_, rfl, ?_, .inr ⟨_, _, _, rfl⟩, hgr⟩
        have h := HR2.out
        rw [← HTK.out] at h
        rw [← HN.out]
        exact h
theorem less_any {A B : Nat} (va vb : Value) (w : World) (hA : Num w va A) (hB : Num w vb B) (hBA : B ≤ A) (lA : (nd A).length ≤ 10000) :
    Calls Tryz.prog 79 #[va, vb] w (OneNum w (A - B)) :=
  (less_own va vb w hA hB hBA lA).mono fun e w' h => by
    obtain ⟨v, rfl, h1, -, h3⟩ := h
    exact ⟨v, rfl, h1.any, h3⟩
end Go.Proofs.YtjpjnbgfodlkcaaGreatDoor
/- The document's numbers: Times. -/
namespace Go.Proofs.YtjpjnbgfodlkcaaGreatDoor
open Go Go.RowKit Go.Sort
set_option maxRecDepth 100000
set_option linter.unusedVariables false
/-- what the inner loop of Times keeps -/
def TmIn (A B r i a : Nat) (P : List Nat) (w1 : World) (cv s : Value) (wr : World) : Prop :=
  ∃ (k c : Nat) (Q : List Nat), s = .int .i64 k ∧ cv = .int .i64 c ∧ c < 1073741824 ∧ Q.length = (nd A).length + (nd B).length ∧ Lim Q ∧ nv Q + c * 1073741824 ^ (i + k) = nv P + a * 1073741824 ^ i * nv ((nd B).take k) ∧
    (∀ j, i + k ≤ j → Q.getD j 0 = P.getD j 0) ∧ (k ≤ (nd B).length ∨ (k = (nd B).length + 1 ∧ c = 0)) ∧ Arr wr r 0 Q ∧ Ex r w1 wr
/-- what the outer loop keeps -/
def TmOut (A B r : Nat) (w1 : World) (s : Value) (wr : World) : Prop :=
  ∃ (i : Nat) (P : List Nat), s = .int .i64 i ∧ i ≤ (nd A).length ∧ P.length = (nd A).length + (nd B).length ∧ Lim P ∧ nv P = nv ((nd A).take i) * B ∧ (∀ j, i + (nd B).length ≤ j → P.getD j 0 = 0) ∧ Arr wr r 0 P ∧ Ex r w1 wr
set_option maxHeartbeats 4000000 in
theorem times_any {A B : Nat} (va vb : Value) (w : World) (hA : Num w va A) (hB : Num w vb B) (lA : (nd A).length ≤ 10000) (lB : (nd B).length ≤ 10000) :
    Calls Tryz.prog 46 #[va, vb] w (OneNum w (A * B)) := by
  have hA0 := hA
  have hB0 := hB
  obtain ⟨aa, acap, rfl, -, -, -⟩ := hA
  obtain ⟨ab, bcap, rfl, -, -, -⟩ := hB
  have hA := Lib.hid hA0
  have hB := Lib.hid hB0
  clear hA0 hB0
  obtain ⟨ti, hi1, hi2, hi3, hi4⟩ := intInfo
  go_enter Tryz.func46, Tryz.ntmps46
  go_wp2_with (refine wpList_make_full _ rfl _ _ 24 rfl w.heap.size 3 ti (.int .i64 0) 1 Tryz.underlying24 hi1 hi2 hi3 .i64 .i64 _ _ ((nd A).length + (nd B).length) rfl rfl (by simp) (by simp) (by rw [hi4]; omega) (by unfold maxLen; omega) (Nat.le_refl _) ?_; intro w1 hown1 hgrow1)
  obtain ⟨hn, harr, hlt, hcap, hcap2⟩ := (own_made hown1).arr
  have hG1 : Gr w w1 := Gr.grown (Gr.refl _) hgrow1 (fun k hk => by cases hk)
  have hGr := Lib.hid hG1
  obtain ⟨r, hr⟩ : ∃ r, r = w.heap.size := ⟨_, rfl⟩
  have hA1 : Rd (· ≠ r) w1 (.slice aa (nd A).length acap) (nd A) := Rd.gr (hA.out.off (by omega)) hG1
  have hB1 : Rd (· ≠ r) w1 (.slice ab (nd B).length bcap) (nd B) := Rd.gr (hB.out.off (by omega)) hG1
  rw [← hr] at harr hlt ⊢
  have HR := Lib.hid hr
  have HA1 := Lib.hid hA1
  have HB1 := Lib.hid hB1
  clear hA1 hB1 hr hG1 hown1 hgrow1 hn hi1 hi2 hi3 hi4
  go_loopw [6] (fun s wr => TmOut A B r w1 s wr) (fun s _ => (nd A).length - (intOf s).toNat)
  case atStart => exact ⟨0, _, rfl, Nat.zero_le _, List.length_replicate, lim_replicate _, by rw [nv_replicate]; simp [nv], fun j _ => by rw [List.getD_eq_getElem?_getD, List.getElem?_replicate]; split <;> rfl, harr, Ex.refl _ _⟩
  case round =>
    obtain ⟨i, P, rfl, hi, hPl, hPL, hPv, hPz, hPa, hexo⟩ := hrel
    have HL := Lib.hid hPl
    have HV := Lib.hid hPv
    have HZ := Lib.hid hPz
    have HA := Lib.hid hPa
    have HPL := Lib.hid hPL
    clear hPl hPv hPz hPa hPL
    by_cases hlt : i < (nd A).length
    · have d1 : decide (i < (nd A).length) = true := by simpa using hlt
      have hal := lim_getD (lim_nd A) i
      go_wp2_with fail
      go_loopw [7, 8] (fun cv s wi => TmIn A B r i ((nd A).getD i 0) P w1 cv s wi) (fun _ s _ => (nd B).length + 1 - (intOf s).toNat)
      case atStart => exact ⟨0, 0, P, rfl, rfl, by omega, HL.out, HPL.out, by simp [nv], fun _ _ => rfl, .inl (Nat.zero_le _), HA.out, hexo⟩
      case round =>
        obtain ⟨k, c, Q, rfl, rfl, hc1, hQl, hQL, hQv, hQp, hQk, hQa, hex⟩ := hrel
        have HQL := Lib.hid hQl
        have HLQ := Lib.hid hQL
        have HQV := Lib.hid hQv
        have HQP := Lib.hid hQp
        have HQA := Lib.hid hQa
        clear hQl hQL hQv hQp hQa
        by_cases k1 : k < (nd B).length
        · have d2 : decide (k < (nd B).length) = true := by simpa using k1
          have hj : i + k < (nd A).length + (nd B).length := by omega
          obtain ⟨hcl, hfr⟩ := HQA.out (i + k) (by rw [HQL.out]; exact hj)
          rw [Nat.zero_add] at hcl hfr
          have hql := lim_getD HLQ.out (i + k)
          have hbl := lim_getD (lim_nd B) k
          have hlimb := fun n => rlimb_any k (wr.drewN n) ((HB1.out.ex hex).gr (Gr.drewN (Gr.refl _) n))
          obtain ⟨ba, oa, rfl, hba, hca⟩ := (HA1.out.ex hex).at' hlt
          have HRS := Lib.hid (row_step (Q := Q) (P := nv P) (c := c) (a := (nd A).getD i 0) (b := (nd B).getD k 0) (v := nv ((nd B).take k)) (j := i + k) (i := i) (k := k) (by rw [HQL.out]; exact hj) rfl HQV.out rfl)
          rw [← take_split'] at HRS
          have hbd := row_bound hql hal hbl hc1
          generalize hqq : Q.getD (i + k) 0 = q at hcl hql HRS hbd
          generalize hbb : (nd B).getD k 0 = y at hbl hlimb HRS hbd
          generalize hxx : (nd A).getD i 0 = x at *
          have HXX := Lib.hid hxx
          obtain ⟨z, hz⟩ : ∃ z : Nat, z = x * y := ⟨_, rfl⟩
          rw [← hz] at hbd HRS
          have hz2 : (x : Int) * (y : Int) = (z : Int) := by rw [hz]; simp
          have m1 : IntKind.i64.wrap ((x : Int) * (y : Int)) = (z : Int) := by rw [hz2]; exact IntWalk.i64_in _ (by omega)
          have m0 : IntKind.i64.wrap ((i : Int) + (k : Int)) = ((i + k : Nat) : Int) := by rw [show (i : Int) + (k : Int) = ((i + k : Nat) : Int) by omega]; exact IntWalk.i64_in _ (by omega)
          obtain ⟨d, hd⟩ : ∃ d : Nat, d = (q + z + c) % 1073741824 := ⟨_, rfl⟩
          obtain ⟨f, hf⟩ : ∃ f : Nat, f = (q + z + c) / 1073741824 := ⟨_, rfl⟩
          rw [← hd, ← hf] at HRS
          have hd0 : ((q : Int) + (z : Int) + (c : Int)) % 1073741824 = (d : Int) := by omega
          have hf0 : ((q : Int) + (z : Int) + (c : Int)) / 1073741824 = (f : Int) := by omega
          have hd1 : d < 1073741824 := by omega
          have hf1 : f < 1073741824 := by omega
          have HD1 := Lib.hid hd1
          have HF1 := Lib.hid hf1
          have q1 : (q : Int) < 1073741824 := by omega
          have z1 : (z : Int) < 1152921504606846976 := by omega
          have c3 : (c : Int) < 1073741824 := by omega
          obtain ⟨ij, hij⟩ : ∃ ij : Nat, ij = i + k := ⟨_, rfl⟩
          rw [← hij] at m0 hcl hfr hj
          have HIJ := Lib.hid hij
          have j1 : (ij : Int) < ((nd A).length + (nd B).length : Int) := by omega
          have j2 : (ij : Int) < (((nd A).length + (nd B).length : Nat) : Int) := by omega
          have j0 : (0 : Int) ≤ (ij : Int) := by omega
          have i1 : (i : Int) < ((nd A).length : Int) := by omega
          have hex2 := hex
          have HEX := Lib.hid hex
          have HB2 : k + 1 ≤ (nd B).length ∨ (k + 1 = (nd B).length + 1 ∧ f = 0) := by
            by_cases e : k < (nd B).length
            · exact .inl e
            · obtain rfl : k = (nd B).length := by omega
              refine .inr ⟨rfl, ?_⟩
              have h1 : q = 0 := by rw [← hqq, HQP.out _ (Nat.le_refl _)]; exact HZ.out _ (Nat.le_refl _)
              have h2 : y = 0 := by rw [← hbb]; exact getD_ge (by omega)
              have h3 : z = 0 := by rw [hz, h2, Nat.mul_zero]
              omega
          have HB3 := Lib.hid HB2
          clear HB2 hz hz2 hd hf hqq hbb hxx hbd hex hij hd1 hf1
          go_wp2_with fail
          go_quiet ((go_at_call 80; exact Calls.quiet_of_same ((hlimb _).mono fun e w' ⟨he, hw⟩ => ⟨he, hw.symm⟩)))
          have hgd : Gr wr (wr.drewN nq) := Gr.drewN (Gr.refl _) nq
          have hcl3 : (wr.drewN nq).cell? ⟨r, ij, none⟩ = some (.int .i64 (q : Nat)) := hcl
          have hfr3 : (wr.drewN nq).frozen? ⟨r, ij, none⟩ = false := hfr
          have HQA3 := Lib.hid (HQA.out.gr hgd)
          have HEX3 := Lib.hid (HEX.out.trans (Ex.ofGr hgd))
          clear hcl hfr hlimb hca
          generalize wr.drewN nq = w3 at *
          go_wp2_with fail
          refine ⟨⟨k + 1, f, Q.set ij d, by go_num, iv hf0, HF1.out, by rw [List.length_set]; exact HQL.out, lim_set HLQ.out _ HD1.out, ?_, ?_, HB3.out, ?_, HEX3.out.trans (Ex.set (Ex.refl _ _) _ _)⟩, ?_⟩
          · rw [show i + (k + 1) = ij + 1 by rw [HIJ.out]; omega]
            rw [HIJ.out] at *
            exact HRS.out
          · intro j hj4
            rw [getD_set_ne (by rw [HIJ.out]; omega)]
            exact HQP.out j (by omega)
          · have := HQA3.out.set (i := ij) (by rw [HQL.out]; exact hj) d
            rwa [Nat.zero_add] at this
          · simp only [intOf]; omega
        · have d2 : decide (k < (nd B).length) = false := by simpa using k1
          by_cases c1 : 0 < c
          · have d3 : decide (0 < c) = true := by simpa using c1
            have hj : i + k < (nd A).length + (nd B).length := by omega
            obtain ⟨hcl, hfr⟩ := HQA.out (i + k) (by rw [HQL.out]; exact hj)
            rw [Nat.zero_add] at hcl hfr
            have hql := lim_getD HLQ.out (i + k)
            have hbl := lim_getD (lim_nd B) k
            have hlimb := fun n => rlimb_any k (wr.drewN n) ((HB1.out.ex hex).gr (Gr.drewN (Gr.refl _) n))
            obtain ⟨ba, oa, rfl, hba, hca⟩ := (HA1.out.ex hex).at' hlt
            have HRS := Lib.hid (row_step (Q := Q) (P := nv P) (c := c) (a := (nd A).getD i 0) (b := (nd B).getD k 0) (v := nv ((nd B).take k)) (j := i + k) (i := i) (k := k) (by rw [HQL.out]; exact hj) rfl HQV.out rfl)
            rw [← take_split'] at HRS
            have hbd := row_bound hql hal hbl hc1
            generalize hqq : Q.getD (i + k) 0 = q at hcl hql HRS hbd
            generalize hbb : (nd B).getD k 0 = y at hbl hlimb HRS hbd
            generalize hxx : (nd A).getD i 0 = x at *
            have HXX := Lib.hid hxx
            obtain ⟨z, hz⟩ : ∃ z : Nat, z = x * y := ⟨_, rfl⟩
            rw [← hz] at hbd HRS
            have hz2 : (x : Int) * (y : Int) = (z : Int) := by rw [hz]; simp
            have m1 : IntKind.i64.wrap ((x : Int) * (y : Int)) = (z : Int) := by rw [hz2]; exact IntWalk.i64_in _ (by omega)
            have m0 : IntKind.i64.wrap ((i : Int) + (k : Int)) = ((i + k : Nat) : Int) := by rw [show (i : Int) + (k : Int) = ((i + k : Nat) : Int) by omega]; exact IntWalk.i64_in _ (by omega)
            obtain ⟨d, hd⟩ : ∃ d : Nat, d = (q + z + c) % 1073741824 := ⟨_, rfl⟩
            obtain ⟨f, hf⟩ : ∃ f : Nat, f = (q + z + c) / 1073741824 := ⟨_, rfl⟩
            rw [← hd, ← hf] at HRS
            have hd0 : ((q : Int) + (z : Int) + (c : Int)) % 1073741824 = (d : Int) := by omega
            have hf0 : ((q : Int) + (z : Int) + (c : Int)) / 1073741824 = (f : Int) := by omega
            have hd1 : d < 1073741824 := by omega
            have hf1 : f < 1073741824 := by omega
            have HD1 := Lib.hid hd1
            have HF1 := Lib.hid hf1
            have q1 : (q : Int) < 1073741824 := by omega
            have z1 : (z : Int) < 1152921504606846976 := by omega
            have c3 : (c : Int) < 1073741824 := by omega
            obtain ⟨ij, hij⟩ : ∃ ij : Nat, ij = i + k := ⟨_, rfl⟩
            rw [← hij] at m0 hcl hfr hj
            have HIJ := Lib.hid hij
            have j1 : (ij : Int) < ((nd A).length + (nd B).length : Int) := by omega
            have j2 : (ij : Int) < (((nd A).length + (nd B).length : Nat) : Int) := by omega
            have j0 : (0 : Int) ≤ (ij : Int) := by omega
            have i1 : (i : Int) < ((nd A).length : Int) := by omega
            have hex2 := hex
            have HEX := Lib.hid hex
            have HB2 : k + 1 ≤ (nd B).length ∨ (k + 1 = (nd B).length + 1 ∧ f = 0) := by
              by_cases e : k < (nd B).length
              · exact .inl e
              · obtain rfl : k = (nd B).length := by omega
                refine .inr ⟨rfl, ?_⟩
                have h1 : q = 0 := by rw [← hqq, HQP.out _ (Nat.le_refl _)]; exact HZ.out _ (Nat.le_refl _)
                have h2 : y = 0 := by rw [← hbb]; exact getD_ge (by omega)
                have h3 : z = 0 := by rw [hz, h2, Nat.mul_zero]
                omega
            have HB3 := Lib.hid HB2
            clear HB2 hz hz2 hd hf hqq hbb hxx hbd hex hij hd1 hf1
            go_wp2_with fail
            go_quiet ((go_at_call 80; exact Calls.quiet_of_same ((hlimb _).mono fun e w' ⟨he, hw⟩ => ⟨he, hw.symm⟩)))
            have hgd : Gr wr (wr.drewN nq) := Gr.drewN (Gr.refl _) nq
            have hcl3 : (wr.drewN nq).cell? ⟨r, ij, none⟩ = some (.int .i64 (q : Nat)) := hcl
            have hfr3 : (wr.drewN nq).frozen? ⟨r, ij, none⟩ = false := hfr
            have HQA3 := Lib.hid (HQA.out.gr hgd)
            have HEX3 := Lib.hid (HEX.out.trans (Ex.ofGr hgd))
            clear hcl hfr hlimb hca
            generalize wr.drewN nq = w3 at *
            go_wp2_with fail
            refine ⟨⟨k + 1, f, Q.set ij d, by go_num, iv hf0, HF1.out, by rw [List.length_set]; exact HQL.out, lim_set HLQ.out _ HD1.out, ?_, ?_, HB3.out, ?_, HEX3.out.trans (Ex.set (Ex.refl _ _) _ _)⟩, ?_⟩
            · rw [show i + (k + 1) = ij + 1 by rw [HIJ.out]; omega]
              rw [HIJ.out] at *
              exact HRS.out
            · intro j hj4
              rw [getD_set_ne (by rw [HIJ.out]; omega)]
              exact HQP.out j (by omega)
            · have := HQA3.out.set (i := ij) (by rw [HQL.out]; exact hj) d
              rwa [Nat.zero_add] at this
            · simp only [intOf]; omega
          · obtain rfl : c = 0 := by omega
            have hv2 : nv Q = nv ((nd A).take (i + 1)) * B := by
              have h := HQV.out
              rw [List.take_of_length_le (show (nd B).length ≤ k by omega), nv_nd, Nat.zero_mul, Nat.add_zero, HV.out] at h
              rw [h, take_split', Nat.add_mul, Nat.mul_comm ((nd A).getD i 0)]
            have HV2 := Lib.hid hv2
            have HEX := Lib.hid hex
            clear hv2 hex hal
            go_wp2_with fail
            refine ⟨⟨i + 1, Q, by go_num, by omega, HQL.out, HLQ.out, HV2.out, fun j hj => ?_, HQA.out, HEX.out⟩, by simp only [intOf]; omega⟩
            rw [HQP.out j (by omega)]
            exact HZ.out j (by omega)
    · obtain rfl : i = (nd A).length := by omega
      have hrd : Rd (fun _ => True) wr (.slice (some ⟨r, 0, none⟩) ((nd A).length + (nd B).length) ((nd A).length + (nd B).length)) P := by
        have := HA.out.rd (p := fun _ => True) (cap := (nd A).length + (nd B).length) (by rw [HL.out]; exact Nat.le_refl _) (by omega) trivial
        rwa [HL.out] at this
      have hnv : nv P = A * B := by rw [HV.out, List.take_of_length_le (Nat.le_refl _), nv_nd]
      have HT := Lib.hid (rtrim_any wr hrd HPL.out)
      have HN := Lib.hid hnv
      have hG : Gr w wr := Ex.gr hGr.out (by rw [← HR.out]; exact Nat.le_refl _) hexo
      clear hnv hrd
      go_wp2_with fail
      refine HT.out.mono ?_
      rintro e w' ⟨v, rfl, hv, rfl⟩
      rw [HN.out] at hv
      have HF := Lib.hid hv
      clear hv
      go_wp2_with fail
      go_ret
      exact ⟨v, rfl, HF.out.any, hG⟩
end Go.Proofs.YtjpjnbgfodlkcaaGreatDoor
