/- The document's numbers: Plus, Less. -/
import Derived.Test.YtikkobmccagdlaaGreatDoorRo
import Derived.WalkKit
import Derived.WalkSpells
import Derived.WalkLawsBesides
import Derived.WalkSmall
import Derived.Handy
import Derived.BigQuiet
import Derived.Deep.QuietTactic
import Derived.Deep.RegionHeld3
import Derived.Deep.DeepFit
import Derived.Below
import Derived.Lib.Hide
import Derived.Lib.QuietBelow
import Derived.Deep.DeepCutAuto
namespace Go.Proofs.YtikkobmccagdlaaGreatDoor
open Go Go.RowKit Go.Sort
set_option maxRecDepth 100000
set_option linter.unusedVariables false
/-- what the loop of Plus keeps -/
def PlRel (w : World) (A B : Nat) (v cv s : Value) (wr : World) : Prop :=
  ∃ (k c : Nat) (l : List Nat), s = .int .i64 k ∧ cv = .int .i64 c ∧ c ≤ 1 ∧ l.length = k ∧ Lim l ∧ nv l + c * 1073741824 ^ k = nv ((nd A).take k) + nv ((nd B).take k) ∧ (k = 0 ∨ 1073741824 ^ (k - 1) ≤ A + B) ∧
    (k ≤ (nd A).length ∨ k ≤ (nd B).length ∨ c = 0) ∧ Own wr w.heap.size v l ∧ Gr w wr
set_option maxHeartbeats 1000000 in
theorem plus_any {A B : Nat} (va vb : Value) (w : World) (hA : Num w va A) (hB : Num w vb B) (lA : (nd A).length ≤ 10000) (lB : (nd B).length ≤ 10000) :
    Calls Tryz.prog 70 #[va, vb] w (OneNum w (A + B)) := by
  have hA0 := hA
  have hB0 := hB
  obtain ⟨aa, acap, rfl, -, -, -⟩ := hA
  obtain ⟨ab, bcap, rfl, -, -, -⟩ := hB
  have hA := Lib.hid hA0
  have hB := Lib.hid hB0
  clear hA0 hB0
  go_enter Tryz.func70, Tryz.ntmps70
  go_wp2_with fail
  go_loopw [5, 6, 7] (fun v cv s wr => PlRel w A B v cv s wr) (fun _ _ s _ => (nd A).length + (nd B).length + 1 - (intOf s).toNat)
  case atStart => exact ⟨0, 0, [], rfl, rfl, by omega, rfl, lim_nil, by simp [nv], .inl rfl, .inl (Nat.zero_le _), Own.nil _ _, Gr.refl _⟩
  case round =>
    obtain ⟨k, c, l, rfl, rfl, hc1, hlen, hLl, hv, hlo, hk3, hown, hgr⟩ := hrel
    have HV := Lib.hid hv
    have HL := Lib.hid hlo
    clear hv hlo
    by_cases c1 : k < (nd A).length
    · have d1 : decide (k < (nd A).length) = true := by simpa using c1
      have hC : k < (nd A).length ∨ k < (nd B).length ∨ 0 < c := .inl c1
      have hx := lim_getD (lim_nd A) k
      have hy := lim_getD (lim_nd B) k
      have ca := rlimb_any k wr (hA.out.gr hgr)
      have cb := rlimb_any k wr (hB.out.gr hgr)
      have HLO := Lib.hid (add_lo HV.out hC)
      have HS := Lib.hid (add_step (x := (nd A).getD k 0) (y := (nd B).getD k 0) HV.out)
      generalize hxx : (nd A).getD k 0 = x at ca hx HS
      generalize hyy : (nd B).getD k 0 = y at cb hy HS
      have HXX := Lib.hid hxx
      have HYY := Lib.hid hyy
      have x1 : (x : Int) < 1073741824 := by omega
      have y1 : (y : Int) < 1073741824 := by omega
      have c2 : (c : Int) ≤ 1 := by omega
      obtain ⟨d, hd⟩ : ∃ d : Nat, d = (c + (x + y)) % 1073741824 := ⟨_, rfl⟩
      obtain ⟨q, hq⟩ : ∃ q : Nat, q = (c + (x + y)) / 1073741824 := ⟨_, rfl⟩
      have hd0 : ((x : Int) + (y : Int) + (c : Int)) % 1073741824 = (d : Int) := by omega
      have hq0 : ((x : Int) + (y : Int) + (c : Int)) / 1073741824 = (q : Int) := by omega
      have HD := Lib.hid hd
      have HQ := Lib.hid hq
      have CA := Lib.hid ca
      have CB := Lib.hid cb
      have HK := Lib.hid hlen
      obtain ⟨ti, hi1, hi2, hi3, hi4⟩ := intInfo
      have hown0 := hown
      unfold Own at hown
      have kz : l.length ≤ 1000000 := by have := hlen; have := hk3; omega
      clear hxx hyy hd hq ca cb hlen
      go_wp2_with fail
      refine CA.out.mono ?_
      rintro e w' ⟨rfl, rfl⟩
      go_wp2_with fail
      refine CB.out.mono ?_
      rintro e w' ⟨rfl, rfl⟩
      go_wp2_with (at_builtin; refine wpList_append_own_at _ rfl _ _ 24 rfl w.heap.size 3 ti (.int .i64 0) 1 8 Tryz.underlying24 hi1 hi2 hi3 hi4 rfl (by decide) _ _ _ rfl (hown.alloc _) ⟨wr.heap.size, 0, none⟩ 1 1 [.int .i64 d] rfl rfl (cell_one_new _ _ _) (by simp [Value.oneCell']) (by unfold maxLen; omega) (by omega) (by have := Gr.size hgr; simp; omega) ?_; intro v' w2 hown2 hgrow hnil hloc)
      clear hnil hloc
      refine ⟨⟨k + 1, q, l ++ [d], by go_num, iv hq0, by have := HQ.out; omega, by simp [HK.out], lim_append.2 ⟨hLl, lim_cons.2 ⟨by rw [HD.out]; omega, lim_nil⟩⟩, ?_, .inr (by simpa using HLO.out), ?_, ?_, ?_⟩, ?_⟩
      · have hs := HS.out
        rw [← HD.out, ← HQ.out] at hs
        rw [nv_append, HK.out, take_split', take_split', HXX.out, HYY.out, bp_succ]
        simpa [nv] using hs
      · by_cases e1 : k + 1 ≤ (nd A).length
        · exact .inl e1
        · by_cases e2 : k + 1 ≤ (nd B).length
          · exact .inr (.inl e2)
          · have h1 := HXX.out
            rw [getD_ge (by omega)] at h1
            have h2 := HYY.out
            rw [getD_ge (by omega)] at h2
            have := HQ.out
            exact .inr (.inr (by omega))
      · unfold Own
        rw [List.length_append, List.map_append]
        exact hown2
      · exact Gr.grown (by repeat' (first | (with_reducible exact Gr.refl _) | (with_reducible assumption) | (with_reducible refine Gr.drewN ?_ _) | (with_reducible refine Gr.drew ?_) | (with_reducible refine Gr.alloc ?_ _) | (with_reducible refine Gr.setCell ?_ ?_ _) | (with_reducible refine Gr.grow ?_ _ _) | (refine Gr.step ?_ (by with_reducible assumption)) | go_size)) hgrow (fun k hk => (hown.lt k hk).1)
      · have := hk3
        simp only [intOf]; omega
    · have d1 : decide (k < (nd A).length) = false := by simpa using c1
      by_cases c2 : k < (nd B).length
      · have d2 : decide (k < (nd B).length) = true := by simpa using c2
        have hC : k < (nd A).length ∨ k < (nd B).length ∨ 0 < c := .inr (.inl c2)
        have hx := lim_getD (lim_nd A) k
        have hy := lim_getD (lim_nd B) k
        have ca := rlimb_any k wr (hA.out.gr hgr)
        have cb := rlimb_any k wr (hB.out.gr hgr)
        have HLO := Lib.hid (add_lo HV.out hC)
        have HS := Lib.hid (add_step (x := (nd A).getD k 0) (y := (nd B).getD k 0) HV.out)
        generalize hxx : (nd A).getD k 0 = x at ca hx HS
        generalize hyy : (nd B).getD k 0 = y at cb hy HS
        have HXX := Lib.hid hxx
        have HYY := Lib.hid hyy
        have x1 : (x : Int) < 1073741824 := by omega
        have y1 : (y : Int) < 1073741824 := by omega
        have c2 : (c : Int) ≤ 1 := by omega
        obtain ⟨d, hd⟩ : ∃ d : Nat, d = (c + (x + y)) % 1073741824 := ⟨_, rfl⟩
        obtain ⟨q, hq⟩ : ∃ q : Nat, q = (c + (x + y)) / 1073741824 := ⟨_, rfl⟩
        have hd0 : ((x : Int) + (y : Int) + (c : Int)) % 1073741824 = (d : Int) := by omega
        have hq0 : ((x : Int) + (y : Int) + (c : Int)) / 1073741824 = (q : Int) := by omega
        have HD := Lib.hid hd
        have HQ := Lib.hid hq
        have CA := Lib.hid ca
        have CB := Lib.hid cb
        have HK := Lib.hid hlen
        obtain ⟨ti, hi1, hi2, hi3, hi4⟩ := intInfo
        have hown0 := hown
        unfold Own at hown
        have kz : l.length ≤ 1000000 := by have := hlen; have := hk3; omega
        clear hxx hyy hd hq ca cb hlen
        go_wp2_with fail
        refine CA.out.mono ?_
        rintro e w' ⟨rfl, rfl⟩
        go_wp2_with fail
        refine CB.out.mono ?_
        rintro e w' ⟨rfl, rfl⟩
        go_wp2_with (at_builtin; refine wpList_append_own_at _ rfl _ _ 24 rfl w.heap.size 3 ti (.int .i64 0) 1 8 Tryz.underlying24 hi1 hi2 hi3 hi4 rfl (by decide) _ _ _ rfl (hown.alloc _) ⟨wr.heap.size, 0, none⟩ 1 1 [.int .i64 d] rfl rfl (cell_one_new _ _ _) (by simp [Value.oneCell']) (by unfold maxLen; omega) (by omega) (by have := Gr.size hgr; simp; omega) ?_; intro v' w2 hown2 hgrow hnil hloc)
        clear hnil hloc
        refine ⟨⟨k + 1, q, l ++ [d], by go_num, iv hq0, by have := HQ.out; omega, by simp [HK.out], lim_append.2 ⟨hLl, lim_cons.2 ⟨by rw [HD.out]; omega, lim_nil⟩⟩, ?_, .inr (by simpa using HLO.out), ?_, ?_, ?_⟩, ?_⟩
        · have hs := HS.out
          rw [← HD.out, ← HQ.out] at hs
          rw [nv_append, HK.out, take_split', take_split', HXX.out, HYY.out, bp_succ]
          simpa [nv] using hs
        · by_cases e1 : k + 1 ≤ (nd A).length
          · exact .inl e1
          · by_cases e2 : k + 1 ≤ (nd B).length
            · exact .inr (.inl e2)
            · have h1 := HXX.out
              rw [getD_ge (by omega)] at h1
              have h2 := HYY.out
              rw [getD_ge (by omega)] at h2
              have := HQ.out
              exact .inr (.inr (by omega))
        · unfold Own
          rw [List.length_append, List.map_append]
          exact hown2
        · exact Gr.grown (by repeat' (first | (with_reducible exact Gr.refl _) | (with_reducible assumption) | (with_reducible refine Gr.drewN ?_ _) | (with_reducible refine Gr.drew ?_) | (with_reducible refine Gr.alloc ?_ _) | (with_reducible refine Gr.setCell ?_ ?_ _) | (with_reducible refine Gr.grow ?_ _ _) | (refine Gr.step ?_ (by with_reducible assumption)) | go_size)) hgrow (fun k hk => (hown.lt k hk).1)
        · have := hk3
          simp only [intOf]; omega
      · have d2 : decide (k < (nd B).length) = false := by simpa using c2
        by_cases c3 : 0 < c
        · have hC : k < (nd A).length ∨ k < (nd B).length ∨ 0 < c := .inr (.inr c3)
          have d3 : decide (0 < c) = true := by simpa using c3
          have hx := lim_getD (lim_nd A) k
          have hy := lim_getD (lim_nd B) k
          have ca := rlimb_any k wr (hA.out.gr hgr)
          have cb := rlimb_any k wr (hB.out.gr hgr)
          have HLO := Lib.hid (add_lo HV.out hC)
          have HS := Lib.hid (add_step (x := (nd A).getD k 0) (y := (nd B).getD k 0) HV.out)
          generalize hxx : (nd A).getD k 0 = x at ca hx HS
          generalize hyy : (nd B).getD k 0 = y at cb hy HS
          have HXX := Lib.hid hxx
          have HYY := Lib.hid hyy
          have x1 : (x : Int) < 1073741824 := by omega
          have y1 : (y : Int) < 1073741824 := by omega
          have c2 : (c : Int) ≤ 1 := by omega
          obtain ⟨d, hd⟩ : ∃ d : Nat, d = (c + (x + y)) % 1073741824 := ⟨_, rfl⟩
          obtain ⟨q, hq⟩ : ∃ q : Nat, q = (c + (x + y)) / 1073741824 := ⟨_, rfl⟩
          have hd0 : ((x : Int) + (y : Int) + (c : Int)) % 1073741824 = (d : Int) := by omega
          have hq0 : ((x : Int) + (y : Int) + (c : Int)) / 1073741824 = (q : Int) := by omega
          have HD := Lib.hid hd
          have HQ := Lib.hid hq
          have CA := Lib.hid ca
          have CB := Lib.hid cb
          have HK := Lib.hid hlen
          obtain ⟨ti, hi1, hi2, hi3, hi4⟩ := intInfo
          have hown0 := hown
          unfold Own at hown
          have kz : l.length ≤ 1000000 := by have := hlen; have := hk3; omega
          clear hxx hyy hd hq ca cb hlen
          go_wp2_with fail
          refine CA.out.mono ?_
          rintro e w' ⟨rfl, rfl⟩
          go_wp2_with fail
          refine CB.out.mono ?_
          rintro e w' ⟨rfl, rfl⟩
          go_wp2_with (at_builtin; refine wpList_append_own_at _ rfl _ _ 24 rfl w.heap.size 3 ti (.int .i64 0) 1 8 Tryz.underlying24 hi1 hi2 hi3 hi4 rfl (by decide) _ _ _ rfl (hown.alloc _) ⟨wr.heap.size, 0, none⟩ 1 1 [.int .i64 d] rfl rfl (cell_one_new _ _ _) (by simp [Value.oneCell']) (by unfold maxLen; omega) (by omega) (by have := Gr.size hgr; simp; omega) ?_; intro v' w2 hown2 hgrow hnil hloc)
          clear hnil hloc
          refine ⟨⟨k + 1, q, l ++ [d], by go_num, iv hq0, by have := HQ.out; omega, by simp [HK.out], lim_append.2 ⟨hLl, lim_cons.2 ⟨by rw [HD.out]; omega, lim_nil⟩⟩, ?_, .inr (by simpa using HLO.out), ?_, ?_, ?_⟩, ?_⟩
          · have hs := HS.out
            rw [← HD.out, ← HQ.out] at hs
            rw [nv_append, HK.out, take_split', take_split', HXX.out, HYY.out, bp_succ]
            simpa [nv] using hs
          · by_cases e1 : k + 1 ≤ (nd A).length
            · exact .inl e1
            · by_cases e2 : k + 1 ≤ (nd B).length
              · exact .inr (.inl e2)
              · have h1 := HXX.out
                rw [getD_ge (by omega)] at h1
                have h2 := HYY.out
                rw [getD_ge (by omega)] at h2
                have := HQ.out
                exact .inr (.inr (by omega))
          · unfold Own
            rw [List.length_append, List.map_append]
            exact hown2
          · exact Gr.grown (by repeat' (first | (with_reducible exact Gr.refl _) | (with_reducible assumption) | (with_reducible refine Gr.drewN ?_ _) | (with_reducible refine Gr.drew ?_) | (with_reducible refine Gr.alloc ?_ _) | (with_reducible refine Gr.setCell ?_ ?_ _) | (with_reducible refine Gr.grow ?_ _ _) | (refine Gr.step ?_ (by with_reducible assumption)) | go_size)) hgrow (fun k hk => (hown.lt k hk).1)
          · have := hk3
            simp only [intOf]; omega
        · have hc0 : c = 0 := by omega
          have d3 : decide (0 < c) = false := by simpa using c3
          have hn : nv l = A + B := by
            have := HV.out
            rw [List.take_of_length_le (by omega), List.take_of_length_le (by omega), nv_nd, nv_nd, hc0] at this
            omega
          have hl : l = nd (A + B) := by
            rw [← hn]
            refine nd_of hLl ?_
            rw [hlen, hn]
            rcases HL.out with h | h
            · exact .inl (List.length_eq_zero_iff.1 (by omega))
            · exact .inr h
          have HO := Lib.hid (hown.num hl)
          clear hl hn hown hlen hc0 c3 c1 c2 hc1 hk3
          go_wp2_with fail
          go_ret
          exact ⟨_, rfl, HO.out, hgr⟩
/-- nil, or a slice with an address -/
def Hd (v : Value) : Prop := v = .slice none 0 0 ∨ ∃ (a : Addr) (n c : Nat), v = .slice (some a) n c
/-- a number in memory of the call's own -/
def Fresh (w : World) (N : Nat) (e : Ending) (w' : World) : Prop := ∃ v, e = .returned v ∧ Rd (fun b => w.heap.size ≤ b) w' v (nd N) ∧ Hd v ∧ Gr w w'
/-- what the loop of Less keeps -/
def LsRel (w : World) (A B : Nat) (v cv s : Value) (wr : World) : Prop :=
  ∃ (k c : Nat) (l : List Nat), s = .int .i64 k ∧ cv = .int .i64 c ∧ c ≤ 1 ∧ l.length = k ∧ k ≤ (nd A).length ∧ Lim l ∧ nv l + nv ((nd B).take k) = nv ((nd A).take k) + c * 1073741824 ^ k ∧ Own wr w.heap.size v l ∧ Gr w wr
set_option maxHeartbeats 1000000 in
theorem less_own {A B : Nat} (va vb : Value) (w : World) (hA : Num w va A) (hB : Num w vb B) (hBA : B ≤ A) (lA : (nd A).length ≤ 10000) :
    Calls Tryz.prog 74 #[va, vb] w (Fresh w (A - B)) := by
  have hA0 := hA
  have hB0 := hB
  obtain ⟨aa, acap, rfl, -, -, hcA⟩ := hA
  obtain ⟨ab, bcap, rfl, -, -, -⟩ := hB
  have hA := Lib.hid hcA
  have hB := Lib.hid hB0
  have HBA := Lib.hid hBA
  clear hA0 hB0 hcA hBA
  go_enter Tryz.func74, Tryz.ntmps74
  go_wp2_with fail
  go_loopw [5, 6, 7] (fun v cv s wr => LsRel w A B v cv s wr) (fun _ _ s _ => (nd A).length - (intOf s).toNat)
  case atStart => exact ⟨0, 0, [], rfl, rfl, by omega, rfl, Nat.zero_le _, lim_nil, by simp [nv], Own.nil _ _, Gr.refl _⟩
  case round =>
    obtain ⟨k, c, l, rfl, rfl, hc1, hlen, hkA, hLl, hv, hown, hgr⟩ := hrel
    have HV := Lib.hid hv
    have HK := Lib.hid hlen
    clear hv
    by_cases c1 : k < (nd A).length
    · have d1 : decide (k < (nd A).length) = true := by simpa using c1
      have hx := lim_getD (lim_nd A) k
      have hy := lim_getD (lim_nd B) k
      obtain ⟨ba, oa, rfl, -, hca⟩ := hA.out k c1
      have hca2 : wr.cell? ⟨ba, oa + k, none⟩ = some (.int .i64 ((nd A).getD k 0 : Nat)) := by rw [(Gr.cells hgr).1 _ _ (World.block_lt_of_cell? _ _ hca)]; exact hca
      have cb : ∀ W, Gr wr W → Calls Tryz.prog 88 #[.slice ab (nd B).length bcap, .int .i64 k] W fun e w' => e = .returned (.int .i64 ((nd B).getD k 0 : Nat)) ∧ W = w' := fun W hg => rlimb_any k W ((hB.out.gr hgr).gr hg)
      clear hca
      generalize hxx : (nd A).getD k 0 = x at hca2 hx
      generalize hyy : (nd B).getD k 0 = y at cb hy
      have HXX := Lib.hid hxx
      have HYY := Lib.hid hyy
      have CB := Lib.hid cb
      have x1 : (x : Int) < 1073741824 := by omega
      have y1 : (y : Int) < 1073741824 := by omega
      have c2 : (c : Int) ≤ 1 := by omega
      have k0 : (0 : Int) ≤ (k : Int) := by omega
      have k1 : (k : Int) < ((nd A).length : Int) := by omega
      have kz : l.length ≤ 1000000 := by omega
      clear hxx hyy cb hlen
      go_wp2_with fail
      go_quiet ((go_at_call 88; exact Calls.quiet_of_same ((CB.out _ (Gr.drewN (Gr.refl _) _)).mono fun e w' ⟨he, hw⟩ => ⟨he, hw.symm⟩)))
      have hgq : Gr w (wr.drewN nq) := Gr.drewN hgr nq
      replace hown := hown.gr (Gr.drewN (Gr.refl wr) nq)
      generalize wr.drewN nq = w3 at *
      by_cases hs : (x : Int) - y - c < 0
      · have d2 : decide ((x : Int) - y - c < 0) = true := by simpa using hs
        obtain ⟨d, hd⟩ : ∃ d : Nat, (x : Int) - y - c + 1073741824 = d := ⟨(x + 1073741824 - y - c), by omega⟩
        have HD := Lib.hid (show d < 1073741824 ∧ (x : Int) - y - c + 1073741824 = d from ⟨by omega, hd⟩)
        clear hs
        obtain ⟨ti, hi1, hi2, hi3, hi4⟩ := intInfo
        have hown0 := hown
        unfold Own at hown
        go_wp2_with (at_builtin; refine wpList_append_own_at _ rfl _ _ 24 rfl w.heap.size 3 ti (.int .i64 0) 1 8 Tryz.underlying24 hi1 hi2 hi3 hi4 rfl (by decide) _ _ _ rfl (hown.alloc _) ⟨w3.heap.size, 0, none⟩ 1 1 [.int .i64 d] rfl rfl (cell_one_new _ _ _) (by simp [Value.oneCell']) (by unfold maxLen; omega) (by omega) (by have := Gr.size hgq; simp; omega) ?_; intro v' w2 hown2 hgrow hnil hloc)
        clear hnil hloc
        refine ⟨⟨k + 1, 1, l ++ [d], by go_num, rfl, by omega, by simp [HK.out], by omega, lim_append.2 ⟨hLl, lim_cons.2 ⟨by have := HD.out; omega, lim_nil⟩⟩, ?_, ?_, ?_⟩, ?_⟩
        · have hs := less_step (d := d) (e := 1) (x := x) (y := y) (c := c) HV.out (by have := HD.out; omega)
          rw [nv_append, HK.out, take_split', take_split', HXX.out, HYY.out, bp_succ]
          simpa [nv] using hs
        · unfold Own
          rw [List.length_append, List.map_append]
          exact hown2
        · exact Gr.grown (by repeat' (first | (with_reducible exact Gr.refl _) | (with_reducible assumption) | (with_reducible refine Gr.drewN ?_ _) | (with_reducible refine Gr.drew ?_) | (with_reducible refine Gr.alloc ?_ _) | (with_reducible refine Gr.setCell ?_ ?_ _) | (with_reducible refine Gr.grow ?_ _ _) | (refine Gr.step ?_ (by with_reducible assumption)) | go_size)) hgrow (fun k hk => (hown.lt k hk).1)
        · simp only [intOf]; omega
      · have d2 : decide ((x : Int) - y - c < 0) = false := by simpa using hs
        obtain ⟨d, hd⟩ : ∃ d : Nat, (x : Int) - y - c = d := ⟨(x - y - c), by omega⟩
        have HD := Lib.hid (show d < 1073741824 ∧ (x : Int) - y - c = d from ⟨by omega, hd⟩)
        rw [hd] at d2 ⊢
        clear hs hd
        obtain ⟨ti, hi1, hi2, hi3, hi4⟩ := intInfo
        have hown0 := hown
        unfold Own at hown
        go_wp2_with (at_builtin; refine wpList_append_own_at _ rfl _ _ 24 rfl w.heap.size 3 ti (.int .i64 0) 1 8 Tryz.underlying24 hi1 hi2 hi3 hi4 rfl (by decide) _ _ _ rfl (hown.alloc _) ⟨w3.heap.size, 0, none⟩ 1 1 [.int .i64 d] rfl rfl (cell_one_new _ _ _) (by simp [Value.oneCell']) (by unfold maxLen; omega) (by omega) (by have := Gr.size hgq; simp; omega) ?_; intro v' w2 hown2 hgrow hnil hloc)
        clear hnil hloc
        refine ⟨⟨k + 1, 0, l ++ [d], by go_num, rfl, by omega, by simp [HK.out], by omega, lim_append.2 ⟨hLl, lim_cons.2 ⟨by have := HD.out; omega, lim_nil⟩⟩, ?_, ?_, ?_⟩, ?_⟩
        · have hs := less_step (d := d) (e := 0) (x := x) (y := y) (c := c) HV.out (by have := HD.out; omega)
          rw [nv_append, HK.out, take_split', take_split', HXX.out, HYY.out, bp_succ]
          simpa [nv] using hs
        · unfold Own
          rw [List.length_append, List.map_append]
          exact hown2
        · exact Gr.grown (by repeat' (first | (with_reducible exact Gr.refl _) | (with_reducible assumption) | (with_reducible refine Gr.drewN ?_ _) | (with_reducible refine Gr.drew ?_) | (with_reducible refine Gr.alloc ?_ _) | (with_reducible refine Gr.setCell ?_ ?_ _) | (with_reducible refine Gr.grow ?_ _ _) | (refine Gr.step ?_ (by with_reducible assumption)) | go_size)) hgrow (fun k hk => (hown.lt k hk).1)
        · simp only [intOf]; omega
    · obtain rfl : k = (nd A).length := by omega
      have hn : nv l = A - B := by
        have h := HV.out
        have hBl : (nd B).length ≤ (nd A).length := (nd_len _ _).2 (Nat.lt_of_le_of_lt HBA.out (nd_hi A))
        rw [List.take_of_length_le (Nat.le_refl _), List.take_of_length_le hBl, nv_nd, nv_nd] at h
        have h2 := nv_lt hLl
        rw [hlen] at h2
        have h3 := nd_hi A
        have h4 := HBA.out
        rcases Nat.eq_zero_or_pos c with rfl | hc
        · omega
        · obtain rfl : c = 1 := by omega
          omega
      have HN := Lib.hid hn
      rcases hown.is with ⟨rfl, rfl⟩ | ⟨g, cap, rfl, hb, hcap, hcap2, harr, hlt⟩
      · have HT := Lib.hid (rtrim_at (p := fun b => w.heap.size ≤ b) (l := []) (n := 0) (cap := 0) (a := none) wr (Rd.nil _ _) hLl)
        have hz : A - B = 0 := by rw [← hn]; rfl
        have HZ := Lib.hid hz
        clear hn hown hlen c1 hc1 hkA hz
        go_wp2_with fail
        refine HT.out.mono ?_
        rintro e w' ⟨rfl, rfl⟩
        have e0 : (nd (nv [])).length = 0 := by rw [show nv [] = 0 from rfl, nd_zero]; rfl
        rw [e0]
        go_wp2_with fail
        go_ret
        exact ⟨_, rfl, by rw [HZ.out, nd_zero]; exact Rd.nil _ _, .inl rfl, hgr⟩
      · have hrd : Rd (fun b => w.heap.size ≤ b) wr (.slice (some ⟨g, 0, none⟩) l.length cap) l := harr.rd hcap hcap2 hb
        have HT := Lib.hid (rtrim_at wr hrd hLl)
        have HR2 := Lib.hid (hrd.take (k := (nd (nv l)).length) (nd_nv_le hLl))
        have HTK := Lib.hid (nd_take hLl)
        clear hn hown hlen c1 hc1 hkA hrd harr hlt
        go_wp2_with fail
        refine HT.out.mono ?_
        rintro e w' ⟨rfl, rfl⟩
        go_wp2_with fail
        go_ret
        refine ⟨_, rfl, ?_, .inr ⟨_, _, _, rfl⟩, hgr⟩
        have h := HR2.out
        rw [← HTK.out] at h
        rw [← HN.out]
        exact h
theorem less_any {A B : Nat} (va vb : Value) (w : World) (hA : Num w va A) (hB : Num w vb B) (hBA : B ≤ A) (lA : (nd A).length ≤ 10000) :
    Calls Tryz.prog 74 #[va, vb] w (OneNum w (A - B)) :=
  (less_own va vb w hA hB hBA lA).mono fun e w' h => by
    obtain ⟨v, rfl, h1, -, h3⟩ := h
    exact ⟨v, rfl, h1.any, h3⟩
end Go.Proofs.YtikkobmccagdlaaGreatDoor
