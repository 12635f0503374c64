/- Add. -/
import Derived.Test.YtikkobmccagdlaaGreatDoorNo
import Derived.WalkKit
import Derived.WalkSpells
import Derived.WalkLawsBesides
import Derived.WalkSmall
import Derived.Handy
import Derived.BigQuiet
import Derived.Deep.QuietTactic
import Derived.Deep.RegionHeld3
import Derived.Deep.DeepFit
import Derived.Below
import Derived.Lib.Hide
import Derived.Lib.QuietBelow
import Derived.Deep.DeepCutAuto
namespace Go.Proofs.YtikkobmccagdlaaGreatDoor
open Go Go.RowKit Go.Sort
set_option maxRecDepth 100000
set_option linter.unusedVariables false

theorem iv {a b : Int} (h : a = b) : Value.int .i64 a = .int .i64 b := by rw [h]
theorem add_step {p n c m j x y : Nat} (h : n + c * p = m + j) : (n + p * ((c + (x + y)) % 1073741824)) + (c + (x + y)) / 1073741824 * (1073741824 * p) = (m + p * x) + (j + p * y) := by
  have hd := Nat.mod_add_div (c + (x + y)) 1073741824
  generalize (c + (x + y)) % 1073741824 = d at *
  generalize (c + (x + y)) / 1073741824 = q at *
  grind
theorem add_lo {A B k c n : Nat} (h : n + c * 1073741824 ^ k = nv ((nd A).take k) + nv ((nd B).take k)) (hc : k < (nd A).length ∨ k < (nd B).length ∨ 0 < c) : 1073741824 ^ k ≤ A + B := by
  have lo : ∀ N, k < (nd N).length → 1073741824 ^ k ≤ N := fun N hN => by
    have h0 : 0 < N := by apply Nat.pos_of_ne_zero; intro hz; subst hz; simp [nd_zero] at hN
    exact Nat.le_trans (bp_mono (by omega)) (nd_lo h0)
  have le : ∀ N, nv ((nd N).take k) ≤ N := fun N => by
    by_cases hk : k ≤ (nd N).length
    · have := nv_take_drop (nd N) k hk
      rw [nv_nd] at this; omega
    · rw [List.take_of_length_le (by omega), nv_nd]; exact Nat.le_refl _
  have h1 := le A
  have h2 := le B
  rcases hc with hc | hc | hc
  · have := lo A hc; omega
  · have := lo B hc; omega
  · have := Nat.mul_le_mul_right (1073741824 ^ k) hc
    omega
/-- what the loop of Add keeps -/
def AddRel (w : World) (A B : Nat) (v s cv : Value) (wr : World) : Prop :=
  ∃ (k c : Nat) (l : List Nat), s = .int .i64 k ∧ cv = .int .i64 c ∧ c ≤ 1 ∧ l.length = k ∧ Lim l ∧ nv l + c * 1073741824 ^ k = nv ((nd A).take k) + nv ((nd B).take k) ∧ (k = 0 ∨ 1073741824 ^ (k - 1) ≤ A + B) ∧
    (k ≤ (nd A).length ∨ k ≤ (nd B).length ∨ c = 0) ∧ Own wr w.heap.size v l ∧ Gr w wr
set_option maxHeartbeats 1000000 in
theorem add_any {A B : Nat} (va vb : Value) (w : World) (hA : Num w va A) (hB : Num w vb B) (lA : (nd A).length ≤ 256) (lB : (nd B).length ≤ 256) :
    Calls Tryz.prog 8 #[va, vb] w (Res w (A + B)) := by
  have hA0 := hA
  have hB0 := hB
  obtain ⟨aa, acap, rfl, -, -, -⟩ := hA
  obtain ⟨ab, bcap, rfl, -, -, -⟩ := hB
  have hA := Lib.hid hA0
  have hB := Lib.hid hB0
  have va := Lib.hid (num_valid hA0 lA)
  have vb := Lib.hid (num_valid hB0 lB)
  clear hA0 hB0
  go_enter Tryz.func8, Tryz.ntmps8
  go_wp2_with fail
  refine va.out.mono ?_
  rintro e w' ⟨rfl, rfl⟩
  go_wp2_with fail
  refine vb.out.mono ?_
  rintro e w' ⟨rfl, rfl⟩
  go_wp2_with fail
  go_loopw [6, 7, 8] (fun v s cv wr => AddRel w A B v s cv wr) (fun _ s _ _ => (nd A).length + (nd B).length + 1 - (intOf s).toNat)
  case atStart => exact ⟨0, 0, [], rfl, rfl, by omega, rfl, lim_nil, by simp [nv], .inl rfl, .inl (Nat.zero_le _), Own.nil _ _, Gr.refl _⟩
  case round =>
    obtain ⟨k, c, l, rfl, rfl, hc1, hlen, hLl, hv, hlo, hk3, hown, hgr⟩ := hrel
    have HV := Lib.hid hv
    have HL := Lib.hid hlo
    clear hv hlo
    by_cases c1 : k < (nd A).length
    · have d1 : decide (k < (nd A).length) = true := by simpa using c1
      have hC : k < (nd A).length ∨ k < (nd B).length ∨ 0 < c := .inl c1
      have hx := lim_getD (lim_nd A) k
      have hy := lim_getD (lim_nd B) k
      have ca := limb_any k wr (hA.out.gr hgr)
      have cb := limb_any k wr (hB.out.gr hgr)
      have HLO := Lib.hid (add_lo HV.out hC)
      have HS := Lib.hid (add_step (x := (nd A).getD k 0) (y := (nd B).getD k 0) HV.out)
      generalize hxx : (nd A).getD k 0 = x at ca hx HS
      generalize hyy : (nd B).getD k 0 = y at cb hy HS
      have HXX := Lib.hid hxx
      have HYY := Lib.hid hyy
      have x1 : (x : Int) < 1073741824 := by omega
      have y1 : (y : Int) < 1073741824 := by omega
      have c2 : (c : Int) ≤ 1 := by omega
      obtain ⟨d, hd⟩ : ∃ d : Nat, d = (c + (x + y)) % 1073741824 := ⟨_, rfl⟩
      have ha : bits .and .i64 ((c : Int) + ((x : Int) + (y : Int))) 1073741823 = (d : Int) := by rw [and30]; omega
      have HD := Lib.hid hd
      have CA := Lib.hid ca
      have CB := Lib.hid cb
      have HK := Lib.hid hlen
      obtain ⟨ti, hi1, hi2, hi3, hi4⟩ := intInfo
      have hown0 := hown
      unfold Own at hown
      have kz : l.length ≤ 256 := by have := hlen; have := hk3; omega
      clear hxx hyy hd ca cb hlen
      go_wp2_with fail
      refine CA.out.mono ?_
      rintro e w' ⟨rfl, rfl⟩
      go_wp2_with fail
      refine CB.out.mono ?_
      rintro e w' ⟨rfl, rfl⟩
      go_wp2_with (at_builtin; refine wpList_append_own_at _ rfl _ _ 24 rfl w.heap.size 3 ti (.int .i64 0) 1 8 Tryz.underlying24 hi1 hi2 hi3 hi4 rfl (by decide) _ _ _ rfl (hown.alloc _) ⟨wr.heap.size, 0, none⟩ 1 1 [.int .i64 d] rfl rfl (cell_one_new _ _ _) (by simp [Value.oneCell']) (by unfold maxLen; omega) (by omega) (by have := Gr.size hgr; simp; omega) ?_; intro v' w2 hown2 hgrow hnil hloc)
      clear hnil hloc
      refine ⟨⟨k + 1, (c + (x + y)) / 1073741824, l ++ [d], by go_num, iv (by omega), by omega, by simp [HK.out], lim_append.2 ⟨hLl, lim_cons.2 ⟨by rw [HD.out]; omega, lim_nil⟩⟩, ?_, .inr (by simpa using HLO.out), ?_, ?_, ?_⟩, ?_⟩
      · have hs := HS.out
        rw [← HD.out] at hs
        rw [nv_append, HK.out, take_split', take_split', HXX.out, HYY.out, bp_succ]
        simpa [nv] using hs
      · by_cases e1 : k + 1 ≤ (nd A).length
        · exact .inl e1
        · by_cases e2 : k + 1 ≤ (nd B).length
          · exact .inr (.inl e2)
          · have := HXX.out
            rw [getD_ge (by omega)] at this
            have := HYY.out
            rw [getD_ge (by omega)] at this
            exact .inr (.inr (by omega))
      · unfold Own
        rw [List.length_append, List.map_append]
        exact hown2
      · exact Gr.grown (by repeat' (first | (with_reducible exact Gr.refl _) | (with_reducible assumption) | (with_reducible refine Gr.drewN ?_ _) | (with_reducible refine Gr.drew ?_) | (with_reducible refine Gr.alloc ?_ _) | (with_reducible refine Gr.setCell ?_ ?_ _) | (with_reducible refine Gr.grow ?_ _ _) | (refine Gr.step ?_ (by with_reducible assumption)) | go_size)) hgrow (fun k hk => (hown.lt k hk).1)
      · have := hk3
        simp only [intOf]; omega
    · have d1 : decide (k < (nd A).length) = false := by simpa using c1
      by_cases c2 : k < (nd B).length
      · have d2 : decide (k < (nd B).length) = true := by simpa using c2
        have hC : k < (nd A).length ∨ k < (nd B).length ∨ 0 < c := .inr (.inl c2)
        have hx := lim_getD (lim_nd A) k
        have hy := lim_getD (lim_nd B) k
        have ca := limb_any k wr (hA.out.gr hgr)
        have cb := limb_any k wr (hB.out.gr hgr)
        have HLO := Lib.hid (add_lo HV.out hC)
        have HS := Lib.hid (add_step (x := (nd A).getD k 0) (y := (nd B).getD k 0) HV.out)
        generalize hxx : (nd A).getD k 0 = x at ca hx HS
        generalize hyy : (nd B).getD k 0 = y at cb hy HS
        have HXX := Lib.hid hxx
        have HYY := Lib.hid hyy
        have x1 : (x : Int) < 1073741824 := by omega
        have y1 : (y : Int) < 1073741824 := by omega
        have c2 : (c : Int) ≤ 1 := by omega
        obtain ⟨d, hd⟩ : ∃ d : Nat, d = (c + (x + y)) % 1073741824 := ⟨_, rfl⟩
        have ha : bits .and .i64 ((c : Int) + ((x : Int) + (y : Int))) 1073741823 = (d : Int) := by rw [and30]; omega
        have HD := Lib.hid hd
        have CA := Lib.hid ca
        have CB := Lib.hid cb
        have HK := Lib.hid hlen
        obtain ⟨ti, hi1, hi2, hi3, hi4⟩ := intInfo
        have hown0 := hown
        unfold Own at hown
        have kz : l.length ≤ 256 := by have := hlen; have := hk3; omega
        clear hxx hyy hd ca cb hlen
        go_wp2_with fail
        refine CA.out.mono ?_
        rintro e w' ⟨rfl, rfl⟩
        go_wp2_with fail
        refine CB.out.mono ?_
        rintro e w' ⟨rfl, rfl⟩
        go_wp2_with (at_builtin; refine wpList_append_own_at _ rfl _ _ 24 rfl w.heap.size 3 ti (.int .i64 0) 1 8 Tryz.underlying24 hi1 hi2 hi3 hi4 rfl (by decide) _ _ _ rfl (hown.alloc _) ⟨wr.heap.size, 0, none⟩ 1 1 [.int .i64 d] rfl rfl (cell_one_new _ _ _) (by simp [Value.oneCell']) (by unfold maxLen; omega) (by omega) (by have := Gr.size hgr; simp; omega) ?_; intro v' w2 hown2 hgrow hnil hloc)
        clear hnil hloc
        refine ⟨⟨k + 1, (c + (x + y)) / 1073741824, l ++ [d], by go_num, iv (by omega), by omega, by simp [HK.out], lim_append.2 ⟨hLl, lim_cons.2 ⟨by rw [HD.out]; omega, lim_nil⟩⟩, ?_, .inr (by simpa using HLO.out), ?_, ?_, ?_⟩, ?_⟩
        · have hs := HS.out
          rw [← HD.out] at hs
          rw [nv_append, HK.out, take_split', take_split', HXX.out, HYY.out, bp_succ]
          simpa [nv] using hs
        · by_cases e1 : k + 1 ≤ (nd A).length
          · exact .inl e1
          · by_cases e2 : k + 1 ≤ (nd B).length
            · exact .inr (.inl e2)
            · have := HXX.out
              rw [getD_ge (by omega)] at this
              have := HYY.out
              rw [getD_ge (by omega)] at this
              exact .inr (.inr (by omega))
        · unfold Own
          rw [List.length_append, List.map_append]
          exact hown2
        · exact Gr.grown (by repeat' (first | (with_reducible exact Gr.refl _) | (with_reducible assumption) | (with_reducible refine Gr.drewN ?_ _) | (with_reducible refine Gr.drew ?_) | (with_reducible refine Gr.alloc ?_ _) | (with_reducible refine Gr.setCell ?_ ?_ _) | (with_reducible refine Gr.grow ?_ _ _) | (refine Gr.step ?_ (by with_reducible assumption)) | go_size)) hgrow (fun k hk => (hown.lt k hk).1)
        · have := hk3
          simp only [intOf]; omega
      · have d2 : decide (k < (nd B).length) = false := by simpa using c2
        by_cases c3 : 0 < c
        · have hC : k < (nd A).length ∨ k < (nd B).length ∨ 0 < c := .inr (.inr c3)
          have d3 : decide (0 < c) = true := by simpa using c3
          have hx := lim_getD (lim_nd A) k
          have hy := lim_getD (lim_nd B) k
          have ca := limb_any k wr (hA.out.gr hgr)
          have cb := limb_any k wr (hB.out.gr hgr)
          have HLO := Lib.hid (add_lo HV.out hC)
          have HS := Lib.hid (add_step (x := (nd A).getD k 0) (y := (nd B).getD k 0) HV.out)
          generalize hxx : (nd A).getD k 0 = x at ca hx HS
          generalize hyy : (nd B).getD k 0 = y at cb hy HS
          have HXX := Lib.hid hxx
          have HYY := Lib.hid hyy
          have x1 : (x : Int) < 1073741824 := by omega
          have y1 : (y : Int) < 1073741824 := by omega
          have c2 : (c : Int) ≤ 1 := by omega
          obtain ⟨d, hd⟩ : ∃ d : Nat, d = (c + (x + y)) % 1073741824 := ⟨_, rfl⟩
          have ha : bits .and .i64 ((c : Int) + ((x : Int) + (y : Int))) 1073741823 = (d : Int) := by rw [and30]; omega
          have HD := Lib.hid hd
          have CA := Lib.hid ca
          have CB := Lib.hid cb
          have HK := Lib.hid hlen
          obtain ⟨ti, hi1, hi2, hi3, hi4⟩ := intInfo
          have hown0 := hown
          unfold Own at hown
          have kz : l.length ≤ 256 := by have := hlen; have := hk3; omega
          clear hxx hyy hd ca cb hlen
          go_wp2_with fail
          refine CA.out.mono ?_
          rintro e w' ⟨rfl, rfl⟩
          go_wp2_with fail
          refine CB.out.mono ?_
          rintro e w' ⟨rfl, rfl⟩
          go_wp2_with (at_builtin; refine wpList_append_own_at _ rfl _ _ 24 rfl w.heap.size 3 ti (.int .i64 0) 1 8 Tryz.underlying24 hi1 hi2 hi3 hi4 rfl (by decide) _ _ _ rfl (hown.alloc _) ⟨wr.heap.size, 0, none⟩ 1 1 [.int .i64 d] rfl rfl (cell_one_new _ _ _) (by simp [Value.oneCell']) (by unfold maxLen; omega) (by omega) (by have := Gr.size hgr; simp; omega) ?_; intro v' w2 hown2 hgrow hnil hloc)
          clear hnil hloc
          refine ⟨⟨k + 1, (c + (x + y)) / 1073741824, l ++ [d], by go_num, iv (by omega), by omega, by simp [HK.out], lim_append.2 ⟨hLl, lim_cons.2 ⟨by rw [HD.out]; omega, lim_nil⟩⟩, ?_, .inr (by simpa using HLO.out), ?_, ?_, ?_⟩, ?_⟩
          · have hs := HS.out
            rw [← HD.out] at hs
            rw [nv_append, HK.out, take_split', take_split', HXX.out, HYY.out, bp_succ]
            simpa [nv] using hs
          · by_cases e1 : k + 1 ≤ (nd A).length
            · exact .inl e1
            · by_cases e2 : k + 1 ≤ (nd B).length
              · exact .inr (.inl e2)
              · have := HXX.out
                rw [getD_ge (by omega)] at this
                have := HYY.out
                rw [getD_ge (by omega)] at this
                exact .inr (.inr (by omega))
          · unfold Own
            rw [List.length_append, List.map_append]
            exact hown2
          · exact Gr.grown (by repeat' (first | (with_reducible exact Gr.refl _) | (with_reducible assumption) | (with_reducible refine Gr.drewN ?_ _) | (with_reducible refine Gr.drew ?_) | (with_reducible refine Gr.alloc ?_ _) | (with_reducible refine Gr.setCell ?_ ?_ _) | (with_reducible refine Gr.grow ?_ _ _) | (refine Gr.step ?_ (by with_reducible assumption)) | go_size)) hgrow (fun k hk => (hown.lt k hk).1)
          · have := hk3
            simp only [intOf]; omega
        · have hc0 : c = 0 := by omega
          have d3 : decide (0 < c) = false := by simpa using c3
          have hn : nv l = A + B := by
            have := HV.out
            rw [List.take_of_length_le (by omega), List.take_of_length_le (by omega), nv_nd, nv_nd, hc0] at this
            omega
          have hl : l = nd (A + B) := by
            rw [← hn]
            refine nd_of hLl ?_
            rw [hlen, hn]
            rcases HL.out with h | h
            · exact .inl (List.length_eq_zero_iff.1 (by omega))
            · exact .inr h
          have hfit := num_fit (W := w) (hl ▸ hown.rd) hgr
          have HF := Lib.hid hfit
          clear hl hn hfit hown hlen hc0 c3 c1 c2 hc1 hk3
          go_wp2_with fail
          refine HF.out.mono ?_
          rintro e w' ⟨v, er, rfl, hres, hg⟩
          go_wp2_with fail
          go_ret2
          exact ⟨v, er, rfl, hres, hg⟩
end Go.Proofs.YtikkobmccagdlaaGreatDoor
