/- Several texts in one. -/
import Derived.Test.YtjpjnbgfodlkcaaGreatDoorGAB
import Derived.WalkKit
import Derived.WalkSpells
import Derived.WalkLawsBesides
import Derived.WalkSmall
import Derived.Handy
import Derived.BigQuiet
import Derived.Deep.QuietTactic
import Derived.Deep.RegionHeld3
import Derived.Deep.DeepFit
import Derived.Below
import Derived.Lib.Hide
import Derived.Lib.QuietBelow
import Derived.Deep.DeepCutAuto
import Derived.Test.YtjpjnbgfodlkcaaGreatDoorGAJ
import Derived.Test.YtjpjnbgfodlkcaaGreatDoorGAD
import Derived.Test.YtjpjnbgfodlkcaaGreatDoorGAF
import Derived.Test.YtjpjnbgfodlkcaaGreatDoorGAC
import Derived.Test.YtjpjnbgfodlkcaaGreatDoorGAQ
import Derived.Test.YtjpjnbgfodlkcaaGreatDoorGAI
/- Word. -/
namespace Go.Proofs.YtjpjnbgfodlkcaaGreatDoor
open Go Go.RowKit Go.Sort
set_option maxRecDepth 100000
set_option linter.unusedVariables false
/-- what the loop of Word keeps -/
def WdRel (w : World) (X : Nat) (s v : Value) (wr : World) : Prop :=
  ∃ (r : Nat) (l : List Nat), s = .int .u64 r ∧ r ≤ X ∧ nd X = l ++ nd r ∧ Own wr w.heap.size v l ∧ Gr w wr
set_option maxHeartbeats 1000000 in
theorem word_any (X : Nat) (w : World) (hX : X < 9223372036854775808) :
    Calls Tryz.prog 82 #[.int .u64 (X : Nat)] w fun e w' => ∃ v, e = .returned v ∧ Num w' v X ∧ Gr w w' := by
  have hXl : (nd X).length ≤ 3 := (nd_len X 3).2 (by omega)
  go_enter Tryz.func82, Tryz.ntmps82
  go_wp2_with fail
  go_loopw [0, 3] (fun s v wr => WdRel w X s v wr) (fun s _ _ => (intOf s).toNat)
  case atStart => exact ⟨X, [], rfl, Nat.le_refl _, rfl, Own.nil _ _, Gr.refl _⟩
  case round =>
    obtain ⟨r, l, rfl, hr, hnd, hown, hgr⟩ := hrel
    by_cases h0 : 0 < r
    · have hnd2 := hnd
      rw [nd_pos h0] at hnd2
      have hll : l.length ≤ 3 := by rw [hnd] at hXl; simp at hXl; omega
      have r0 : (0 : Int) < (r : Int) := by omega
      have d0 : decide (0 < r) = true := by simpa using h0
      have r1 : (r : Int) < 9223372036854775808 := by omega
      obtain ⟨d, hd⟩ : ∃ d : Nat, d = r % 1073741824 := ⟨_, rfl⟩
      obtain ⟨q, hq⟩ : ∃ q : Nat, q = r / 1073741824 := ⟨_, rfl⟩
      rw [← hd, ← hq] at hnd2
      have e1 : (r : Int) % 1073741824 = (d : Int) := by omega
      have e2 : (r : Int) / 1073741824 = (q : Int) := by omega
      have d1 : (d : Int) < 1073741824 := by omega
      have q1 : q < r := by omega
      have HND := Lib.hid hnd2
      have HR0 := Lib.hid hr
      have hown0 := Lib.hid hown
      obtain ⟨ti, hi1, hi2, hi3, hi4⟩ := intInfo
      unfold Own at hown
      clear hnd hnd2 hd hq hr
      go_wp2_with (at_builtin; refine wpList_append_own_at _ rfl _ _ 24 rfl w.heap.size 3 ti (.int .i64 0) 1 8 Tryz.underlying24 hi1 hi2 hi3 hi4 rfl (by decide) _ _ _ rfl (hown.alloc _) ⟨wr.heap.size, 0, none⟩ 1 1 [.int .i64 d] rfl rfl (cell_one_new _ _ _) (by simp [Value.oneCell']) (by unfold maxLen; omega) (by omega) (by have := Gr.size hgr; simp; omega) ?_; intro v' w2 hown2 hgrow hnil hloc)
      clear hnil hloc
      refine ⟨⟨q, l ++ [d], rfl, by have := HR0.out; omega, by rw [HND.out]; simp, ?_, ?_⟩, ?_⟩
      · unfold Own
        rw [List.length_append, List.map_append]
        exact hown2
      · exact Gr.grown (by repeat' (first | (with_reducible exact Gr.refl _) | (with_reducible assumption) | (with_reducible refine Gr.drewN ?_ _) | (with_reducible refine Gr.drew ?_) | (with_reducible refine Gr.alloc ?_ _) | (with_reducible refine Gr.setCell ?_ ?_ _) | (with_reducible refine Gr.grow ?_ _ _) | (refine Gr.step ?_ (by with_reducible assumption)) | go_size)) hgrow (fun k hk => (hown.lt k hk).1)
      · simp only [intOf]; omega
    · obtain rfl : r = 0 := by omega
      rw [nd_zero, List.append_nil] at hnd
      have HN := Lib.hid hnd
      have HO := Lib.hid hown
      clear hnd hown
      go_wp2_with fail
      go_ret
      exact ⟨_, rfl, HO.out.num HN.out.symm, hgr⟩
theorem word_int (x : Int) (X : Nat) (w : World) (hx : x = X) (hX : X < 9223372036854775808) :
    Calls Tryz.prog 82 #[.int .u64 x] w fun e w' => ∃ v, e = .returned v ∧ Num w' v X ∧ Gr w w' := by
  subst hx; exact word_any X w hX
end Go.Proofs.YtjpjnbgfodlkcaaGreatDoor
/- The document's Limited, Add, Sub, Mul, DivMod, From. -/
namespace Go.Proofs.YtjpjnbgfodlkcaaGreatDoor
open Go Go.RowKit Go.Sort
set_option maxRecDepth 100000
set_option linter.unusedVariables false
theorem limited_any {N : Nat} (v : Value) (w : World) (h : Num w v N) (hl : (nd N).length ≤ 100000) :
    Calls Tryz.prog 96 #[v] w (Res w N) := by
  have h0 := h
  obtain ⟨a, cap, rfl⟩ := num_slice h
  clear h
  by_cases hn : (nd N).length ≤ 256
  · have d1 : decide ((256 : Int) < ((nd N).length : Int)) = false := by rw [decide_eq_false_iff_not]; omega
    have H := Lib.hid h0
    have HN := Lib.hid hn
    clear h0 hn hl
    go_enter Tryz.func96, Tryz.ntmps96
    go_wp2_with fail
    go_ret2
    exact ⟨_, 0, rfl, .inl ⟨HN.out, rfl, H.out⟩, Gr.refl _⟩
  · have d1 : decide ((256 : Int) < ((nd N).length : Int)) = true := by rw [decide_eq_true_eq]; omega
    have HN := Lib.hid hn
    clear h0 hn hl
    go_enter Tryz.func96, Tryz.ntmps96
    go_wp2_with fail
    go_ret2
    exact ⟨_, 5, rfl, .inr ⟨by have := HN.out; omega, rfl, rfl⟩, Gr.refl _⟩
end Go.Proofs.YtjpjnbgfodlkcaaGreatDoor
/- The document's Int. -/
namespace Go.Proofs.YtjpjnbgfodlkcaaGreatDoor
open Go Go.RowKit Go.Sort
set_option maxRecDepth 100000
set_option linter.unusedVariables false
set_option maxHeartbeats 1000000 in
theorem rint_any {N : Nat} (v : Value) (w : World) (h : Num w v N) (hN : (nd N).length ≤ 4000) :
    Calls Tryz.prog 52 #[v] w (IntRes w N) := by
  obtain ⟨a, c, rfl⟩ := num_slice h
  have HN := Lib.hid h
  clear h
  go_enter Tryz.func52, Tryz.ntmps52
  go_wp2_with fail
  refine (word_int 4611686018427387904 4611686018427387904 w rfl (by omega)).mono ?_
  rintro e w1 ⟨v, rfl, hv, hg⟩
  obtain ⟨av, cv, rfl⟩ := num_slice hv
  have HV := Lib.hid hv
  have HN1 := Lib.hid (HN.out.gr hg)
  clear hv
  have l62 : (nd 4611686018427387904).length ≤ 3 := (nd_len 4611686018427387904 3).2 (by omega)
  go_wp2_with fail
  refine (rcmp_nat _ _ _ HN1.out HV.out (by omega) (by omega)).mono ?_
  rintro e w2 ⟨rfl, hg2⟩
  have hG := hg.step hg2
  have HN2 := Lib.hid (HN1.out.gr hg2)
  clear hg hg2 HN HN1 HV
  by_cases hle : N ≤ 4611686018427387904
  · have d : decide (0 < ncmp N 4611686018427387904) = false := by
      rw [decide_eq_false_iff_not]
      rcases Nat.eq_or_lt_of_le hle with h | h
      · rw [h, ncmp_eq]; omega
      · rw [ncmp_lt h]; omega
    have HLE := Lib.hid hle
    clear hle
    generalize ncmp N 4611686018427387904 = q at *
    go_wp2_with fail
    go_loopw [4, 5] (fun sv s wr => ∃ k : Nat, s = .int .i64 ((k : Int) - 1) ∧ sv = .int .i64 (nv ((nd N).drop k) : Nat) ∧ k ≤ (nd N).length ∧ Gr w2 wr) (fun _ s _ => (intOf s + 1).toNat)
    case atStart => exact ⟨(nd N).length, rfl, by rw [List.drop_length]; rfl, Nat.le_refl _, Gr.refl _⟩
    case round =>
      obtain ⟨k, rfl, rfl, hk, hgr⟩ := hrel
      by_cases hk0 : 0 < k
      · obtain ⟨j, rfl⟩ : ∃ j, k = j + 1 := ⟨k - 1, by omega⟩
        have hlt : j < (nd N).length := by omega
        have hd := nv_drop hlt
        have hub : nv ((nd N).drop j) ≤ N := by
          have := nv_take_drop (nd N) j (by omega)
          rw [nv_nd] at this
          have h1 : 1 * nv ((nd N).drop j) ≤ 1073741824 ^ j * nv ((nd N).drop j) := Nat.mul_le_mul_right _ (Nat.pos_of_ne_zero (by simp))
          omega
        have hle := HLE.out
        obtain ⟨b, off, rfl, -, hc⟩ := (HN2.out.gr hgr).at' hlt
        rw [hd] at hub
        have HD := Lib.hid hd
        have hj : ((j + 1 : Nat) : Int) - 1 = (j : Int) := by omega
        rw [hj]
        generalize (nd N).getD j 0 = x at *
        generalize nv ((nd N).drop (j + 1)) = s at *
        have j0 : (0 : Int) ≤ (j : Int) := by omega
        have j1 : (j : Int) < ((nd N).length : Int) := by omega
        have s0 : (0 : Int) ≤ (s : Int) := by omega
        have s1 : (s : Int) * 1073741824 + (x : Int) ≤ 4611686018427387904 := by omega
        have x0 : (0 : Int) ≤ (x : Int) := by omega
        have m1 : IntKind.i64.wrap ((s : Int) * 1073741824) = (s : Int) * 1073741824 := IntWalk.i64_in _ (by omega)
        have m2 : IntKind.i64.wrap ((s : Int) * 1073741824 + (x : Int)) = (s : Int) * 1073741824 + (x : Int) := IntWalk.i64_in _ (by omega)
        clear hd hub hle hj hk0 hN
        go_wp2_with fail
        have l3 : (nd N).length ≤ 3 := (nd_len N 3).2 (by have := HLE.out; omega)
        have m3 : wrap64 ((j : Int) - 1) = (j : Int) - 1 := IntWalk.wrap64_in _ ⟨by omega, by omega⟩
        rw [m3]
        exact ⟨⟨j, rfl, by rw [HD.out]; congr 1; omega, by omega, hgr⟩, by simp only [intOf]; omega⟩
      · obtain rfl : k = 0 := by omega
        have e0 : nv ((nd N).drop 0) = N := by rw [List.drop_zero, nv_nd]
        rw [e0]
        clear hk0
        go_wp2_with fail
        go_ret2
        have := HLE.out
        exact ⟨_, 0, rfl, .inl ⟨HLE.out, rfl, rfl⟩, by omega, by omega, hG.step hgr⟩
  · have d : decide (0 < ncmp N 4611686018427387904) = true := by rw [ncmp_gt (by omega)]; rfl
    have HGT := Lib.hid hle
    clear hle
    generalize ncmp N 4611686018427387904 = q at *
    go_wp2_with fail
    go_ret2
    exact ⟨_, 1, rfl, .inr ⟨by have := HGT.out; omega, rfl, rfl⟩, by omega, by omega, hG⟩
end Go.Proofs.YtjpjnbgfodlkcaaGreatDoor
/- The document's Plus over any lists of limbs. -/
namespace Go.Proofs.YtjpjnbgfodlkcaaGreatDoor
open Go Go.RowKit Go.Sort
set_option maxRecDepth 100000
set_option linter.unusedVariables false
def PlRelL (w : World) (la lb : List Nat) (v cv s : Value) (wr : World) : Prop :=
  ∃ (k c : Nat) (l : List Nat), s = .int .i64 k ∧ cv = .int .i64 c ∧ c ≤ 1 ∧ l.length = k ∧ Lim l ∧ nv l + c * 1073741824 ^ k = nv (la.take k) + nv (lb.take k) ∧
    (k ≤ la.length ∨ k ≤ lb.length ∨ c = 0) ∧ Own wr w.heap.size v l ∧ Gr w wr
/-- limbs of the call's own -/
def OneLim (w : World) (N : Nat) (e : Ending) (w' : World) : Prop := ∃ (v : Value) (l : List Nat), e = .returned v ∧ Rd (fun b => w.heap.size ≤ b) w' v l ∧ Lim l ∧ nv l = N ∧ Gr w w'
set_option maxHeartbeats 1000000 in
theorem plus_lim {p q : Nat → Prop} {la lb : List Nat} (va vb : Value) (w : World) (hA : Rd p w va la) (hB : Rd q w vb lb) (hLa : Lim la) (hLb : Lim lb) (lA : la.length ≤ 10000) (lB : lb.length ≤ 10000) :
    Calls Tryz.prog 51 #[va, vb] w (OneLim w (nv la + nv lb)) := by
  have hA0 := hA
  have hB0 := hB
  obtain ⟨aa, acap, rfl, -, -, -⟩ := hA
  obtain ⟨ab, bcap, rfl, -, -, -⟩ := hB
  have hA := Lib.hid hA0
  have hB := Lib.hid hB0
  clear hA0 hB0
  go_enter Tryz.func51, Tryz.ntmps51
  go_wp2_with fail
  go_loopw [5, 6, 7] (fun v cv s wr => PlRelL w la lb v cv s wr) (fun _ _ s _ => la.length + lb.length + 1 - (intOf s).toNat)
  case atStart => exact ⟨0, 0, [], rfl, rfl, by omega, rfl, lim_nil, by simp [nv], .inl (Nat.zero_le _), Own.nil _ _, Gr.refl _⟩
  case round =>
    obtain ⟨k, c, l, rfl, rfl, hc1, hlen, hLl, hv, hk3, hown, hgr⟩ := hrel
    have HV := Lib.hid hv
    clear hv
    by_cases c1 : k < la.length
    · have d1 : decide (k < la.length) = true := by simpa using c1
      have hC : k < la.length ∨ k < lb.length ∨ 0 < c := .inl c1
      have hx := lim_getD hLa k
      have hy := lim_getD hLb k
      have ca := rlimb_any k wr (hA.out.gr hgr)
      have cb := rlimb_any k wr (hB.out.gr hgr)
      have HS := Lib.hid (add_step (x := la.getD k 0) (y := lb.getD k 0) HV.out)
      generalize hxx : la.getD k 0 = x at ca hx HS
      generalize hyy : lb.getD k 0 = y at cb hy HS
      have HXX := Lib.hid hxx
      have HYY := Lib.hid hyy
      have x1 : (x : Int) < 1073741824 := by omega
      have y1 : (y : Int) < 1073741824 := by omega
      have c2 : (c : Int) ≤ 1 := by omega
      obtain ⟨d, hd⟩ : ∃ d : Nat, d = (c + (x + y)) % 1073741824 := ⟨_, rfl⟩
      obtain ⟨q, hq⟩ : ∃ q : Nat, q = (c + (x + y)) / 1073741824 := ⟨_, rfl⟩
      have hd0 : ((x : Int) + (y : Int) + (c : Int)) % 1073741824 = (d : Int) := by omega
      have hq0 : ((x : Int) + (y : Int) + (c : Int)) / 1073741824 = (q : Int) := by omega
      have HD := Lib.hid hd
      have HQ := Lib.hid hq
      have CA := Lib.hid ca
      have CB := Lib.hid cb
      have HK := Lib.hid hlen
      obtain ⟨ti, hi1, hi2, hi3, hi4⟩ := intInfo
      have hown0 := hown
      unfold Own at hown
      have kz : l.length ≤ 1000000 := by have := hlen; have := hk3; omega
      clear hxx hyy hd hq ca cb hlen
      go_wp2_with fail
      refine CA.out.mono ?_
      rintro e w' ⟨rfl, rfl⟩
      go_wp2_with fail
      refine CB.out.mono ?_
      rintro e w' ⟨rfl, rfl⟩
      go_wp2_with (at_builtin; refine wpList_append_own_at _ rfl _ _ 24 rfl w.heap.size 3 ti (.int .i64 0) 1 8 Tryz.underlying24 hi1 hi2 hi3 hi4 rfl (by decide) _ _ _ rfl (hown.alloc _) ⟨wr.heap.size, 0, none⟩ 1 1 [.int .i64 d] rfl rfl (cell_one_new _ _ _) (by simp [Value.oneCell']) (by unfold maxLen; omega) (by omega) (by have := Gr.size hgr; simp; omega) ?_; intro v' w2 hown2 hgrow hnil hloc)
      clear hnil hloc
      refine ⟨⟨k + 1, q, l ++ [d], by go_num, iv hq0, by have := HQ.out; omega, by simp [HK.out], lim_append.2 ⟨hLl, lim_cons.2 ⟨by rw [HD.out]; omega, lim_nil⟩⟩, ?_, ?_, ?_, ?_⟩, ?_⟩
      · have hs := HS.out
        rw [← HD.out, ← HQ.out] at hs
        rw [nv_append, HK.out, take_split', take_split', HXX.out, HYY.out, bp_succ]
        simpa [nv] using hs
      · by_cases e1 : k + 1 ≤ la.length
        · exact .inl e1
        · by_cases e2 : k + 1 ≤ lb.length
          · exact .inr (.inl e2)
          · have h1 := HXX.out
            rw [getD_ge (by omega)] at h1
            have h2 := HYY.out
            rw [getD_ge (by omega)] at h2
            have := HQ.out
            exact .inr (.inr (by omega))
      · unfold Own
        rw [List.length_append, List.map_append]
        exact hown2
      · exact Gr.grown (by repeat' (first | (with_reducible exact Gr.refl _) | (with_reducible assumption) | (with_reducible refine Gr.drewN ?_ _) | (with_reducible refine Gr.drew ?_) | (with_reducible refine Gr.alloc ?_ _) | (with_reducible refine Gr.setCell ?_ ?_ _) | (with_reducible refine Gr.grow ?_ _ _) | (refine Gr.step ?_ (by with_reducible assumption)) | go_size)) hgrow (fun k hk => (hown.lt k hk).1)
      · have := hk3
        simp only [intOf]; omega
    · have d1 : decide (k < la.length) = false := by simpa using c1
      by_cases c2 : k < lb.length
      · have d2 : decide (k < lb.length) = true := by simpa using c2
        have hC : k < la.length ∨ k < lb.length ∨ 0 < c := .inr (.inl c2)
        have hx := lim_getD hLa k
        have hy := lim_getD hLb k
        have ca := rlimb_any k wr (hA.out.gr hgr)
        have cb := rlimb_any k wr (hB.out.gr hgr)
        have HS := Lib.hid (add_step (x := la.getD k 0) (y := lb.getD k 0) HV.out)
        generalize hxx : la.getD k 0 = x at ca hx HS
        generalize hyy : lb.getD k 0 = y at cb hy HS
        have HXX := Lib.hid hxx
        have HYY := Lib.hid hyy
        have x1 : (x : Int) < 1073741824 := by omega
        have y1 : (y : Int) < 1073741824 := by omega
        have c2 : (c : Int) ≤ 1 := by omega
        obtain ⟨d, hd⟩ : ∃ d : Nat, d = (c + (x + y)) % 1073741824 := ⟨_, rfl⟩
        obtain ⟨q, hq⟩ : ∃ q : Nat, q = (c + (x + y)) / 1073741824 := ⟨_, rfl⟩
        have hd0 : ((x : Int) + (y : Int) + (c : Int)) % 1073741824 = (d : Int) := by omega
        have hq0 : ((x : Int) + (y : Int) + (c : Int)) / 1073741824 = (q : Int) := by omega
        have HD := Lib.hid hd
        have HQ := Lib.hid hq
        have CA := Lib.hid ca
        have CB := Lib.hid cb
        have HK := Lib.hid hlen
        obtain ⟨ti, hi1, hi2, hi3, hi4⟩ := intInfo
        have hown0 := hown
        unfold Own at hown
        have kz : l.length ≤ 1000000 := by have := hlen; have := hk3; omega
        clear hxx hyy hd hq ca cb hlen
        go_wp2_with fail
        refine CA.out.mono ?_
        rintro e w' ⟨rfl, rfl⟩
        go_wp2_with fail
        refine CB.out.mono ?_
        rintro e w' ⟨rfl, rfl⟩
        go_wp2_with (at_builtin; refine wpList_append_own_at _ rfl _ _ 24 rfl w.heap.size 3 ti (.int .i64 0) 1 8 Tryz.underlying24 hi1 hi2 hi3 hi4 rfl (by decide) _ _ _ rfl (hown.alloc _) ⟨wr.heap.size, 0, none⟩ 1 1 [.int .i64 d] rfl rfl (cell_one_new _ _ _) (by simp [Value.oneCell']) (by unfold maxLen; omega) (by omega) (by have := Gr.size hgr; simp; omega) ?_; intro v' w2 hown2 hgrow hnil hloc)
        clear hnil hloc
        refine ⟨⟨k + 1, q, l ++ [d], by go_num, iv hq0, by have := HQ.out; omega, by simp [HK.out], lim_append.2 ⟨hLl, lim_cons.2 ⟨by rw [HD.out]; omega, lim_nil⟩⟩, ?_, ?_, ?_, ?_⟩, ?_⟩
        · have hs := HS.out
          rw [← HD.out, ← HQ.out] at hs
          rw [nv_append, HK.out, take_split', take_split', HXX.out, HYY.out, bp_succ]
          simpa [nv] using hs
        · by_cases e1 : k + 1 ≤ la.length
          · exact .inl e1
          · by_cases e2 : k + 1 ≤ lb.length
            · exact .inr (.inl e2)
            · have h1 := HXX.out
              rw [getD_ge (by omega)] at h1
              have h2 := HYY.out
              rw [getD_ge (by omega)] at h2
              have := HQ.out
              exact .inr (.inr (by omega))
        · unfold Own
          rw [List.length_append, List.map_append]
          exact hown2
        · exact Gr.grown (by repeat' (first | (with_reducible exact Gr.refl _) | (with_reducible assumption) | (with_reducible refine Gr.drewN ?_ _) | (with_reducible refine Gr.drew ?_) | (with_reducible refine Gr.alloc ?_ _) | (with_reducible refine Gr.setCell ?_ ?_ _) | (with_reducible refine Gr.grow ?_ _ _) | (refine Gr.step ?_ (by with_reducible assumption)) | go_size)) hgrow (fun k hk => (hown.lt k hk).1)
        · have := hk3
          simp only [intOf]; omega
      · have d2 : decide (k < lb.length) = false := by simpa using c2
        by_cases c3 : 0 < c
        · have hC : k < la.length ∨ k < lb.length ∨ 0 < c := .inr (.inr c3)
          have d3 : decide (0 < c) = true := by simpa using c3
          have hx := lim_getD hLa k
          have hy := lim_getD hLb k
          have ca := rlimb_any k wr (hA.out.gr hgr)
          have cb := rlimb_any k wr (hB.out.gr hgr)
          have HS := Lib.hid (add_step (x := la.getD k 0) (y := lb.getD k 0) HV.out)
          generalize hxx : la.getD k 0 = x at ca hx HS
          generalize hyy : lb.getD k 0 = y at cb hy HS
          have HXX := Lib.hid hxx
          have HYY := Lib.hid hyy
          have x1 : (x : Int) < 1073741824 := by omega
          have y1 : (y : Int) < 1073741824 := by omega
          have c2 : (c : Int) ≤ 1 := by omega
          obtain ⟨d, hd⟩ : ∃ d : Nat, d = (c + (x + y)) % 1073741824 := ⟨_, rfl⟩
          obtain ⟨q, hq⟩ : ∃ q : Nat, q = (c + (x + y)) / 1073741824 := ⟨_, rfl⟩
          have hd0 : ((x : Int) + (y : Int) + (c : Int)) % 1073741824 = (d : Int) := by omega
          have hq0 : ((x : Int) + (y : Int) + (c : Int)) / 1073741824 = (q : Int) := by omega
          have HD := Lib.hid hd
          have HQ := Lib.hid hq
          have CA := Lib.hid ca
          have CB := Lib.hid cb
          have HK := Lib.hid hlen
          obtain ⟨ti, hi1, hi2, hi3, hi4⟩ := intInfo
          have hown0 := hown
          unfold Own at hown
          have kz : l.length ≤ 1000000 := by have := hlen; have := hk3; omega
          clear hxx hyy hd hq ca cb hlen
          go_wp2_with fail
          refine CA.out.mono ?_
          rintro e w' ⟨rfl, rfl⟩
          go_wp2_with fail
          refine CB.out.mono ?_
          rintro e w' ⟨rfl, rfl⟩
          go_wp2_with (at_builtin; refine wpList_append_own_at _ rfl _ _ 24 rfl w.heap.size 3 ti (.int .i64 0) 1 8 Tryz.underlying24 hi1 hi2 hi3 hi4 rfl (by decide) _ _ _ rfl (hown.alloc _) ⟨wr.heap.size, 0, none⟩ 1 1 [.int .i64 d] rfl rfl (cell_one_new _ _ _) (by simp [Value.oneCell']) (by unfold maxLen; omega) (by omega) (by have := Gr.size hgr; simp; omega) ?_; intro v' w2 hown2 hgrow hnil hloc)
          clear hnil hloc
          refine ⟨⟨k + 1, q, l ++ [d], by go_num, iv hq0, by have := HQ.out; omega, by simp [HK.out], lim_append.2 ⟨hLl, lim_cons.2 ⟨by rw [HD.out]; omega, lim_nil⟩⟩, ?_, ?_, ?_, ?_⟩, ?_⟩
          · have hs := HS.out
            rw [← HD.out, ← HQ.out] at hs
            rw [nv_append, HK.out, take_split', take_split', HXX.out, HYY.out, bp_succ]
            simpa [nv] using hs
          · by_cases e1 : k + 1 ≤ la.length
            · exact .inl e1
            · by_cases e2 : k + 1 ≤ lb.length
              · exact .inr (.inl e2)
              · have h1 := HXX.out
                rw [getD_ge (by omega)] at h1
                have h2 := HYY.out
                rw [getD_ge (by omega)] at h2
                have := HQ.out
                exact .inr (.inr (by omega))
          · unfold Own
            rw [List.length_append, List.map_append]
            exact hown2
          · exact Gr.grown (by repeat' (first | (with_reducible exact Gr.refl _) | (with_reducible assumption) | (with_reducible refine Gr.drewN ?_ _) | (with_reducible refine Gr.drew ?_) | (with_reducible refine Gr.alloc ?_ _) | (with_reducible refine Gr.setCell ?_ ?_ _) | (with_reducible refine Gr.grow ?_ _ _) | (refine Gr.step ?_ (by with_reducible assumption)) | go_size)) hgrow (fun k hk => (hown.lt k hk).1)
          · have := hk3
            simp only [intOf]; omega
        · have hc0 : c = 0 := by omega
          have d3 : decide (0 < c) = false := by simpa using c3
          have hn : nv l = nv la + nv lb := by
            have := HV.out
            rw [List.take_of_length_le (by omega), List.take_of_length_le (by omega), hc0] at this
            omega
          have HO := Lib.hid hown.rd
          have HN := Lib.hid hn
          have HLL := Lib.hid hLl
          clear hn hown hlen hc0 c3 c1 c2 hc1 hk3 hLl hLa hLb
          go_wp2_with fail
          go_ret
          exact ⟨_, _, rfl, HO.out, HLL.out, HN.out, hgr⟩
end Go.Proofs.YtjpjnbgfodlkcaaGreatDoor
