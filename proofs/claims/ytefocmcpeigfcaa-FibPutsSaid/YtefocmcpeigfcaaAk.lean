/- The program's Put and Remove. -/
import Derived.Test.YtefocmcpeigfcaaAi
import Derived.Test.YtefocmcpeigfcaaAj
import Derived.WalkKit
import Derived.WalkSpells
import Derived.WalkLawsBesides
import Derived.WalkSmall
import Derived.Handy
import Derived.BigQuiet
import Derived.Deep.QuietTactic
import Derived.Deep.RegionHeld3
import Derived.Deep.DeepFit
import Derived.Below
import Derived.Lib.Hide
import Derived.Lib.QuietBelow
import Derived.Deep.DeepCutAuto
namespace Go.Proofs.Ytefocmcpeigfcaa
open Go Go.RowKit Go.Sort
set_option maxRecDepth 100000
set_option linter.unusedVariables false
/-- where the part with a prefix ends -/
def endOf (l : List Rt) (a n : Int) (s : Nat) : Nat := s + (if isAt l a n s = true then 1 else 0)
theorem endOf_le {l : List Rt} {a n : Int} {s : Nat} (h : s ≤ l.length) : s ≤ endOf l a n s ∧ endOf l a n s ≤ l.length := by
  unfold endOf
  cases hq : isAt l a n s
  · simp; exact h
  · unfold isAt at hq
    split at hq
    · next r hr => have := (List.getElem?_eq_some_iff.1 hr).1; simp; omega
    · cases hq
theorem place_any {p : Nat → Prop} (v : Value) (l : List Rt) (a n : Int) (s e : Nat) (w : World) (h : Tb p w v l) (hl : l.length ≤ 1000) (hs : Cut l a n s) (he : e = endOf l a n s) :
    Calls Try.prog 34 #[v, .agg #[.int .u32 a, .int .i64 n]] w fun q w' => q = .returned (.tuple #[.int .i64 s, .int .i64 e]) ∧ Gr w w' := by
  subst he
  unfold endOf
  cases hq : isAt l a n s
  · exact place_no v l a n s w h hl hs hq
  · exact place_yes v l a n s w h hl hs hq
theorem Tb.take {p : Nat → Prop} {w : World} {a : Option Addr} {n cap : Nat} {l : List Rt} (h : Tb p w (.slice a n cap) l) {k : Nat} (hk : k ≤ l.length) : Tb p w (.slice a k cap) (l.take k) := by
  obtain ⟨ys, rfl, ⟨a', cap', e, hl, hc, hn, H⟩, hy⟩ := h
  cases e
  rw [List.length_map] at hk
  have e1 : (ys.take k).length = k := by rw [List.length_take]; omega
  refine ⟨ys.take k, by rw [List.map_take], ⟨a, cap, by rw [e1], by omega, hc, hn, fun i y hi => ?_⟩, fun y hm => hy y (List.mem_of_mem_take hm)⟩
  rw [List.getElem?_take] at hi
  split at hi
  · exact H i y hi
  · cases hi
theorem Tb.tail {p : Nat → Prop} {w : World} {b off n cap : Nat} {l : List Rt} (h : Tb p w (.slice (some ⟨b, off, none⟩) n cap) l) {k : Nat} (hk : k ≤ l.length) :
    Tb p w (.slice (if cap = k then some ⟨b, off, none⟩ else some ⟨b, off + k * 4, none⟩) (n - k) (cap - k)) (l.drop k) := by
  obtain ⟨ys, rfl, ⟨a', cap', e, hl, hc, hn, H⟩, hy⟩ := h
  cases e
  rw [List.length_map] at hk
  refine ⟨ys.drop k, by rw [List.map_drop], ⟨_, cap - k, by rw [List.length_drop], by rw [List.length_drop]; omega, by omega, (fun h => by split at h <;> cases h), fun i y hi => ?_⟩, fun y hm => hy y (List.mem_of_mem_drop hm)⟩
  rw [List.getElem?_drop] at hi
  have hi2 := (List.getElem?_eq_some_iff.1 hi).1
  rw [if_neg (by omega)]
  obtain ⟨b', off', e, hp, hcell⟩ := H (k + i) y hi
  cases e
  refine ⟨_, _, rfl, hp, ?_⟩
  rw [show off + k * 4 + i * 4 = off + (k + i) * 4 by omega]
  exact hcell
theorem Tb.one {p : Nat → Prop} {w : World} {g : Nat} {r : Rt} {nv : Value} (hc : RC w g 0 (r, nv)) (hp : p g) (hok : r.ok) (hn : Ri p w nv r.nx) : Tb p w (.slice (some ⟨g, 0, none⟩) 1 1) [r] :=
  ⟨[(r, nv)], rfl, ⟨_, 1, rfl, by simp, by omega, (fun h => by cases h), fun i y hi => by
    match i, hi with
    | 0, hi => cases hi; exact ⟨g, 0, rfl, hp, hc⟩⟩, fun y hy => by rw [List.mem_singleton] at hy; subst hy; exact ⟨hok, hn⟩⟩
theorem few_take {l : List Rt} (h : Few l) (k : Nat) : Few (l.take k) := ⟨by have := h.1; rw [List.length_take]; omega, fun r hr => h.2 r (List.mem_of_mem_take hr)⟩
theorem few_drop {l : List Rt} (h : Few l) (k : Nat) : Few (l.drop k) := ⟨by have := h.1; rw [List.length_drop]; omega, fun r hr => h.2 r (List.mem_of_mem_drop hr)⟩
theorem few_one {r : Rt} (h : r.nx.length ≤ 1000) : Few [r] := ⟨by simp, fun x hx => by rw [List.mem_singleton] at hx; subst hx; exact h⟩
set_option maxHeartbeats 2000000 in
/-- Put onto a table in memory -/
theorem put_some {p q : Nat → Prop} (b off n cap : Nat) (l : List Rt) (rv : Value) (r : Rt) (s e : Nat) (w : World) (h : Tb p w (.slice (some ⟨b, off, none⟩) n cap) l) (hf : Few l) (hrv : Rv q w rv r) (hrn : r.nx.length ≤ 1000) (hs : Cut l r.a r.n s) (he : e = endOf l r.a r.n s) :
    Calls Try.prog 19 #[.slice (some ⟨b, off, none⟩) n cap, rv] w (TabPost [l.take s, [r], l.drop e].flatten w) := by
  obtain ⟨rn, rfl, hrk, hri⟩ := hrv
  obtain ⟨ad2, cp2, rfl⟩ := hri.form
  have hn : n = l.length := by obtain ⟨_, _, e, _⟩ := h.form; cases e; rfl
  have hcap : n ≤ cap ∧ cap ≤ 9223372036854775807 := by obtain ⟨_, _, e, h1, h2⟩ := h.form; cases e; rw [hn]; exact ⟨h1, h2⟩
  have hse := endOf_le (a := r.a) (n := r.n) hs.1
  rw [← he] at hse
  have hl := hf.1
  have HT := Lib.hid h
  have HF := Lib.hid hf
  have HS := Lib.hid hs
  have HE := Lib.hid he
  have HRK := Lib.hid hrk
  have HRI := Lib.hid hri
  have HRN := Lib.hid hrn
  have hsl := hs.1
  rw [← hn] at hse hl hsl
  have HN := Lib.hid hn
  generalize hrl : r.nx.length = rl at *
  unfold rtv
  dsimp only
  clear h hf hs he hrk hri hrn hn
  go_enter Try.func19, Try.ntmps19
  go_wp2_with fail
  have hGa : Gr w (w.alloc (.cells #[.int .u32 r.a, .int .i64 r.n, .slice ad2 rl cp2, .int .i64 r.bal] 34)) := (Gr.refl _).alloc _
  have k1 : CL (w.alloc (.cells #[.int .u32 r.a, .int .i64 r.n, .slice ad2 rl cp2, .int .i64 r.bal] 34)) w.heap.size [.int .u32 r.a, .int .i64 r.n, .slice ad2 rl cp2, .int .i64 r.bal] := CL.new _ _ _ _ rfl
  generalize w.alloc (.cells #[.int .u32 r.a, .int .i64 r.n, .slice ad2 rl cp2, .int .i64 r.bal] 34) = wa at *
  refine (place_any _ l r.a r.n s e wa (HT.out.gr hGa) (by rw [← HN.out]; exact hl) HS.out HE.out).mono ?_
  rintro q w1 ⟨rfl, hg1⟩
  have HC := Lib.hid (k1.gr hg1)
  have hG1 : Gr w w1 := hGa.step hg1
  clear k1 hGa hg1
  have hd1 : decide (e ≤ n) = true := decide_eq_true hse.2
  have hd2 : decide (s ≤ cap) = true := decide_eq_true (by omega)
  go_wp2_with fail
  have hS : Gr w1 w1.drew := Gr.drew (Gr.refl _)
  refine region_plain (Gr w1) (by kernel_rfl) ?_
  refine take_at 0 (some 14) (v := ?va0) rfl rfl (by kernel_rfl) (by kernel_rfl) (by kernel_rfl) (by rfl) ?ya0 hS ?ta0
  case ya0 =>
    intro w' hSw
    skip
    go_simp
    (try rw [if_pos (by omega)])
    (try with_reducible rfl)
  simp only [Act.put, List.setIfInBounds_toArray, List.set_cons_zero, List.set_cons_succ]
  refine take_at 1 (some 15) (v := ?va1) rfl rfl (by kernel_rfl) (by kernel_rfl) (by kernel_rfl) (by rfl) ?ya1 hS ?ta1
  case ya1 =>
    intro w' hSw
    skip
    go_simp
    (try rw [if_pos (by omega)])
    (try with_reducible rfl)
  simp only [Act.put, List.setIfInBounds_toArray, List.set_cons_zero, List.set_cons_succ]
  refine take_at 2 (some 16) (v := ?va2) rfl rfl (by kernel_rfl) (by kernel_rfl) (by kernel_rfl) (by rfl) ?ya2 hS ?ta2
  case ya2 =>
    intro w' hSw
    skip
    go_simp
    (try rw [if_pos (by omega)])
    (try with_reducible rfl)
  simp only [Act.put, List.setIfInBounds_toArray, List.set_cons_zero, List.set_cons_succ]
  refine take_at 3 (some 17) (v := ?va3) rfl rfl (by kernel_rfl) (by kernel_rfl) (by kernel_rfl) (by rfl) ?ya3 hS ?ta3
  case ya3 =>
    intro w' hSw
    obtain ⟨⟨a0, a1, a2, a3⟩, -⟩ := (HC.out.gr hSw).four
    go_simp
    (try rw [if_pos (by omega)])
    (try with_reducible rfl)
  simp only [Act.put, List.setIfInBounds_toArray, List.set_cons_zero, List.set_cons_succ]
  refine take_at 5 (some 19) (v := ?va5) rfl rfl (by kernel_rfl) (by kernel_rfl) (by kernel_rfl) (by rfl) ?ya5 hS ?ta5
  case ya5 =>
    intro w' hSw
    skip
    go_simp
    (try rw [if_pos (by omega)])
    (try with_reducible rfl)
  simp only [Act.put, List.setIfInBounds_toArray, List.set_cons_zero, List.set_cons_succ]
  refine take_at 6 (some 20) (v := ?va6) rfl rfl (by kernel_rfl) (by kernel_rfl) (by kernel_rfl) (by rfl) ?ya6 hS ?ta6
  case ya6 =>
    intro w' hSw
    skip
    go_simp
    (try rw [if_pos (by omega)])
    (try with_reducible rfl)
  simp only [Act.put, List.setIfInBounds_toArray, List.set_cons_zero, List.set_cons_succ]
  refine take_at 7 (some 21) (v := ?va7) rfl rfl (by kernel_rfl) (by kernel_rfl) (by kernel_rfl) (by rfl) ?ya7 hS ?ta7
  case ya7 =>
    intro w' hSw
    skip
    go_simp
    (try rw [if_pos (by omega)])
    (try with_reducible rfl)
  simp only [Act.put, List.setIfInBounds_toArray, List.set_cons_zero, List.set_cons_succ]
  have HA := Lib.hid (HT.out.take (k := s) (by rw [← HN.out]; exact hsl))
  have HZ := Lib.hid (HT.out.tail (k := e) (by rw [← HN.out]; exact hse.2))
  generalize (if cap = e then some (⟨b, off, none⟩ : Addr) else some ⟨b, off + e * 4, none⟩) = aq at HZ ⊢
  refine next_at 4 rfl (by kernel_rfl) (by rfl) (fun K hK => ?_)
  go_simp
  have hS2 := hS.alloc (.cells #[.int .u32 r.a, .int .i64 r.n, .slice ad2 rl cp2, .int .i64 r.bal] 34)
  refine hK _ _ hS2 ?_
  clear hK K
  refine next_at 8 rfl (by kernel_rfl) (by rfl) (fun K hK => ?_)
  go_simp
  have hS8 : Gr w1 ((w1.alloc (.cells #[.int .u32 r.a, .int .i64 r.n, .slice ad2 rl cp2, .int .i64 r.bal] 34)).alloc (.cells #[.slice (some ⟨b, off, none⟩) s cap, .slice (some ⟨w1.heap.size, 0, none⟩) 1 1, .slice aq (n - e) (cap - e)] 23)).drew := (((Gr.refl _).alloc _).alloc _).drew
  have HO : Tb (fun _ => True) ((w1.alloc (.cells #[.int .u32 r.a, .int .i64 r.n, .slice ad2 rl cp2, .int .i64 r.bal] 34)).alloc (.cells #[.slice (some ⟨b, off, none⟩) s cap, .slice (some ⟨w1.heap.size, 0, none⟩) 1 1, .slice aq (n - e) (cap - e)] 23)).drew (.slice (some ⟨w1.heap.size, 0, none⟩) 1 1) [r] :=
    (Tb.one (p := fun _ => True) (rc_new w1 r (.slice ad2 rl cp2) 34) trivial HRK.out ((HRI.out.gr (hG1.alloc _)).imp fun _ _ _ => trivial)).gr ((Gr.refl _).alloc _).drew
  have HPT : Pt (fun _ => True) ((w1.alloc (.cells #[.int .u32 r.a, .int .i64 r.n, .slice ad2 rl cp2, .int .i64 r.bal] 34)).alloc (.cells #[.slice (some ⟨b, off, none⟩) s cap, .slice (some ⟨w1.heap.size, 0, none⟩) 1 1, .slice aq (n - e) (cap - e)] 23)).drew (.slice (some ⟨w1.heap.size + 1, 0, none⟩) 3 3) [l.take s, [r], l.drop e] := by
    refine ⟨w1.heap.size + 1, 0, 3, rfl, by simp, fun i x hi => ?_⟩
    match i, hi with
    | 0, hi => cases hi; exact ⟨_, by simp, (HA.out.gr (hG1.step hS8)).any⟩
    | 1, hi => cases hi; exact ⟨_, by simp, HO⟩
    | 2, hi => cases hi; exact ⟨_, by simp, (HZ.out.gr (hG1.step hS8)).any⟩
  have HP := Lib.hid HPT
  clear HO HPT
  refine hK _ _ hS8 ?_
  clear hK K
  generalize ((w1.alloc (.cells #[.int .u32 r.a, .int .i64 r.n, .slice ad2 rl cp2, .int .i64 r.bal] 34)).alloc (.cells #[.slice (some ⟨b, off, none⟩) s cap, .slice (some ⟨w1.heap.size, 0, none⟩) 1 1, .slice aq (n - e) (cap - e)] 23)).drew = w8 at *
  refine next_at 9 rfl (by kernel_rfl) (by rfl) (fun K hK => ?_)
  go_simp
  refine (joined_any _ _ _ HP.out (by intro x hx; simp only [List.mem_cons, List.not_mem_nil, or_false] at hx; rcases hx with rfl | rfl | rfl <;> first | exact few_take HF.out _ | exact few_drop HF.out _ | exact few_one (by rw [hrl]; exact HRN.out) | exact ⟨by simp, fun r hr => by cases hr⟩) (by simp)).mono ?_
  rintro q w9 ⟨v9, rfl, ho9, hg9⟩
  have hGF : Gr w w9 := hG1.step (hS8.step hg9)
  refine hK _ _ (hS8.step hg9) ?_
  clear hK K
  refine next_at 10 rfl (by kernel_rfl) (by rfl) (fun K hK => ?_)
  go_simp
  refine hK _ _ (hS8.step hg9) ?_
  clear hK K
  refine wpAnyH_done (by kernel_rfl) ?_ _
  refine qz_normal ?_
  have H9 := Lib.hid (ho9.weak (Gr.size (hG1.step hS8)))
  clear ho9
  go_wp2_with fail
  go_ret
  exact ⟨_, rfl, H9.out, hGF⟩
set_option maxHeartbeats 2000000 in
/-- Put onto no table -/
theorem put_nil {p q : Nat → Prop} (l : List Rt) (rv : Value) (r : Rt) (s e : Nat) (w : World) (h : Tb p w (.slice none 0 0) l) (hf : Few l) (hrv : Rv q w rv r) (hrn : r.nx.length ≤ 1000) (hs : Cut l r.a r.n s) (he : e = endOf l r.a r.n s) :
    Calls Try.prog 19 #[.slice none 0 0, rv] w (TabPost [l.take s, [r], l.drop e].flatten w) := by
  obtain ⟨rn, rfl, hrk, hri⟩ := hrv
  obtain ⟨ad2, cp2, rfl⟩ := hri.form
  have hn : 0 = l.length := by obtain ⟨_, _, e, _⟩ := h.form; simp only [Value.slice.injEq] at e; exact e.2.1
  have hse := endOf_le (a := r.a) (n := r.n) hs.1
  rw [← he] at hse
  have hl := hf.1
  have HT := Lib.hid h
  have HF := Lib.hid hf
  have HS := Lib.hid hs
  have HE := Lib.hid he
  have HRK := Lib.hid hrk
  have HRI := Lib.hid hri
  have HRN := Lib.hid hrn
  have hsl := hs.1
  rw [← hn] at hse hl hsl
  have HN := Lib.hid hn
  generalize hrl : r.nx.length = rl at *
  unfold rtv
  dsimp only
  clear h hf hs he hrk hri hrn hn
  obtain rfl : s = 0 := by omega
  obtain rfl : e = 0 := by omega
  go_enter Try.func19, Try.ntmps19
  go_wp2_with fail
  have hGa : Gr w (w.alloc (.cells #[.int .u32 r.a, .int .i64 r.n, .slice ad2 rl cp2, .int .i64 r.bal] 34)) := (Gr.refl _).alloc _
  have k1 : CL (w.alloc (.cells #[.int .u32 r.a, .int .i64 r.n, .slice ad2 rl cp2, .int .i64 r.bal] 34)) w.heap.size [.int .u32 r.a, .int .i64 r.n, .slice ad2 rl cp2, .int .i64 r.bal] := CL.new _ _ _ _ rfl
  generalize w.alloc (.cells #[.int .u32 r.a, .int .i64 r.n, .slice ad2 rl cp2, .int .i64 r.bal] 34) = wa at *
  refine (place_any _ l r.a r.n 0 0 wa (HT.out.gr hGa) (by rw [← HN.out]; exact hl) HS.out HE.out).mono ?_
  rintro q w1 ⟨rfl, hg1⟩
  have HC := Lib.hid (k1.gr hg1)
  have hG1 : Gr w w1 := hGa.step hg1
  clear k1 hGa hg1
  go_wp2_with fail
  have hS : Gr w1 w1.drew := Gr.drew (Gr.refl _)
  refine region_plain (Gr w1) (by kernel_rfl) ?_
  refine take_at 0 (some 14) (v := ?va0) rfl rfl (by kernel_rfl) (by kernel_rfl) (by kernel_rfl) (by rfl) ?ya0 hS ?ta0
  case ya0 =>
    intro w' hSw
    skip
    go_simp
    (try rw [if_pos (by omega)])
    (try with_reducible rfl)
  simp only [Act.put, List.setIfInBounds_toArray, List.set_cons_zero, List.set_cons_succ]
  refine take_at 1 (some 15) (v := ?va1) rfl rfl (by kernel_rfl) (by kernel_rfl) (by kernel_rfl) (by rfl) ?ya1 hS ?ta1
  case ya1 =>
    intro w' hSw
    skip
    go_simp
    (try rw [if_pos (by omega)])
    (try with_reducible rfl)
  simp only [Act.put, List.setIfInBounds_toArray, List.set_cons_zero, List.set_cons_succ]
  refine take_at 2 (some 16) (v := ?va2) rfl rfl (by kernel_rfl) (by kernel_rfl) (by kernel_rfl) (by rfl) ?ya2 hS ?ta2
  case ya2 =>
    intro w' hSw
    skip
    go_simp
    (try rw [if_pos (by omega)])
    (try with_reducible rfl)
  simp only [Act.put, List.setIfInBounds_toArray, List.set_cons_zero, List.set_cons_succ]
  refine take_at 3 (some 17) (v := ?va3) rfl rfl (by kernel_rfl) (by kernel_rfl) (by kernel_rfl) (by rfl) ?ya3 hS ?ta3
  case ya3 =>
    intro w' hSw
    obtain ⟨⟨a0, a1, a2, a3⟩, -⟩ := (HC.out.gr hSw).four
    go_simp
    (try rw [if_pos (by omega)])
    (try with_reducible rfl)
  simp only [Act.put, List.setIfInBounds_toArray, List.set_cons_zero, List.set_cons_succ]
  refine take_at 5 (some 19) (v := ?va5) rfl rfl (by kernel_rfl) (by kernel_rfl) (by kernel_rfl) (by rfl) ?ya5 hS ?ta5
  case ya5 =>
    intro w' hSw
    skip
    go_simp
    (try rw [if_pos (by omega)])
    (try with_reducible rfl)
  simp only [Act.put, List.setIfInBounds_toArray, List.set_cons_zero, List.set_cons_succ]
  refine take_at 6 (some 20) (v := ?va6) rfl rfl (by kernel_rfl) (by kernel_rfl) (by kernel_rfl) (by rfl) ?ya6 hS ?ta6
  case ya6 =>
    intro w' hSw
    skip
    go_simp
    (try rw [if_pos (by omega)])
    (try with_reducible rfl)
  simp only [Act.put, List.setIfInBounds_toArray, List.set_cons_zero, List.set_cons_succ]
  refine take_at 7 (some 21) (v := ?va7) rfl rfl (by kernel_rfl) (by kernel_rfl) (by kernel_rfl) (by rfl) ?ya7 hS ?ta7
  case ya7 =>
    intro w' hSw
    skip
    go_simp
    (try rw [if_pos (by omega)])
    (try with_reducible rfl)
  simp only [Act.put, List.setIfInBounds_toArray, List.set_cons_zero, List.set_cons_succ]
  have HA := Lib.hid (Tb.nil p w)
  have hl0 : l = [] := List.eq_nil_of_length_eq_zero HN.out.symm
  refine next_at 4 rfl (by kernel_rfl) (by rfl) (fun K hK => ?_)
  go_simp
  have hS2 := hS.alloc (.cells #[.int .u32 r.a, .int .i64 r.n, .slice ad2 rl cp2, .int .i64 r.bal] 34)
  refine hK _ _ hS2 ?_
  clear hK K
  refine next_at 8 rfl (by kernel_rfl) (by rfl) (fun K hK => ?_)
  go_simp
  have hS8 : Gr w1 ((w1.alloc (.cells #[.int .u32 r.a, .int .i64 r.n, .slice ad2 rl cp2, .int .i64 r.bal] 34)).alloc (.cells #[.slice none 0 0, .slice (some ⟨w1.heap.size, 0, none⟩) 1 1, .slice none 0 0] 23)).drew := (((Gr.refl _).alloc _).alloc _).drew
  have HO : Tb (fun _ => True) ((w1.alloc (.cells #[.int .u32 r.a, .int .i64 r.n, .slice ad2 rl cp2, .int .i64 r.bal] 34)).alloc (.cells #[.slice none 0 0, .slice (some ⟨w1.heap.size, 0, none⟩) 1 1, .slice none 0 0] 23)).drew (.slice (some ⟨w1.heap.size, 0, none⟩) 1 1) [r] :=
    (Tb.one (p := fun _ => True) (rc_new w1 r (.slice ad2 rl cp2) 34) trivial HRK.out ((HRI.out.gr (hG1.alloc _)).imp fun _ _ _ => trivial)).gr ((Gr.refl _).alloc _).drew
  have HPT : Pt (fun _ => True) ((w1.alloc (.cells #[.int .u32 r.a, .int .i64 r.n, .slice ad2 rl cp2, .int .i64 r.bal] 34)).alloc (.cells #[.slice none 0 0, .slice (some ⟨w1.heap.size, 0, none⟩) 1 1, .slice none 0 0] 23)).drew (.slice (some ⟨w1.heap.size + 1, 0, none⟩) 3 3) [[], [r], []] := by
    refine ⟨w1.heap.size + 1, 0, 3, rfl, by simp, fun i x hi => ?_⟩
    match i, hi with
    | 0, hi => cases hi; exact ⟨_, by simp, (HA.out.gr (hG1.step hS8)).any⟩
    | 1, hi => cases hi; exact ⟨_, by simp, HO⟩
    | 2, hi => cases hi; exact ⟨_, by simp, (HA.out.gr (hG1.step hS8)).any⟩
  have HP := Lib.hid HPT
  clear HO HPT
  refine hK _ _ hS8 ?_
  clear hK K
  generalize ((w1.alloc (.cells #[.int .u32 r.a, .int .i64 r.n, .slice ad2 rl cp2, .int .i64 r.bal] 34)).alloc (.cells #[.slice none 0 0, .slice (some ⟨w1.heap.size, 0, none⟩) 1 1, .slice none 0 0] 23)).drew = w8 at *
  refine next_at 9 rfl (by kernel_rfl) (by rfl) (fun K hK => ?_)
  go_simp
  refine (joined_any _ _ _ HP.out (by intro x hx; simp only [List.mem_cons, List.not_mem_nil, or_false] at hx; rcases hx with rfl | rfl | rfl <;> first | exact few_take HF.out _ | exact few_drop HF.out _ | exact few_one (by rw [hrl]; exact HRN.out) | exact ⟨by simp, fun r hr => by cases hr⟩) (by simp)).mono ?_
  rintro q w9 ⟨v9, rfl, ho9, hg9⟩
  have hGF : Gr w w9 := hG1.step (hS8.step hg9)
  refine hK _ _ (hS8.step hg9) ?_
  clear hK K
  refine next_at 10 rfl (by kernel_rfl) (by rfl) (fun K hK => ?_)
  go_simp
  refine hK _ _ (hS8.step hg9) ?_
  clear hK K
  refine wpAnyH_done (by kernel_rfl) ?_ _
  refine qz_normal ?_
  have H9 := Lib.hid (ho9.weak (Gr.size (hG1.step hS8)))
  clear ho9
  go_wp2_with fail
  go_ret
  rw [hl0]
  exact ⟨_, rfl, H9.out, hGF⟩
set_option maxHeartbeats 2000000 in
/-- Remove out of a table in memory -/
theorem rem_some {p q : Nat → Prop} (b off m cap : Nat) (l : List Rt) (a n : Int) (s e : Nat) (w : World) (h : Tb p w (.slice (some ⟨b, off, none⟩) m cap) l) (hf : Few l) (hs : Cut l a n s) (he : e = endOf l a n s) :
    Calls Try.prog 21 #[.slice (some ⟨b, off, none⟩) m cap, .agg #[.int .u32 a, .int .i64 n]] w (TabPost [l.take s, l.drop e].flatten w) := by
  have hn : m = l.length := by obtain ⟨_, _, e, _⟩ := h.form; cases e; rfl
  have hcap : m ≤ cap ∧ cap ≤ 9223372036854775807 := by obtain ⟨_, _, e, h1, h2⟩ := h.form; cases e; rw [hn]; exact ⟨h1, h2⟩
  have hse := endOf_le (a := a) (n := n) hs.1
  rw [← he] at hse
  have hl := hf.1
  have HT := Lib.hid h
  have HF := Lib.hid hf
  have HS := Lib.hid hs
  have HE := Lib.hid he
  have hsl := hs.1
  rw [← hn] at hse hl hsl
  have HN := Lib.hid hn
  clear h hf hs he hn
  go_enter Try.func21, Try.ntmps21
  go_wp2_with fail
  have hGa : Gr w (w.alloc (.cells #[.int .u32 a, .int .i64 n] 28)) := (Gr.refl _).alloc _
  have k1 : CL (w.alloc (.cells #[.int .u32 a, .int .i64 n] 28)) w.heap.size [.int .u32 a, .int .i64 n] := CL.new _ _ _ _ rfl
  have hwa : w.alloc (.cells #[.int .u32 a, .int .i64 n] 28) = w.alloc (.cells #[.int .u32 a, .int .i64 n] 28) := rfl
  generalize w.alloc (.cells #[.int .u32 a, .int .i64 n] 28) = wa at *
  refine (place_any _ l a n s e wa (HT.out.gr hGa) (by rw [← HN.out]; exact hl) HS.out HE.out).mono ?_
  rintro q w1 ⟨rfl, hg1⟩
  have HC := Lib.hid (k1.gr hg1)
  have hG1 : Gr w w1 := hGa.step hg1
  clear k1 hGa hg1
  have hd1 : decide (e ≤ m) = true := decide_eq_true hse.2
  have hd2 : decide (s ≤ cap) = true := decide_eq_true (by omega)
  go_wp2_with fail
  have hS : Gr w1 w1.drew := Gr.drew (Gr.refl _)
  refine region_plain (Gr w1) (by kernel_rfl) ?_
  refine take_at 0 (some 13) (v := ?va0) rfl rfl (by kernel_rfl) (by kernel_rfl) (by kernel_rfl) (by rfl) ?ya0 hS ?ta0
  case ya0 =>
    intro w' hSw
    skip
    go_simp
    (try rw [if_pos (by omega)])
    (try with_reducible rfl)
  simp only [Act.put, List.setIfInBounds_toArray, List.set_cons_zero, List.set_cons_succ]
  refine take_at 1 (some 14) (v := ?va1) rfl rfl (by kernel_rfl) (by kernel_rfl) (by kernel_rfl) (by rfl) ?ya1 hS ?ta1
  case ya1 =>
    intro w' hSw
    skip
    go_simp
    (try rw [if_pos (by omega)])
    (try with_reducible rfl)
  simp only [Act.put, List.setIfInBounds_toArray, List.set_cons_zero, List.set_cons_succ]
  refine take_at 2 (some 15) (v := ?va2) rfl rfl (by kernel_rfl) (by kernel_rfl) (by kernel_rfl) (by rfl) ?ya2 hS ?ta2
  case ya2 =>
    intro w' hSw
    skip
    go_simp
    (try rw [if_pos (by omega)])
    (try with_reducible rfl)
  simp only [Act.put, List.setIfInBounds_toArray, List.set_cons_zero, List.set_cons_succ]
  refine take_at 3 (some 16) (v := ?va3) rfl rfl (by kernel_rfl) (by kernel_rfl) (by kernel_rfl) (by rfl) ?ya3 hS ?ta3
  case ya3 =>
    intro w' hSw
    skip
    go_simp
    (try rw [if_pos (by omega)])
    (try with_reducible rfl)
  simp only [Act.put, List.setIfInBounds_toArray, List.set_cons_zero, List.set_cons_succ]
  refine take_at 4 (some 17) (v := ?va4) rfl rfl (by kernel_rfl) (by kernel_rfl) (by kernel_rfl) (by rfl) ?ya4 hS ?ta4
  case ya4 =>
    intro w' hSw
    skip
    go_simp
    (try rw [if_pos (by omega)])
    (try with_reducible rfl)
  simp only [Act.put, List.setIfInBounds_toArray, List.set_cons_zero, List.set_cons_succ]
  refine take_at 5 (some 18) (v := ?va5) rfl rfl (by kernel_rfl) (by kernel_rfl) (by kernel_rfl) (by rfl) ?ya5 hS ?ta5
  case ya5 =>
    intro w' hSw
    skip
    go_simp
    (try rw [if_pos (by omega)])
    (try with_reducible rfl)
  simp only [Act.put, List.setIfInBounds_toArray, List.set_cons_zero, List.set_cons_succ]
  have HA := Lib.hid (HT.out.take (k := s) (by rw [← HN.out]; exact hsl))
  have HZ := Lib.hid (HT.out.tail (k := e) (by rw [← HN.out]; exact hse.2))
  generalize (if cap = e then some (⟨b, off, none⟩ : Addr) else some ⟨b, off + e * 4, none⟩) = aq at HZ ⊢
  refine next_at 6 rfl (by kernel_rfl) (by rfl) (fun K hK => ?_)
  go_simp
  have hS8 : Gr w1 (w1.alloc (.cells #[.slice (some ⟨b, off, none⟩) s cap, .slice aq (m - e) (cap - e)] 23)).drew := ((Gr.refl _).alloc _).drew
  have HPT : Pt (fun _ => True) (w1.alloc (.cells #[.slice (some ⟨b, off, none⟩) s cap, .slice aq (m - e) (cap - e)] 23)).drew (.slice (some ⟨w1.heap.size, 0, none⟩) 2 2) [l.take s, l.drop e] := by
    refine ⟨w1.heap.size, 0, 2, rfl, by simp, fun i x hi => ?_⟩
    match i, hi with
    | 0, hi => cases hi; exact ⟨_, by simp, (HA.out.gr (hG1.step hS8)).any⟩
    | 1, hi => cases hi; exact ⟨_, by simp, (HZ.out.gr (hG1.step hS8)).any⟩
  have HP := Lib.hid HPT
  clear HPT
  refine hK _ _ hS8 ?_
  clear hK K
  generalize (w1.alloc (.cells #[.slice (some ⟨b, off, none⟩) s cap, .slice aq (m - e) (cap - e)] 23)).drew = w8 at *
  refine next_at 7 rfl (by kernel_rfl) (by rfl) (fun K hK => ?_)
  go_simp
  refine (joined_any _ _ _ HP.out (by intro x hx; simp only [List.mem_cons, List.not_mem_nil, or_false] at hx; rcases hx with rfl | rfl <;> first | exact few_take HF.out _ | exact few_drop HF.out _ | exact ⟨by simp, fun r hr => by cases hr⟩) (by simp)).mono ?_
  rintro q w9 ⟨v9, rfl, ho9, hg9⟩
  have hGF : Gr w w9 := hG1.step (hS8.step hg9)
  refine hK _ _ (hS8.step hg9) ?_
  clear hK K
  refine next_at 8 rfl (by kernel_rfl) (by rfl) (fun K hK => ?_)
  go_simp
  refine hK _ _ (hS8.step hg9) ?_
  clear hK K
  refine wpAnyH_done (by kernel_rfl) ?_ _
  refine qz_normal ?_
  have H9 := Lib.hid (ho9.weak (Gr.size (hG1.step hS8)))
  clear ho9
  go_wp2_with fail
  go_ret
  exact ⟨_, rfl, H9.out, hGF⟩
set_option maxHeartbeats 2000000 in
/-- Remove out of no table -/
theorem rem_nil {p q : Nat → Prop} (l : List Rt) (a n : Int) (s e : Nat) (w : World) (h : Tb p w (.slice none 0 0) l) (hf : Few l) (hs : Cut l a n s) (he : e = endOf l a n s) :
    Calls Try.prog 21 #[.slice none 0 0, .agg #[.int .u32 a, .int .i64 n]] w (TabPost [l.take s, l.drop e].flatten w) := by
  have hn : 0 = l.length := by obtain ⟨_, _, e, _⟩ := h.form; simp only [Value.slice.injEq] at e; exact e.2.1
  have hse := endOf_le (a := a) (n := n) hs.1
  rw [← he] at hse
  have hl := hf.1
  have HT := Lib.hid h
  have HF := Lib.hid hf
  have HS := Lib.hid hs
  have HE := Lib.hid he
  have hsl := hs.1
  rw [← hn] at hse hl hsl
  have HN := Lib.hid hn
  clear h hf hs he hn
  obtain rfl : s = 0 := by omega
  obtain rfl : e = 0 := by omega
  go_enter Try.func21, Try.ntmps21
  go_wp2_with fail
  have hGa : Gr w (w.alloc (.cells #[.int .u32 a, .int .i64 n] 28)) := (Gr.refl _).alloc _
  have k1 : CL (w.alloc (.cells #[.int .u32 a, .int .i64 n] 28)) w.heap.size [.int .u32 a, .int .i64 n] := CL.new _ _ _ _ rfl
  have hwa : w.alloc (.cells #[.int .u32 a, .int .i64 n] 28) = w.alloc (.cells #[.int .u32 a, .int .i64 n] 28) := rfl
  generalize w.alloc (.cells #[.int .u32 a, .int .i64 n] 28) = wa at *
  refine (place_any _ l a n 0 0 wa (HT.out.gr hGa) (by rw [← HN.out]; exact hl) HS.out HE.out).mono ?_
  rintro q w1 ⟨rfl, hg1⟩
  have HC := Lib.hid (k1.gr hg1)
  have hG1 : Gr w w1 := hGa.step hg1
  clear k1 hGa hg1
  go_wp2_with fail
  have hS : Gr w1 w1.drew := Gr.drew (Gr.refl _)
  refine region_plain (Gr w1) (by kernel_rfl) ?_
  refine take_at 0 (some 13) (v := ?va0) rfl rfl (by kernel_rfl) (by kernel_rfl) (by kernel_rfl) (by rfl) ?ya0 hS ?ta0
  case ya0 =>
    intro w' hSw
    skip
    go_simp
    (try rw [if_pos (by omega)])
    (try with_reducible rfl)
  simp only [Act.put, List.setIfInBounds_toArray, List.set_cons_zero, List.set_cons_succ]
  refine take_at 1 (some 14) (v := ?va1) rfl rfl (by kernel_rfl) (by kernel_rfl) (by kernel_rfl) (by rfl) ?ya1 hS ?ta1
  case ya1 =>
    intro w' hSw
    skip
    go_simp
    (try rw [if_pos (by omega)])
    (try with_reducible rfl)
  simp only [Act.put, List.setIfInBounds_toArray, List.set_cons_zero, List.set_cons_succ]
  refine take_at 2 (some 15) (v := ?va2) rfl rfl (by kernel_rfl) (by kernel_rfl) (by kernel_rfl) (by rfl) ?ya2 hS ?ta2
  case ya2 =>
    intro w' hSw
    skip
    go_simp
    (try rw [if_pos (by omega)])
    (try with_reducible rfl)
  simp only [Act.put, List.setIfInBounds_toArray, List.set_cons_zero, List.set_cons_succ]
  refine take_at 3 (some 16) (v := ?va3) rfl rfl (by kernel_rfl) (by kernel_rfl) (by kernel_rfl) (by rfl) ?ya3 hS ?ta3
  case ya3 =>
    intro w' hSw
    skip
    go_simp
    (try rw [if_pos (by omega)])
    (try with_reducible rfl)
  simp only [Act.put, List.setIfInBounds_toArray, List.set_cons_zero, List.set_cons_succ]
  refine take_at 4 (some 17) (v := ?va4) rfl rfl (by kernel_rfl) (by kernel_rfl) (by kernel_rfl) (by rfl) ?ya4 hS ?ta4
  case ya4 =>
    intro w' hSw
    skip
    go_simp
    (try rw [if_pos (by omega)])
    (try with_reducible rfl)
  simp only [Act.put, List.setIfInBounds_toArray, List.set_cons_zero, List.set_cons_succ]
  refine take_at 5 (some 18) (v := ?va5) rfl rfl (by kernel_rfl) (by kernel_rfl) (by kernel_rfl) (by rfl) ?ya5 hS ?ta5
  case ya5 =>
    intro w' hSw
    skip
    go_simp
    (try rw [if_pos (by omega)])
    (try with_reducible rfl)
  simp only [Act.put, List.setIfInBounds_toArray, List.set_cons_zero, List.set_cons_succ]
  have HA := Lib.hid (Tb.nil p w)
  have hl0 : l = [] := List.eq_nil_of_length_eq_zero HN.out.symm
  refine next_at 6 rfl (by kernel_rfl) (by rfl) (fun K hK => ?_)
  go_simp
  have hS8 : Gr w1 (w1.alloc (.cells #[.slice none 0 0, .slice none 0 0] 23)).drew := ((Gr.refl _).alloc _).drew
  have HPT : Pt (fun _ => True) (w1.alloc (.cells #[.slice none 0 0, .slice none 0 0] 23)).drew (.slice (some ⟨w1.heap.size, 0, none⟩) 2 2) [[], []] := by
    refine ⟨w1.heap.size, 0, 2, rfl, by simp, fun i x hi => ?_⟩
    match i, hi with
    | 0, hi => cases hi; exact ⟨_, by simp, (HA.out.gr (hG1.step hS8)).any⟩
    | 1, hi => cases hi; exact ⟨_, by simp, (HA.out.gr (hG1.step hS8)).any⟩
  have HP := Lib.hid HPT
  clear HPT
  refine hK _ _ hS8 ?_
  clear hK K
  generalize (w1.alloc (.cells #[.slice none 0 0, .slice none 0 0] 23)).drew = w8 at *
  refine next_at 7 rfl (by kernel_rfl) (by rfl) (fun K hK => ?_)
  go_simp
  refine (joined_any _ _ _ HP.out (by intro x hx; simp only [List.mem_cons, List.not_mem_nil, or_false] at hx; rcases hx with rfl | rfl <;> first | exact few_take HF.out _ | exact few_drop HF.out _ | exact ⟨by simp, fun r hr => by cases hr⟩) (by simp)).mono ?_
  rintro q w9 ⟨v9, rfl, ho9, hg9⟩
  have hGF : Gr w w9 := hG1.step (hS8.step hg9)
  refine hK _ _ (hS8.step hg9) ?_
  clear hK K
  refine next_at 8 rfl (by kernel_rfl) (by rfl) (fun K hK => ?_)
  go_simp
  refine hK _ _ (hS8.step hg9) ?_
  clear hK K
  refine wpAnyH_done (by kernel_rfl) ?_ _
  refine qz_normal ?_
  have H9 := Lib.hid (ho9.weak (Gr.size (hG1.step hS8)))
  clear ho9
  go_wp2_with fail
  go_ret
  rw [hl0]
  exact ⟨_, rfl, H9.out, hGF⟩
theorem tb_nil {p : Nat → Prop} {w : World} {n cap : Nat} {l : List Rt} (h : Tb p w (.slice none n cap) l) : n = 0 ∧ cap = 0 ∧ l = [] := by
  obtain ⟨ys, rfl, ⟨a', cap', e, hl, hc, hn, H⟩, hy⟩ := h
  cases e
  have := hn rfl
  subst this
  have h0 : ys.length = 0 := by omega
  obtain rfl := List.eq_nil_of_length_eq_zero h0
  exact ⟨rfl, rfl, rfl⟩
/-- a slice whose address is plain -/
def Pln (v : Value) : Prop := ∀ a n c, v = .slice (some a) n c → ∃ b off, a = ⟨b, off, none⟩
theorem OwT.pln {base : Nat} {w : World} {v : Value} {l : List Rt} (h : OwT base w v l) : Pln v := by
  intro a n c e
  obtain ⟨ys, -, ho, -⟩ := h
  rcases ho.2 with ⟨rfl, -⟩ | ⟨g, cap, cur, rfl, -⟩
  · cases e
  · cases e; exact ⟨_, _, rfl⟩
/-- Put onto any table -/
theorem put_any {p q : Nat → Prop} (v : Value) (l : List Rt) (rv : Value) (r : Rt) (s : Nat) (w : World) (h : Tb p w v l) (hv : Pln v) (hf : Few l) (hrv : Rv q w rv r) (hrn : r.nx.length ≤ 1000) (hs : Cut l r.a r.n s) :
    Calls Try.prog 19 #[v, rv] w (TabPost (l.take s ++ r :: l.drop (endOf l r.a r.n s)) w) := by
  have e : l.take s ++ r :: l.drop (endOf l r.a r.n s) = [l.take s, [r], l.drop (endOf l r.a r.n s)].flatten := by simp
  rw [e]
  obtain ⟨ad, cap, rfl, -, -⟩ := h.form
  cases ad with
  | none =>
    obtain ⟨e1, rfl, e3⟩ := tb_nil h
    rw [e1] at h ⊢
    exact put_nil l rv r s _ w h hf hrv hrn hs rfl
  | some ad =>
    obtain ⟨b, off, rfl⟩ := hv _ _ _ rfl
    exact put_some b off l.length cap l rv r s _ w h hf hrv hrn hs rfl
/-- Remove out of any table -/
theorem rem_any {p : Nat → Prop} (v : Value) (l : List Rt) (a n : Int) (s : Nat) (w : World) (h : Tb p w v l) (hv : Pln v) (hf : Few l) (hs : Cut l a n s) :
    Calls Try.prog 21 #[v, .agg #[.int .u32 a, .int .i64 n]] w (TabPost (l.take s ++ l.drop (endOf l a n s)) w) := by
  have e : l.take s ++ l.drop (endOf l a n s) = [l.take s, l.drop (endOf l a n s)].flatten := by simp
  rw [e]
  obtain ⟨ad, cap, rfl, -, -⟩ := h.form
  cases ad with
  | none =>
    obtain ⟨e1, rfl, e3⟩ := tb_nil h
    rw [e1] at h ⊢
    exact rem_nil (q := p) l a n s _ w h hf hs rfl
  | some ad =>
    obtain ⟨b, off, rfl⟩ := hv _ _ _ rfl
    exact rem_some (q := p) b off l.length cap l a n s _ w h hf hs rfl
end Go.Proofs.Ytefocmcpeigfcaa
