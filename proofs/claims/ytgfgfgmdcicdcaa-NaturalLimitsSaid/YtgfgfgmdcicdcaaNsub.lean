/- Clone and Sub. -/
import Derived.Test.YtgfgfgmdcicdcaaNmul
import Derived.Test.YtgfgfgmdcicdcaaNcmp
import Derived.WalkKit
import Derived.WalkSpells
import Derived.WalkLawsBesides
import Derived.WalkSmall
import Derived.Handy
import Derived.BigQuiet
import Derived.Deep.QuietTactic
import Derived.Deep.RegionHeld3
import Derived.Deep.DeepFit
import Derived.Below
import Derived.Lib.Hide
import Derived.Lib.QuietBelow
import Derived.Deep.DeepCutAuto
namespace Go.Proofs.Ytgfgfgmdcicdcaa
open Go Go.RowKit Go.Sort
set_option maxRecDepth 100000

theorem clone_any {p : Nat → Prop} (v : Value) (l : List Nat) (w : World) (h : Rd p w v l) (hl : l.length ≤ 1000000) :
    Calls Try.prog 28 #[v] w fun e w' => ∃ v', e = .returned v' ∧ Own w' w.heap.size v' l ∧ Gr w w' := by
  obtain ⟨a, cap, rfl, hcap, hcap2, H⟩ := h
  have HH := Lib.hid H
  clear H
  obtain ⟨ti, hi1, hi2, hi3, hi4⟩ := intInfo
  have hnil := fun (w : World) (a : Option Addr) (n c : Nat) => Lib.run_eql_slice_nil (P := Try.prog) w 27 3 a n c 0 0 Try.underlying27
  cases a with
  | none =>
    obtain rfl : l = [] := by
      apply Decidable.byContradiction; intro hc
      have h0 : 0 < l.length := List.length_pos_iff.2 hc
      obtain ⟨b, off, e, -⟩ := HH.out 0 h0
      cases e
    go_enter Try.func28, Try.ntmps28
    go_wp2
    go_ret
    exact ⟨_, rfl, Own.nil _ _, Gr.refl _⟩
  | some ad =>
    go_enter Try.func28, Try.ntmps28
    have hown := World.ownsRow_lit (base := w.heap.size) (e := 3) (size := 1) w #[] 0 (Nat.le_refl _) (by unfold maxLen; omega) rfl
    have hnews : ∀ j u, (l.map lv)[j]? = some u → (w.alloc (.cells #[] 3)).cell? (ad.add j) = some u := by
      intro j u hj
      rw [List.getElem?_map] at hj
      by_cases hjl : j < l.length
      · rw [List.getElem?_eq_getElem hjl] at hj
        obtain ⟨b, off, e, -, hc⟩ := HH.out j hjl
        obtain rfl := Option.some.inj e
        rw [show (⟨b, off, none⟩ : Addr).add j = ⟨b, off + j, none⟩ by simp [Addr.add], World.cell?_alloc_lt _ _ _ (World.block_lt_of_cell? _ _ hc), hc, List.getD_eq_getElem?_getD, List.getElem?_eq_getElem hjl]
        simpa [lv] using hj
      · rw [List.getElem?_eq_none (by omega)] at hj; cases hj
    have HW := Lib.hid hnews
    clear hnews
    go_wp2_with (at_builtin; refine wpList_append_own_at _ rfl _ _ 27 rfl w.heap.size 3 ti (.int .i64 0) 1 8 Try.underlying27 hi1 hi2 hi3 hi4 rfl (by decide) _ _ _ rfl hown ad l.length cap (l.map lv) rfl (by simp) HW.out (by intro u hu; rw [List.mem_map] at hu; obtain ⟨n, -, rfl⟩ := hu; rfl) (by unfold maxLen; omega) (by omega) (by simp) ?_; intro v' w2 hown2 hgrow hnil hloc)
    go_ret
    refine ⟨_, rfl, ?_, ?_⟩
    · unfold Own
      rw [Nat.zero_add] at hown2
      exact hown2
    · exact Gr.grown ((Gr.refl _).alloc _) hgrow (fun k hk => (hown.lt k hk).1)
/-- a difference, or an error because it is less than 0 -/
def SubRes (w : World) (A B : Nat) (e : Ending) (w' : World) : Prop :=
  ∃ (v : Value) (er : Int), e = .returned (.tuple #[v, .int .i64 er]) ∧ ((B ≤ A ∧ er = 0 ∧ Num w' v (A - B)) ∨ (A < B ∧ er = 15 ∧ v = .slice none 0 0)) ∧ Gr w w'
theorem nd_mono {A B : Nat} (h : A ≤ B) : (nd A).length ≤ (nd B).length := (nd_len A _).2 (Nat.lt_of_le_of_lt h (nd_hi B))
set_option maxHeartbeats 1000000 in
theorem sub_any {A B : Nat} (va vb : Value) (w : World) (hA : Num w va A) (hB : Num w vb B) (lA : (nd A).length ≤ 256) (lB : (nd B).length ≤ 256) :
    Calls Try.prog 13 #[va, vb] w (SubRes w A B) := by
  have hA0 := hA
  have hB0 := hB
  obtain ⟨aa, acap, rfl, -, -, -⟩ := hA
  obtain ⟨ab, bcap, rfl, -, -, -⟩ := hB
  have hA := Lib.hid hA0
  have hB := Lib.hid hB0
  have va := Lib.hid (num_valid hA0 lA)
  have vb := Lib.hid (num_valid hB0 lB)
  have vc := Lib.hid (cmp_any _ _ w hA0 hB0 (by omega))
  clear hA0 hB0
  by_cases hlt : A < B
  · have HC : Hid (ncmp A B = -1) := Lib.hid (ncmp_lt hlt)
    have HL := Lib.hid hlt
    clear hlt
    go_enter Try.func13, Try.ntmps13
    go_wp2_with fail
    refine va.out.mono ?_
    rintro e w' ⟨rfl, rfl⟩
    go_wp2_with fail
    refine vb.out.mono ?_
    rintro e w' ⟨rfl, rfl⟩
    go_wp2_with fail
    refine vc.out.mono ?_
    rintro e w1 ⟨rfl, hg1⟩
    rw [HC.out]
    go_wp2_with fail
    go_ret2
    exact ⟨_, 15, rfl, .inr ⟨HL.out, rfl, rfl⟩, hg1⟩
  · have hle : B ≤ A := by omega
    have HC : Hid (0 ≤ ncmp A B) := Lib.hid (by rcases Nat.eq_or_lt_of_le hle with rfl | h; rw [ncmp_eq]; omega; rw [ncmp_gt h]; omega)
    have HL := Lib.hid hle
    clear hlt hle
    go_enter Try.func13, Try.ntmps13
    go_wp2_with fail
    refine va.out.mono ?_
    rintro e w' ⟨rfl, rfl⟩
    go_wp2_with fail
    refine vb.out.mono ?_
    rintro e w' ⟨rfl, rfl⟩
    go_wp2_with fail
    refine vc.out.mono ?_
    rintro e w1 ⟨rfl, hg1⟩
    have d : decide (ncmp A B < 0) = false := by have := HC.out; simpa using this
    go_wp2_with fail
    refine (clone_any _ _ w1 (hA.out.gr hg1) (by omega)).mono ?_
    rintro e w2 ⟨v2, rfl, hown, hg2⟩
    have hG := hg1.step hg2
    rcases hown.is with ⟨rfl, hz⟩ | ⟨g, cap, rfl, hb, hcap, hcap2, harr, hlt⟩
    · have hA0 : A = 0 := by rw [← nv_nd A, hz]; rfl
      have hN : Num w2 (.slice none 0 0) (A - B) := by rw [hA0, Nat.zero_sub]; exact Num.nil _
      have HT := Lib.hid (trim_any w2 hN (lim_nd _))
      clear hz hA0 hN hown
      go_wp2_with (go_at_call 26; refine (addTimes_nil _ _ _).mono ?_; rintro e w' ⟨rfl, rfl⟩)
      refine HT.out.mono ?_
      rintro e w' ⟨v, rfl, hv, rfl⟩
      rw [nv_nd] at hv
      have HV := Lib.hid hv
      clear hv
      go_wp2_with fail
      go_ret2
      exact ⟨_, 0, rfl, .inl ⟨HL.out, rfl, HV.out⟩, hG⟩
    · have hC := addTimes_any (nd A) (nd B) (-1) g 0 cap (.slice ab (nd B).length bcap) w2 harr (Rd.gr (Rd.off (hB.out.gr hg1) hb) hg2) (lim_nd A) (lim_nd B) (nd_mono HL.out) (by omega) (by omega) (by omega)
      have HAT := Lib.hid hC
      have HO := Lib.hid hown
      clear hC hown harr
      go_wp2_with fail
      refine HAT.out.mono ?_
      rintro e w3 ⟨c, l, rfl, hll, hlL, -, -, heq, harr3, hwin3⟩
      have hp : (1073741824 : Int) ^ (nd A).length = ((1073741824 ^ (nd A).length : Nat) : Int) := by simp
      have hc0 : c = 0 := by
        have h1 := nv_lt hlL
        have h2 := nd_hi A
        have h3 := HL.out
        rw [hll] at h1
        refine carry_zero _ heq (by omega) (by rw [hp]; omega) ?_ ?_
        · rw [nv_nd, nv_nd]; omega
        · rw [nv_nd, nv_nd, hp]; omega
      have hv : nv l = A - B := by
        rw [hc0, nv_nd, nv_nd, Int.zero_mul] at heq
        have := HL.out
        omega
      have hrd : Rd (fun _ => True) w3 (.slice (some ⟨g, 0, none⟩) (nd A).length cap) l := by
        have := harr3.rd (p := fun _ => True) (cap := cap) (by omega) hcap2 trivial
        rwa [hll] at this
      have HT := Lib.hid (trim_any w3 hrd hlL)
      have HN := Lib.hid hv
      have hG3 : Gr w w3 := hg1.step (Ex.gr hg2 hb hwin3.ex)
      clear hp hc0 hv hrd heq
      go_wp2_with fail
      refine HT.out.mono ?_
      rintro e w' ⟨v, rfl, hv, rfl⟩
      rw [HN.out] at hv
      have HV := Lib.hid hv
      clear hv
      go_wp2_with fail
      go_ret2
      exact ⟨_, 0, rfl, .inl ⟨HL.out, rfl, HV.out⟩, hG3⟩
end Go.Proofs.Ytgfgfgmdcicdcaa
