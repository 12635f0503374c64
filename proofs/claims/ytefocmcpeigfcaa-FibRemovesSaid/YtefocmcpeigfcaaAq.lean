/- Drawn tables; the sanity check. -/
import Derived.Test.YtefocmcpeigfcaaAp
import Derived.WalkKit
import Derived.WalkSpells
import Derived.WalkLawsBesides
import Derived.WalkSmall
import Derived.Handy
import Derived.BigQuiet
import Derived.Deep.QuietTactic
import Derived.Deep.RegionHeld3
import Derived.Deep.DeepFit
import Derived.Below
import Derived.Lib.Hide
import Derived.Lib.QuietBelow
import Derived.Deep.DeepCutAuto
namespace Go.Proofs.Ytefocmcpeigfcaa
open Go Go.RowKit Go.Sort
set_option maxRecDepth 100000
set_option linter.unusedVariables false
/-- a right table -/
def TabOk (l : List Rt) : Prop := Asc l ∧ ∀ r ∈ l, RtOk r
theorem TabOk.few {l : List Rt} (h : TabOk l) (hl : l.length ≤ 1000) : Few l := ⟨hl, fun r hr => by have := (h.2 r hr).2.2.2.2; omega⟩
theorem TabOk.put {l : List Rt} {r : Rt} (h : TabOk l) (hr : RtOk r) : TabOk (putP r l) :=
  ⟨asc_putP h.1, fun y hy => by rcases mem_putP.1 hy with rfl | ⟨h1, -⟩; exact hr; exact h.2 y h1⟩
theorem TabOk.rem {l : List Rt} (h : TabOk l) (a n : Int) : TabOk (remL a n l) := ⟨asc_rem h.1 a n, fun y hy => h.2 y ((List.mem_filter.1 hy).1)⟩
theorem put_len (r : Rt) : ∀ l : List Rt, (putP r l).length ≤ l.length + 1 := by
  have key : ∀ l : List Rt, (ltL r l).length + (gtL r l).length ≤ l.length := by
    intro l
    induction l with
    | nil => simp [ltL, gtL]
    | cons x t ih =>
      unfold ltL gtL at *
      rw [List.filter_cons, List.filter_cons]
      by_cases h1 : cmr x r < 0
      · rw [if_pos (by simpa using h1), if_neg (by simp; omega)]
        simp only [List.length_cons]; omega
      · rw [if_neg (by simpa using h1)]
        split
        · simp only [List.length_cons]; omega
        · simp only [List.length_cons]; omega
  intro l
  unfold putP
  have := key l
  rw [List.length_append, List.length_cons]; omega
def TbPost (B b : Nat) (w : World) (e : Ending) (w' : World) : Prop := ∃ v l, e = .returned v ∧ Tb (fun k => w.heap.size ≤ k) w' v l ∧ Pln v ∧ TabOk l ∧ l.length ≤ 8 ∧ Cod B w' b ∧ Ex b w w'
set_option maxHeartbeats 1000000 in
theorem table_any {B : Nat} (b : Nat) (w : World) (h : Cod B w b) (hBw : B ≤ w.heap.size) :
    Calls Try.prog 9 #[.pointer (some ⟨b, 0, none⟩)] w (TbPost B b w) := by
  have hlt := h.lt
  go_enter Try.func9, Try.ntmps9
  go_wp2_with fail
  refine (next_any b 9 w (by omega) (by omega) h).mono ?_
  rintro e w1 ⟨x, rfl, x0, x1, hc1, he1⟩
  obtain ⟨x, rfl⟩ := Int.eq_ofNat_of_zero_le x0
  have HC := Lib.hid hc1
  have HE := Lib.hid he1
  clear h hc1 he1
  go_wp2_with fail
  go_loopw [3, 4] (fun v i wr => ∃ (k : Nat) (l : List Rt), i = .int .i64 k ∧ l.length + k ≤ 8 ∧ Tb (fun k => w.heap.size ≤ k) wr v l ∧ Pln v ∧ TabOk l ∧ Cod B wr b ∧ Ex b w wr)
    (fun _ i _ => (intOf i).toNat)
  case atStart =>
    refine ⟨x, [], rfl, by simp; omega, Tb.nil _ _, ?_, ⟨List.Pairwise.nil, fun r hr => by cases hr⟩, HC.out, HE.out⟩
    intro a n c e; cases e
  case round =>
    obtain ⟨k, l, rfl, hl, hT, hP, hok, hcd, hE⟩ := hrel
    have HT := Lib.hid hT
    have HP := Lib.hid hP
    have HOK := Lib.hid hok
    have HCD := Lib.hid hcd
    have HEE := Lib.hid hE
    have hsz := hE.size
    clear hT hP hok hcd hE
    by_cases hk : 0 < k
    · have k0 : (0 : Int) < (k : Int) := by omega
      go_wp2_with fail
      refine (route_any b wr HCD.out (by omega)).mono ?_
      rintro e w2 ⟨rv, r, rfl, hrv, hrk, hc2, he2⟩
      have hT2 := HT.out.ex he2 (fun k hk => by omega)
      have hsz2 := he2.size
      have HRV := Lib.hid hrv
      have HRK := Lib.hid hrk
      have HC2 := Lib.hid hc2
      have HE2 := Lib.hid he2
      have HT2 := Lib.hid hT2
      clear hrv hrk hc2 he2 hT2
      go_wp2_with fail
      refine (srput _ l rv r w2 HT2.out (HOK.out.few (by omega)) HOK.out.1 HRV.out (by have := HRK.out.2.2.2.2; omega)).mono ?_
      rintro e w3 ⟨v3, rfl, ho3, hg3⟩
      have HT3 := Lib.hid (ho3.tb.imp (q := fun k => w.heap.size ≤ k) fun k _ hk => by omega)
      have HP3 := Lib.hid ho3.pln
      have HG3 := Lib.hid hg3
      clear ho3 hg3
      go_wp2_with fail
      case roundEnd =>
        obtain ⟨k, rfl⟩ : ∃ j, k = j + 1 := ⟨k - 1, by omega⟩
        refine ⟨⟨k, putP r l, ?_, by have := put_len r l; omega, HT3.out, HP3.out, HOK.out.put HRK.out, HC2.out.gr HG3.out, (HEE.out.trans HE2.out).trans (Ex.ofGr HG3.out)⟩, by simp only [intOf]; omega⟩
        congr 1; omega
    · have k0 : ¬ (0 : Int) < (k : Int) := by omega
      go_wp2_with fail
      go_ret
      exact ⟨_, l, rfl, HT.out, HP.out, HOK.out, by omega, HCD.out, HEE.out⟩
def awR1 : Rt := ⟨167772160, 8, [1], 1⟩
def awR2 : Rt := ⟨167837696, 16, [2], 1⟩
theorem aw_look : lookR [awR1, awR2] 167837701 = some awR2 := by kernel_rfl
theorem aw_asc : Asc [awR1, awR2] := by
  unfold Asc
  rw [List.pairwise_cons]
  refine ⟨fun y hy => ?_, List.pairwise_singleton _ _⟩
  rw [List.mem_singleton] at hy
  subst hy
  decide +kernel
theorem ri_single {w : World} {g : Nat} {k : Int} (hc : w.cell? ⟨g, 0, none⟩ = some (.int .i64 k)) : Ri (fun _ => True) w (.slice (some ⟨g, 0, none⟩) 1 1) [k] :=
  ⟨_, 1, rfl, by simp, by omega, (fun h => by cases h), fun i hi => ⟨g, 0, rfl, trivial, by
    have : i = 0 := by simpa using hi
    subst this
    exact hc⟩⟩
set_option maxHeartbeats 1000000 in
theorem awake_any (w : World) : Calls Try.prog 7 #[] w fun e w' => e = .returned (.bool true) ∧ Gr w w' := by
  go_enter Try.func7, Try.ntmps7
  go_wp2_with fail
  have g3 : Gr w (((w.alloc (.cells #[.int .i64 1] 3)).alloc (.cells #[.int .i64 2] 3)).alloc (.cells #[.int .u32 167772160, .int .i64 8, .slice (some ⟨w.heap.size, 0, none⟩) 1 1, .int .i64 1, .int .u32 167837696, .int .i64 16, .slice (some ⟨w.heap.size + 1, 0, none⟩) 1 1, .int .i64 1] 34)) := (((Gr.refl _).alloc _).alloc _).alloc _
  have k3 : CL (((w.alloc (.cells #[.int .i64 1] 3)).alloc (.cells #[.int .i64 2] 3)).alloc (.cells #[.int .u32 167772160, .int .i64 8, .slice (some ⟨w.heap.size, 0, none⟩) 1 1, .int .i64 1, .int .u32 167837696, .int .i64 16, .slice (some ⟨w.heap.size + 1, 0, none⟩) 1 1, .int .i64 1] 34)) (w.heap.size + 1 + 1) [.int .u32 167772160, .int .i64 8, .slice (some ⟨w.heap.size, 0, none⟩) 1 1, .int .i64 1, .int .u32 167837696, .int .i64 16, .slice (some ⟨w.heap.size + 1, 0, none⟩) 1 1, .int .i64 1] := CL.new _ _ _ _ (by simp)
  have k1 : CL (((w.alloc (.cells #[.int .i64 1] 3)).alloc (.cells #[.int .i64 2] 3)).alloc (.cells #[.int .u32 167772160, .int .i64 8, .slice (some ⟨w.heap.size, 0, none⟩) 1 1, .int .i64 1, .int .u32 167837696, .int .i64 16, .slice (some ⟨w.heap.size + 1, 0, none⟩) 1 1, .int .i64 1] 34)) w.heap.size [.int .i64 1] := ((CL.new _ _ _ _ rfl).gr ((Gr.refl _).alloc _)).gr ((Gr.refl _).alloc _)
  have k2 : CL (((w.alloc (.cells #[.int .i64 1] 3)).alloc (.cells #[.int .i64 2] 3)).alloc (.cells #[.int .u32 167772160, .int .i64 8, .slice (some ⟨w.heap.size, 0, none⟩) 1 1, .int .i64 1, .int .u32 167837696, .int .i64 16, .slice (some ⟨w.heap.size + 1, 0, none⟩) 1 1, .int .i64 1] 34)) (w.heap.size + 1) [.int .i64 2] := (CL.new _ _ _ _ (by simp)).gr ((Gr.refl _).alloc _)
  generalize ((w.alloc (.cells #[.int .i64 1] 3)).alloc (.cells #[.int .i64 2] 3)).alloc (.cells #[.int .u32 167772160, .int .i64 8, .slice (some ⟨w.heap.size, 0, none⟩) 1 1, .int .i64 1, .int .u32 167837696, .int .i64 16, .slice (some ⟨w.heap.size + 1, 0, none⟩) 1 1, .int .i64 1] 34) = w3 at *
  have hT : Tb (fun _ => True) w3 (.slice (some ⟨w.heap.size + 1 + 1, 0, none⟩) 2 2) [awR1, awR2] := by
    refine ⟨[(awR1, .slice (some ⟨w.heap.size, 0, none⟩) 1 1), (awR2, .slice (some ⟨w.heap.size + 1, 0, none⟩) 1 1)], rfl, ⟨_, 2, rfl, by simp, by omega, (fun h => by cases h), fun i y hi => ?_⟩, fun y hy => ?_⟩
    · match i, hi with
      | 0, hi => cases hi; exact ⟨w.heap.size + 1 + 1, 0, rfl, trivial, (k3.at' 0 _ rfl).1, (k3.at' 1 _ rfl).1, (k3.at' 2 _ rfl).1, (k3.at' 3 _ rfl).1⟩
      | 1, hi => cases hi; exact ⟨w.heap.size + 1 + 1, 0, rfl, trivial, (k3.at' 4 _ rfl).1, (k3.at' 5 _ rfl).1, (k3.at' 6 _ rfl).1, (k3.at' 7 _ rfl).1⟩
    · simp only [List.mem_cons, List.not_mem_nil, or_false] at hy
      rcases hy with rfl | rfl
      · exact ⟨(show Rt.ok awR1 from ⟨by decide, by decide⟩), ri_single k1.one.1⟩
      · exact ⟨(show Rt.ok awR2 from ⟨by decide, by decide⟩), ri_single k2.one.1⟩
  clear k1 k2 k3
  refine (slook _ _ 167837701 w3 hT ⟨by simp, fun r hr => by simp only [List.mem_cons, List.not_mem_nil, or_false] at hr; rcases hr with rfl | rfl <;> simp [awR1, awR2]⟩ aw_asc (by decide) (by decide)).mono ?_
  rintro e w4 ⟨v, rfl, hrv, hg4⟩
  rw [aw_look] at hrv ⊢
  obtain ⟨nv, rfl, -, hn⟩ := hrv
  have hgF : Gr w w4 := g3.step hg4
  obtain ⟨ad, cp, e1, -, -, -, hcells⟩ := hn
  obtain ⟨b, off, rfl, -, hc⟩ := hcells 0 (by decide)
  subst e1
  have HF := Lib.hid hgF
  have hl4 : b < w4.heap.size := World.block_lt_of_cell? _ _ hc
  have hc0 : w4.cell? ⟨b, off, none⟩ = some (.int .i64 2) := hc
  clear hcells hT g3 hg4 hgF hc
  simp only [Option.isSome_some, Option.getD_some, rtv, awR2, List.length_cons, List.length_nil]
  go_wp2_with fail
  go_ret
  exact ⟨rfl, HF.out.alloc _⟩
end Go.Proofs.Ytefocmcpeigfcaa
