/- Two routes, two tables are the same; the document's Lookup. -/
import Derived.Test.YtefocmcpeigfcaaAd
import Derived.WalkKit
import Derived.WalkSpells
import Derived.WalkLawsBesides
import Derived.WalkSmall
import Derived.Handy
import Derived.BigQuiet
import Derived.Deep.QuietTactic
import Derived.Deep.RegionHeld3
import Derived.Deep.DeepFit
import Derived.Below
import Derived.Lib.Hide
import Derived.Lib.QuietBelow
import Derived.Deep.DeepCutAuto
namespace Go.Proofs.Ytefocmcpeigfcaa
open Go Go.RowKit Go.Sort
set_option maxRecDepth 100000
set_option linter.unusedVariables false
/-- two routes are the same -/
def sameR (x y : Rt) : Bool := (x.a == y.a && x.n == y.n) && x.bal == y.bal && x.nx == y.nx
theorem Ri.at' {p : Nat → Prop} {w : World} {a : Option Addr} {n cap : Nat} {l : List Int} (h : Ri p w (.slice a n cap) l) {i : Nat} (hi : i < l.length) : ∃ b off : Nat, a = some ⟨b, off, none⟩ ∧ p b ∧ w.cell? ⟨b, off + i, none⟩ = some (.int .i64 (l.getD i 0)) := by
  obtain ⟨a', cap', e, hl, hc, hn, H⟩ := h
  cases e
  exact H i hi
theorem list_at {x y : List Int} (hl : x.length = y.length) (h : ∀ j, j < x.length → x.getD j 0 = y.getD j 0) : x = y := by
  apply List.ext_getElem hl
  intro i h1 h2
  have := h i h1
  rw [List.getD_eq_getElem?_getD, List.getD_eq_getElem?_getD, List.getElem?_eq_getElem h1, List.getElem?_eq_getElem h2] at this
  exact this
set_option maxHeartbeats 1000000 in
theorem sameR_any {p q : Nat → Prop} (va vb : Value) (x y : Rt) (w : World) (hx : Rv p w va x) (hy : Rv q w vb y) (hlx : x.nx.length ≤ 1000) :
    Calls Try.prog 17 #[va, vb] w fun e w' => e = .returned (.bool (sameR x y)) ∧ Gr w w' := by
  obtain ⟨nx, rfl, -, hx⟩ := hx
  obtain ⟨ny, rfl, -, hy⟩ := hy
  have HX := Lib.hid hx
  have HY := Lib.hid hy
  obtain ⟨ax, cx, rfl⟩ := hx.form
  obtain ⟨ay, cy, rfl⟩ := hy.form
  clear hx hy
  generalize hpx : x.nx.length = lx at *
  generalize hpy : y.nx.length = ly at *
  have HLX := Lib.hid hpx
  have HLY := Lib.hid hpy
  unfold rtv
  dsimp only
  have hres : sameR x y = ((x.a == y.a && x.n == y.n) && x.bal == y.bal && x.nx == y.nx) := rfl
  have hne := fun w => ne_pref w x.a x.n y.a y.n
  have hgd := guard_pref
  generalize hq : (x.a == y.a && x.n == y.n) = q1 at hne hres
  have hbe : (x.bal != y.bal) = !(x.bal == y.bal) := rfl
  generalize hq2 : (x.bal == y.bal) = q2 at hbe hres
  have hle : (((lx : Nat) : Int) != ((ly : Nat) : Int)) = !decide (lx = ly) := by
    by_cases h : lx = ly
    · subst h; simp
    · have h2 : (lx : Int) ≠ (ly : Int) := by omega
      simp [h, h2]
  have HR := Lib.hid hres
  clear hpx hpy hq hq2 hres
  cases q1
  · go_enter Try.func17, Try.ntmps17
    go_wp2_with fail
    go_ret
    exact ⟨by rw [HR.out]; rfl, ((Gr.refl _).alloc _).alloc _⟩
  cases q2
  · rw [Bool.not_false] at hbe
    go_enter Try.func17, Try.ntmps17
    go_wp2_with fail
    go_ret
    exact ⟨by rw [HR.out]; rfl, ((Gr.refl _).alloc _).alloc _⟩
  rw [Bool.not_true] at hbe
  by_cases hll : lx = ly
  case neg =>
    rw [decide_eq_false hll, Bool.not_false] at hle
    have HLL := Lib.hid hll
    clear hll
    go_enter Try.func17, Try.ntmps17
    go_wp2_with fail
    go_ret
    refine ⟨?_, ((Gr.refl _).alloc _).alloc _⟩
    rw [HR.out]
    have : (x.nx == y.nx) = false := by
      rw [beq_eq_false_iff_ne]; intro e; exact HLL.out (by rw [← HLX.out, ← HLY.out, e])
    simp [this]
  case pos =>
    subst hll
    rw [decide_eq_true rfl, Bool.not_true] at hle
    go_enter Try.func17, Try.ntmps17
    go_wp2_with fail
    have hGa : Gr w ((w.alloc (.cells #[.int .u32 x.a, .int .i64 x.n, .slice ax lx cx, .int .i64 x.bal] 34)).alloc (.cells #[.int .u32 y.a, .int .i64 y.n, .slice ay lx cy, .int .i64 y.bal] 34)) := ((Gr.refl _).alloc _).alloc _
    have k1 : CL ((w.alloc (.cells #[.int .u32 x.a, .int .i64 x.n, .slice ax lx cx, .int .i64 x.bal] 34)).alloc (.cells #[.int .u32 y.a, .int .i64 y.n, .slice ay lx cy, .int .i64 y.bal] 34)) w.heap.size [.int .u32 x.a, .int .i64 x.n, .slice ax lx cx, .int .i64 x.bal] := (CL.new _ _ _ _ rfl).gr ((Gr.refl _).alloc _)
    have k2 : CL ((w.alloc (.cells #[.int .u32 x.a, .int .i64 x.n, .slice ax lx cx, .int .i64 x.bal] 34)).alloc (.cells #[.int .u32 y.a, .int .i64 y.n, .slice ay lx cy, .int .i64 y.bal] 34)) (w.heap.size + 1) [.int .u32 y.a, .int .i64 y.n, .slice ay lx cy, .int .i64 y.bal] := CL.new _ _ _ _ (by simp)
    generalize (w.alloc (.cells #[.int .u32 x.a, .int .i64 x.n, .slice ax lx cx, .int .i64 x.bal] 34)).alloc (.cells #[.int .u32 y.a, .int .i64 y.n, .slice ay lx cy, .int .i64 y.bal] 34) = Wa at *
    go_loopw [5] (fun i wr => ∃ k : Nat, i = .int .i64 k ∧ k ≤ lx ∧ (∀ j, j < k → x.nx.getD j 0 = y.nx.getD j 0) ∧ Gr w wr ∧ CL wr w.heap.size [.int .u32 x.a, .int .i64 x.n, .slice ax lx cx, .int .i64 x.bal] ∧ CL wr (w.heap.size + 1) [.int .u32 y.a, .int .i64 y.n, .slice ay lx cy, .int .i64 y.bal])
      (fun i _ => lx - (intOf i).toNat)
    case atStart => exact ⟨0, rfl, by omega, fun j hj => by omega, hGa, k1, k2⟩
    case round =>
      obtain ⟨k, rfl, hk, hs, hG, hC1, hC2⟩ := hrel
      have HS := Lib.hid hs
      have HC1 := Lib.hid hC1
      have HC2 := Lib.hid hC2
      obtain ⟨⟨a0, a1, a2, a3⟩, -⟩ := hC1.four
      obtain ⟨⟨b0, b1, b2, b3⟩, -⟩ := hC2.four
      clear hs hC1 hC2
      by_cases hlt : k < lx
      · have k0 : (k : Int) < (lx : Int) := by omega
        obtain ⟨bx, ox, rfl, -, cx1⟩ := (HX.out.gr hG).at' (i := k) (by rw [HLX.out]; exact hlt)
        obtain ⟨by', oy, rfl, -, cy1⟩ := (HY.out.gr hG).at' (i := k) (by rw [HLY.out]; exact hlt)
        generalize hu : x.nx.getD k 0 = u at *
        generalize hv : y.nx.getD k 0 = v at *
        have HU := Lib.hid hu
        have HV := Lib.hid hv
        have A0 := fun d os => cell_regrown a2 d os
        have B0 := fun d os => cell_regrown b2 d os
        have D0 := fun d os => cell_regrown cx1 d os
        have E0 := fun d os => cell_regrown cy1 d os
        clear hu hv
        have hnn : (u != v) = !(u == v) := rfl
        generalize hq3 : (u == v) = q3 at hnn
        have HQ := Lib.hid hq3
        clear hq3
        go_wp2_with fail
        refine wp_region_quiet_below (by kernel_rfl) (by kernel_rfl) ?_
        repeat (any_goals (first | go_big_quiet_step (fail) | quiet_step (fail)))
        refine wpQuiet_nil ?_
        intro _ hw'
        obtain ⟨⟨dq, osq⟩, hw''⟩ := hw'
        subst hw''
        have hGb : Gr wr (grow (redrawn wr dq) osq) := (by repeat' (first | (with_reducible exact Gr.refl _) | (with_reducible assumption) | (with_reducible refine Gr.drewN ?_ _) | (with_reducible refine Gr.drew ?_) | (with_reducible refine Gr.alloc ?_ _) | (with_reducible refine Gr.setCell ?_ ?_ _) | (with_reducible refine Gr.grow ?_ _ _) | (refine Gr.step ?_ (by with_reducible assumption)) | go_size))
        generalize grow (redrawn wr dq) osq = w1 at *
        cases q3
        · rw [Bool.not_false] at hnn
          go_wp2_with fail
          go_ret
          refine ⟨?_, hG.step hGb⟩
          rw [HR.out]
          have : (x.nx == y.nx) = false := by
            rw [beq_eq_false_iff_ne]; intro e
            have h1 := HU.out
            have h2 := HV.out
            rw [e, h2] at h1
            have := beq_eq_false_iff_ne.1 HQ.out
            exact this h1.symm
          simp [this]
        · rw [Bool.not_true] at hnn
          go_wp2_with fail
          case roundEnd =>
            refine ⟨⟨k + 1, rfl, by omega, fun j hj => ?_, hG.step hGb, HC1.out.gr hGb, HC2.out.gr hGb⟩, by simp only [intOf]; omega⟩
            by_cases e : j = k
            · subst e; rw [HU.out, HV.out]; exact eq_of_beq HQ.out
            · exact HS.out j (by omega)
      · have k0 : ¬ (k : Int) < (lx : Int) := by omega
        go_wp2_with fail
        go_ret
        refine ⟨?_, hG⟩
        rw [HR.out]
        have : (x.nx == y.nx) = true := beq_iff_eq.2 (list_at (by rw [HLX.out, HLY.out]) fun j hj => HS.out j (by rw [HLX.out] at hj; omega))
        simp [this]
end Go.Proofs.Ytefocmcpeigfcaa
