/- Two tables are the same; the document's Lookup. -/
import Derived.Test.YtefocmcpeigfcaaAf
import Derived.WalkKit
import Derived.WalkSpells
import Derived.WalkLawsBesides
import Derived.WalkSmall
import Derived.Handy
import Derived.BigQuiet
import Derived.Deep.QuietTactic
import Derived.Deep.RegionHeld3
import Derived.Deep.DeepFit
import Derived.Below
import Derived.Lib.Hide
import Derived.Lib.QuietBelow
import Derived.Deep.DeepCutAuto
namespace Go.Proofs.Ytefocmcpeigfcaa
open Go Go.RowKit Go.Sort
set_option maxRecDepth 100000
set_option linter.unusedVariables false
/-- two tables are the same -/
def sameL : List Rt → List Rt → Bool
  | [], [] => true
  | x :: l, y :: m => sameR x y && sameL l m
  | _, _ => false
theorem sameL_len : ∀ {l m : List Rt}, l.length ≠ m.length → sameL l m = false
  | [], [], h => absurd rfl h
  | [], _ :: _, _ => rfl
  | _ :: _, [], _ => rfl
  | x :: l, y :: m, h => by
    rw [sameL, sameL_len (by simpa using h), Bool.and_false]
theorem sameL_all : ∀ {l m : List Rt}, l.length = m.length → (∀ (j : Nat) (x y : Rt), l[j]? = some x → m[j]? = some y → sameR x y = true) → sameL l m = true
  | [], [], _, _ => rfl
  | [], _ :: _, h, _ => by simp at h
  | _ :: _, [], h, _ => by simp at h
  | x :: l, y :: m, hl, h => by
    rw [sameL, h 0 x y rfl rfl, Bool.true_and]
    exact sameL_all (by simpa using hl) fun j a b ha hb => h (j + 1) a b (by simpa using ha) (by simpa using hb)
theorem sameL_no : ∀ {l m : List Rt} (j : Nat) (x y : Rt), l[j]? = some x → m[j]? = some y → sameR x y = false → sameL l m = false
  | [], _, j, x, y, h, _, _ => by simp at h
  | _ :: _, [], j, x, y, _, h, _ => by simp at h
  | a :: l, b :: m, 0, x, y, h1, h2, h3 => by
    simp at h1 h2; subst h1; subst h2
    rw [sameL, h3, Bool.false_and]
  | a :: l, b :: m, j + 1, x, y, h1, h2, h3 => by
    rw [sameL, sameL_no j x y (by simpa using h1) (by simpa using h2) h3, Bool.and_false]
set_option maxHeartbeats 1000000 in
theorem same_any {p q : Nat → Prop} (va vb : Value) (l m : List Rt) (w : World) (hx : Tb p w va l) (hy : Tb q w vb m) (hf : Few l) :
    Calls Try.prog 18 #[va, vb] w fun e w' => e = .returned (.bool (sameL l m)) ∧ Gr w w' := by
  have HX := Lib.hid hx
  have HY := Lib.hid hy
  have HF := Lib.hid hf
  have hl := hf.1
  obtain ⟨ax, cx, rfl, -, -⟩ := hx.form
  obtain ⟨ay, cy, rfl, -, -⟩ := hy.form
  clear hx hy hf
  generalize hpx : l.length = lx at *
  generalize hpy : m.length = ly at *
  have HLX := Lib.hid hpx
  have HLY := Lib.hid hpy
  clear hpx hpy
  by_cases hll : lx = ly
  case neg =>
    have hle : (((lx : Nat) : Int) != ((ly : Nat) : Int)) = true := by
      have h2 : (lx : Int) ≠ (ly : Int) := by omega
      simp [h2]
    have HLL := Lib.hid hll
    have hl2 : ¬ (lx : Int) = (ly : Int) := by omega
    clear hll
    go_enter Try.func18, Try.ntmps18
    go_wp2_with fail
    go_ret
    exact ⟨by rw [sameL_len (by rw [HLX.out, HLY.out]; exact HLL.out)]; rfl, Gr.refl _⟩
  case pos =>
    subst hll
    have hle : (((lx : Nat) : Int) != ((lx : Nat) : Int)) = false := by simp
    go_enter Try.func18, Try.ntmps18
    go_wp2_with fail
    go_loopw [5] (fun i wr => ∃ k : Nat, i = .int .i64 k ∧ k ≤ lx ∧ (∀ (j : Nat) (x y : Rt), j < k → l[j]? = some x → m[j]? = some y → sameR x y = true) ∧ Gr w wr)
      (fun i _ => lx - (intOf i).toNat)
    case atStart => exact ⟨0, rfl, by omega, fun j x y hj => by omega, Gr.refl _⟩
    case round =>
      obtain ⟨k, rfl, hk, hs, hG⟩ := hrel
      have HS := Lib.hid hs
      clear hs
      by_cases hlt : k < lx
      · have k0 : (k : Int) < (lx : Int) := by omega
        obtain ⟨x, hx⟩ : ∃ x, l[k]? = some x := ⟨_, List.getElem?_eq_getElem (by have := HLX.out; omega)⟩
        obtain ⟨y, hy⟩ : ∃ y, m[k]? = some y := ⟨_, List.getElem?_eq_getElem (by have := HLY.out; omega)⟩
        obtain ⟨b1, o1, n1, rfl, -, hc1, hk1, hn1⟩ := (HX.out.gr hG).at' hx
        obtain ⟨b2, o2, n2, rfl, -, hc2, hk2, hn2⟩ := (HY.out.gr hG).at' hy
        have hxn := HF.out.2 x (List.mem_of_getElem? hx)
        have HXA := Lib.hid hx
        have HYA := Lib.hid hy
        obtain ⟨c0, c1, c2, c3⟩ := hc1
        obtain ⟨d0, d1, d2, d3⟩ := hc2
        have C0 := fun d os => cell_regrown c0 d os
        have C1 := fun d os => cell_regrown c1 d os
        have C2 := fun d os => cell_regrown c2 d os
        have C3 := fun d os => cell_regrown c3 d os
        have D0 := fun d os => cell_regrown d0 d os
        have D1 := fun d os => cell_regrown d1 d os
        have D2 := fun d os => cell_regrown d2 d os
        have D3 := fun d os => cell_regrown d3 d os
        have hcc : ∀ d os, Calls Try.prog 17 #[.agg #[.int .u32 x.a, .int .i64 x.n, n1, .int .i64 x.bal], .agg #[.int .u32 y.a, .int .i64 y.n, n2, .int .i64 y.bal]] (grow (redrawn wr d) os) fun e w' => e = .returned (.bool (sameR x y)) ∧ Gr (grow (redrawn wr d) os) w' :=
          fun d os => sameR_any _ _ x y _ ⟨n1, rfl, hk1, hn1.gr ((Gr.refl _).grow _ _)⟩ ⟨n2, rfl, hk2, hn2.gr ((Gr.refl _).grow _ _)⟩ hxn
        generalize hq : sameR x y = qq at hcc
        have HQ := Lib.hid hq
        clear hx hy hk1 hk2 hn1 hn2 hxn c0 c1 c2 c3 d0 d1 d2 d3 hq
        go_wp2_with fail
        refine wp_region_quiet_below (by kernel_rfl) (by kernel_rfl) ?_
        repeat (any_goals (first | go_big_quiet_step (first | (go_at_call 17; exact Calls.gr_of (hcc _ _))) | quiet_step (first | (go_at_call 17; exact Calls.gr_of (hcc _ _)))))
        refine wpQuiet_nil ?_
        intro _ hw'
        obtain ⟨⟨dq, osq⟩, hw''⟩ := hw'
        subst hw''
        have hGb : Gr wr (grow (redrawn wr dq) osq) := (by repeat' (first | (with_reducible exact Gr.refl _) | (with_reducible assumption) | (with_reducible refine Gr.drewN ?_ _) | (with_reducible refine Gr.drew ?_) | (with_reducible refine Gr.alloc ?_ _) | (with_reducible refine Gr.setCell ?_ ?_ _) | (with_reducible refine Gr.grow ?_ _ _) | (refine Gr.step ?_ (by with_reducible assumption)) | go_size))
        generalize grow (redrawn wr dq) osq = w1 at *
        cases qq
        · go_wp2_with fail
          go_ret
          exact ⟨by rw [sameL_no k x y HXA.out HYA.out HQ.out]; rfl, hG.step hGb⟩
        · go_wp2_with fail
          case roundEnd =>
            refine ⟨⟨k + 1, rfl, by omega, fun j u v hj hu hv => ?_, hG.step hGb⟩, by simp only [intOf]; omega⟩
            by_cases e : j = k
            · subst e
              rw [HXA.out] at hu; rw [HYA.out] at hv
              cases hu; cases hv
              exact HQ.out
            · exact HS.out j u v (by omega) hu hv
      · have k0 : ¬ (k : Int) < (lx : Int) := by omega
        go_wp2_with fail
        go_ret
        refine ⟨?_, hG⟩
        rw [sameL_all (by rw [HLX.out, HLY.out]) fun j x y hx hy => HS.out j x y (by have := (List.getElem?_eq_some_iff.1 hx).1; rw [HLX.out] at this; omega) hx hy]
        rfl
end Go.Proofs.Ytefocmcpeigfcaa
