/- The program's Check. -/
import Derived.Test.YtefocmcpeigfcaaAe
import Derived.Test.YtefocmcpeigfcaaAt
import Derived.WalkKit
import Derived.WalkSpells
import Derived.WalkLawsBesides
import Derived.WalkSmall
import Derived.Handy
import Derived.BigQuiet
import Derived.Deep.QuietTactic
import Derived.Deep.RegionHeld3
import Derived.Deep.DeepFit
import Derived.Below
import Derived.Lib.Hide
import Derived.Lib.QuietBelow
import Derived.Deep.DeepCutAuto
namespace Go.Proofs.Ytefocmcpeigfcaa
open Go Go.RowKit Go.Sort
set_option maxRecDepth 100000
set_option linter.unusedVariables false
/-- the route at j is not greater than that before it -/
def ordBad (l : List Rt) (r : Rt) : Nat → Bool
  | 0 => false
  | i + 1 => match l[i]? with
    | some y => decide (0 ≤ cmr y r)
    | none => false
/-- next links and way are right -/
def WayOk (r : Rt) (ks : List Int) : Prop := NxAll r.nx ks ∧ 1 ≤ r.bal ∧ r.bal ≤ 3
/-- the error of the route at j, 0 if it has none -/
def StepE (l : List Rt) (ks : List Int) (j : Nat) (e : Int) : Prop :=
  ∃ r, l[j]? = some r ∧ ((vld r.a r.n = false ∧ e = 10) ∨ (vld r.a r.n = true ∧ ordBad l r j = true ∧ e = 6) ∨ (vld r.a r.n = true ∧ ordBad l r j = false ∧ ¬ WayOk r ks ∧ e = 12) ∨ (vld r.a r.n = true ∧ ordBad l r j = false ∧ WayOk r ks ∧ e = 0))
theorem stepE_one {l : List Rt} {ks : List Int} {j : Nat} {e f : Int} (h : StepE l ks j e) (k : StepE l ks j f) : e = f := by
  obtain ⟨r, hr, h⟩ := h
  obtain ⟨s, hs, k⟩ := k
  rw [hr] at hs; cases hs
  rcases h with ⟨a1, a2⟩ | ⟨a1, a2, a3⟩ | ⟨a1, a2, a3, a4⟩ | ⟨a1, a2, a3, a4⟩ <;> rcases k with ⟨b1, b2⟩ | ⟨b1, b2, b3⟩ | ⟨b1, b2, b3, b4⟩ | ⟨b1, b2, b3, b4⟩ <;> simp_all
/-- the error of a table -/
def Chk (l : List Rt) (ks : List Int) (e : Int) : Prop :=
  (64 < l.length ∧ e = 5) ∨ (l.length ≤ 64 ∧ ((∃ k, (∀ j, j < k → StepE l ks j 0) ∧ StepE l ks k e ∧ e ≠ 0) ∨ ((∀ j, j < l.length → StepE l ks j 0) ∧ e = 0)))
theorem stepE_lt {l : List Rt} {ks : List Int} {j : Nat} {e : Int} (h : StepE l ks j e) : j < l.length := by
  obtain ⟨r, hr, -⟩ := h
  exact (List.getElem?_eq_some_iff.1 hr).1
theorem chk_one {l : List Rt} {ks : List Int} {e f : Int} (h : Chk l ks e) (k : Chk l ks f) : e = f := by
  rcases h with ⟨a1, a2⟩ | ⟨a1, ⟨i, a2, a3, a4⟩ | ⟨a2, a3⟩⟩ <;> rcases k with ⟨b1, b2⟩ | ⟨b1, ⟨m, b2, b3, b4⟩ | ⟨b2, b3⟩⟩
  · omega
  · omega
  · omega
  · omega
  · rcases Nat.lt_trichotomy i m with h | h | h
    · exact absurd (stepE_one a3 (b2 i h)) a4
    · subst h; exact stepE_one a3 b3
    · exact absurd (stepE_one b3 (a2 m h)) b4
  · exact absurd (stepE_one a3 (b2 i (stepE_lt a3))) a4
  · omega
  · exact absurd (stepE_one b3 (a2 m (stepE_lt b3))) b4
  · omega
def ChkPost (l : List Rt) (ks : List Int) (w : World) (e : Ending) (w' : World) : Prop := ∃ x : Int, e = .returned (.int .i64 x) ∧ Chk l ks x ∧ Gr w w'
set_option maxHeartbeats 2000000 in
theorem check_any {p q : Nat → Prop} (v v2 : Value) (l : List Rt) (ks : List Int) (w : World) (h : Tb p w v l) (h2 : Ri q w v2 ks) (hlk : ks.length ≤ 1000) :
    Calls Try.prog 12 #[v, v2] w (ChkPost l ks w) := by
  have HT := Lib.hid h
  have HS := Lib.hid h2
  obtain ⟨ad, cap, rfl, hlc, hcp⟩ := h.form
  generalize hln : l.length = n at *
  have HN := Lib.hid hln
  clear h h2 hln
  by_cases h64 : 64 < n
  · have d64 : (n : Int) > 64 := by omega
    go_enter Try.func12, Try.ntmps12
    go_wp2_with fail
    go_ret
    exact ⟨5, rfl, .inl ⟨by rw [HN.out]; exact h64, rfl⟩, Gr.refl _⟩
  · have d64 : ¬ (n : Int) > 64 := by omega
    go_enter Try.func12, Try.ntmps12
    go_wp2_with fail
    go_loopw [12] (fun i wr => ∃ k : Nat, i = .int .i64 k ∧ k ≤ n ∧ (∀ j, j < k → StepE l ks j 0) ∧ Gr w wr)
      (fun i _ => n - (intOf i).toNat)
    case atStart => exact ⟨0, rfl, by omega, fun j hj => by omega, Gr.refl _⟩
    case round =>
      obtain ⟨k, rfl, hk, hall, hG⟩ := hrel
      have HA := Lib.hid hall
      clear hall
      by_cases hlt : k < n
      · have k0 : (k : Int) < (n : Int) := by omega
        obtain ⟨r, hr⟩ : ∃ r, l[k]? = some r := ⟨_, List.getElem?_eq_getElem (by have := HN.out; omega)⟩
        obtain ⟨b, off, nv, rfl, -, hcell, hok, hnx⟩ := (HT.out.gr hG).at' hr
        obtain ⟨ax, cx, rfl⟩ := hnx.form
        have HX := Lib.hid hnx
        have HK := Lib.hid hok
        have HRR := Lib.hid hr
        obtain ⟨c0, c1, c2, c3⟩ := hcell
        clear hnx hok hr
        go_wp2_with fail
        have kN : CL (wr.alloc (.cells #[.int .u32 r.a, .int .i64 r.n, .slice ax r.nx.length cx, .int .i64 r.bal] 34)) wr.heap.size [.int .u32 r.a, .int .i64 r.n, .slice ax r.nx.length cx, .int .i64 r.bal] := CL.new _ _ _ _ rfl
        have gN : Gr wr (wr.alloc (.cells #[.int .u32 r.a, .int .i64 r.n, .slice ax r.nx.length cx, .int .i64 r.bal] 34)) := (Gr.refl _).alloc _
        generalize hwn : wr.alloc (.cells #[.int .u32 r.a, .int .i64 r.n, .slice ax r.nx.length cx, .int .i64 r.bal] 34) = w2 at *
        clear hwn
        generalize hg : wr.heap.size = g at *
        clear hg c0 c1 c2 c3
        refine (valid_any r.a r.n w2 HK.out.1 HK.out.2).mono ?_
        rintro e w3 ⟨rfl, hg3⟩
        have hG3 : Gr wr w3 := gN.step hg3
        have HK3 := Lib.hid (kN.gr hg3)
        clear kN gN hg3
        cases hv : vld r.a r.n
        · have hstep : StepE l ks k 10 := ⟨r, HRR.out, .inl ⟨hv, rfl⟩⟩
          have HSE := Lib.hid hstep
          clear hv hstep
          go_wp2_with fail
          go_ret
          exact ⟨10, rfl, .inr ⟨by rw [HN.out]; omega, .inl ⟨k, HA.out, HSE.out, by decide⟩⟩, hG.step hG3⟩
        · have HV := Lib.hid hv
          clear hv
          obtain ⟨⟨a0, a1, a2, a3⟩, -⟩ := HK3.out.four
          have A0 := fun d os => cell_regrown a0 d os
          have A1 := fun d os => cell_regrown a1 d os
          clear a0 a1 a2 a3
          by_cases h0 : k = 0
          · have hob : ordBad l r k = false := by rw [h0]; rfl
            have HOB := Lib.hid hob
            have kk : ¬ (k : Int) > 0 := by omega
            have hd0 : decide (0 < k) = false := decide_eq_false (by omega)
            clear h0 hob
            go_wp2_with fail
            refine wp_region_quiet_below (by kernel_rfl) (by kernel_rfl) ?_
            repeat (any_goals (first | go_big_quiet_step (fail) | quiet_step (fail)))
            refine wpQuiet_nil ?_
            intro _ hw'
            obtain ⟨⟨dq, osq⟩, hw''⟩ := hw'
            subst hw''
            have hGb : Gr w3 (grow (redrawn w3 dq) osq) := (by repeat' (first | (with_reducible exact Gr.refl _) | (with_reducible assumption) | (with_reducible refine Gr.drewN ?_ _) | (with_reducible refine Gr.drew ?_) | (with_reducible refine Gr.alloc ?_ _) | (with_reducible refine Gr.setCell ?_ ?_ _) | (with_reducible refine Gr.grow ?_ _ _) | (refine Gr.step ?_ (by with_reducible assumption)) | go_size))
            obtain ⟨⟨a0, a1, a2, a3⟩, -⟩ := (HK3.out.gr hGb).four
            generalize grow (redrawn w3 dq) osq = w9 at *
            clear A0 A1
            -- region 10
            go_wp2_with fail
            refine (usable_any _ v2 r.nx ks w9 (HX.out.gr (hG3.step hGb)) (HS.out.gr (hG.step (hG3.step hGb))) hlk).mono ?_
            rintro e w10 ⟨q, rfl, hq, hg10⟩
            have hG10 := (hG3.step hGb).step hg10
            clear a0 a1 a2 a3
            obtain ⟨⟨a0, a1, a2, a3⟩, -⟩ := (HK3.out.gr (hGb.step hg10)).four
            cases q
            · have hstep : StepE l ks k 12 := ⟨r, HRR.out, .inr (.inr (.inl ⟨HV.out, HOB.out, (fun h => by have := hq.2 h.1; cases this), rfl⟩))⟩
              have HSE := Lib.hid hstep
              clear hq hstep
              go_wp2_with fail
              go_ret
              exact ⟨12, rfl, .inr ⟨by rw [HN.out]; omega, .inl ⟨k, HA.out, HSE.out, by decide⟩⟩, hG.step hG10⟩
            · have hn := hq.1 rfl
              have HNX := Lib.hid hn
              clear hq hn
              go_wp2_with fail
              refine (balanced_any r.bal w10).mono ?_
              rintro e w11 ⟨rfl, hg11⟩
              by_cases hbal : 1 ≤ r.bal ∧ r.bal ≤ 3
              · rw [decide_eq_true hbal]
                have hstep : StepE l ks k 0 := ⟨r, HRR.out, .inr (.inr (.inr ⟨HV.out, HOB.out, ⟨HNX.out, hbal⟩, rfl⟩))⟩
                have HSE := Lib.hid hstep
                clear hbal hstep
                go_wp2_with fail
                case roundEnd =>
                  refine ⟨⟨k + 1, rfl, by omega, fun j hj => ?_, hG.step (hG10.step hg11)⟩, by simp only [intOf]; omega⟩
                  by_cases e : j = k
                  · subst e; exact HSE.out
                  · exact HA.out j (by omega)
              · rw [decide_eq_false hbal]
                have hstep : StepE l ks k 12 := ⟨r, HRR.out, .inr (.inr (.inl ⟨HV.out, HOB.out, fun h => hbal h.2, rfl⟩))⟩
                have HSE := Lib.hid hstep
                clear hbal hstep
                go_wp2_with fail
                go_ret
                exact ⟨12, rfl, .inr ⟨by rw [HN.out]; omega, .inl ⟨k, HA.out, HSE.out, by decide⟩⟩, hG.step (hG10.step hg11)⟩
          · obtain ⟨i, hi⟩ : ∃ i, k = i + 1 := ⟨k - 1, by omega⟩
            obtain ⟨y, hy⟩ : ∃ y, l[i]? = some y := ⟨_, List.getElem?_eq_getElem (by have := HN.out; omega)⟩
            obtain ⟨b', off', nv', ea, -, hcell', hok', -⟩ := (HT.out.gr (hG.step hG3)).at' hy
            cases ea
            obtain ⟨c0, c1, c2, c3⟩ := hcell'
            have C0 := fun d os => cell_regrown c0 d os
            have C1 := fun d os => cell_regrown c1 d os
            clear c0 c1 c2 c3
            have hob : ordBad l r k = decide (0 ≤ cmr y r) := by rw [hi, ordBad, hy]
            have kk : (k : Int) > 0 := by omega
            have hd0 : decide (0 < k) = true := decide_eq_true (by omega)
            have km : (k : Int) - 1 = (i : Int) := by omega
            have i0 : (i : Int) < (n : Int) := by omega
            have i00 : (0 : Int) ≤ (i : Int) := by omega
            have hcc := fun w' => compare_any y.a y.n r.a r.n w'
            rw [show cmpp y.a y.n r.a r.n = cmr y r from rfl] at hcc
            generalize cmr y r = c at *
            by_cases hc0 : c ≥ 0
            · have hd : decide (c ≥ 0) = true := decide_eq_true hc0
              have hstep : StepE l ks k 6 := ⟨r, HRR.out, .inr (.inl ⟨HV.out, by rw [hob]; exact hd, rfl⟩)⟩
              have HSE := Lib.hid hstep
              clear hob hstep hi
              go_wp2_with fail
              refine wp_region_quiet_below (by kernel_rfl) (by kernel_rfl) ?_
              repeat (any_goals (first | go_big_quiet_step (first | (go_at_call 28; exact Calls.gr_of (hcc _))) | quiet_step (first | (go_at_call 28; exact Calls.gr_of (hcc _)))))
              refine wpQuiet_nil ?_
              intro _ hw'
              obtain ⟨⟨dq, osq⟩, hw''⟩ := hw'
              subst hw''
              have hGb : Gr w3 (grow (redrawn w3 dq) osq) := (by repeat' (first | (with_reducible exact Gr.refl _) | (with_reducible assumption) | (with_reducible refine Gr.drewN ?_ _) | (with_reducible refine Gr.drew ?_) | (with_reducible refine Gr.alloc ?_ _) | (with_reducible refine Gr.setCell ?_ ?_ _) | (with_reducible refine Gr.grow ?_ _ _) | (refine Gr.step ?_ (by with_reducible assumption)) | go_size))
              generalize grow (redrawn w3 dq) osq = w9 at *
              go_wp2_with fail
              go_ret
              exact ⟨6, rfl, .inr ⟨by rw [HN.out]; omega, .inl ⟨k, HA.out, HSE.out, by decide⟩⟩, hG.step (hG3.step hGb)⟩
            · have hd : decide (c ≥ 0) = false := decide_eq_false hc0
              have hob2 : ordBad l r k = false := by rw [hob]; exact hd
              have HOB := Lib.hid hob2
              clear hob hob2 hi
              go_wp2_with fail
              refine wp_region_quiet_below (by kernel_rfl) (by kernel_rfl) ?_
              repeat (any_goals (first | go_big_quiet_step (first | (go_at_call 28; exact Calls.gr_of (hcc _))) | quiet_step (first | (go_at_call 28; exact Calls.gr_of (hcc _)))))
              refine wpQuiet_nil ?_
              intro _ hw'
              obtain ⟨⟨dq, osq⟩, hw''⟩ := hw'
              subst hw''
              have hGb : Gr w3 (grow (redrawn w3 dq) osq) := (by repeat' (first | (with_reducible exact Gr.refl _) | (with_reducible assumption) | (with_reducible refine Gr.drewN ?_ _) | (with_reducible refine Gr.drew ?_) | (with_reducible refine Gr.alloc ?_ _) | (with_reducible refine Gr.setCell ?_ ?_ _) | (with_reducible refine Gr.grow ?_ _ _) | (refine Gr.step ?_ (by with_reducible assumption)) | go_size))
              obtain ⟨⟨a0, a1, a2, a3⟩, -⟩ := (HK3.out.gr hGb).four
              generalize grow (redrawn w3 dq) osq = w9 at *
              clear A0 A1 C0 C1 hcc
              -- region 10
              go_wp2_with fail
              refine (usable_any _ v2 r.nx ks w9 (HX.out.gr (hG3.step hGb)) (HS.out.gr (hG.step (hG3.step hGb))) hlk).mono ?_
              rintro e w10 ⟨q, rfl, hq, hg10⟩
              have hG10 := (hG3.step hGb).step hg10
              clear a0 a1 a2 a3
              obtain ⟨⟨a0, a1, a2, a3⟩, -⟩ := (HK3.out.gr (hGb.step hg10)).four
              cases q
              · have hstep : StepE l ks k 12 := ⟨r, HRR.out, .inr (.inr (.inl ⟨HV.out, HOB.out, (fun h => by have := hq.2 h.1; cases this), rfl⟩))⟩
                have HSE := Lib.hid hstep
                clear hq hstep
                go_wp2_with fail
                go_ret
                exact ⟨12, rfl, .inr ⟨by rw [HN.out]; omega, .inl ⟨k, HA.out, HSE.out, by decide⟩⟩, hG.step hG10⟩
              · have hn := hq.1 rfl
                have HNX := Lib.hid hn
                clear hq hn
                go_wp2_with fail
                refine (balanced_any r.bal w10).mono ?_
                rintro e w11 ⟨rfl, hg11⟩
                by_cases hbal : 1 ≤ r.bal ∧ r.bal ≤ 3
                · rw [decide_eq_true hbal]
                  have hstep : StepE l ks k 0 := ⟨r, HRR.out, .inr (.inr (.inr ⟨HV.out, HOB.out, ⟨HNX.out, hbal⟩, rfl⟩))⟩
                  have HSE := Lib.hid hstep
                  clear hbal hstep
                  go_wp2_with fail
                  case roundEnd =>
                    refine ⟨⟨k + 1, rfl, by omega, fun j hj => ?_, hG.step (hG10.step hg11)⟩, by simp only [intOf]; omega⟩
                    by_cases e : j = k
                    · subst e; exact HSE.out
                    · exact HA.out j (by omega)
                · rw [decide_eq_false hbal]
                  have hstep : StepE l ks k 12 := ⟨r, HRR.out, .inr (.inr (.inl ⟨HV.out, HOB.out, fun h => hbal h.2, rfl⟩))⟩
                  have HSE := Lib.hid hstep
                  clear hbal hstep
                  go_wp2_with fail
                  go_ret
                  exact ⟨12, rfl, .inr ⟨by rw [HN.out]; omega, .inl ⟨k, HA.out, HSE.out, by decide⟩⟩, hG.step (hG10.step hg11)⟩
      · obtain rfl : k = n := by omega
        have k0 : ¬ (k : Int) < (k : Int) := by omega
        go_wp2_with fail
        go_ret
        exact ⟨0, rfl, .inr ⟨by rw [HN.out]; omega, .inr ⟨fun j hj => HA.out j (by rw [HN.out] at hj; exact hj), rfl⟩⟩, hG⟩
end Go.Proofs.Ytefocmcpeigfcaa
