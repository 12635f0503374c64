/- Next links that are right: the document's. -/
import Derived.Test.YtefocmcpeigfcaaAt
import Derived.WalkKit
import Derived.WalkSpells
import Derived.WalkLawsBesides
import Derived.WalkSmall
import Derived.Handy
import Derived.BigQuiet
import Derived.Deep.QuietTactic
import Derived.Deep.RegionHeld3
import Derived.Deep.DeepFit
import Derived.Below
import Derived.Lib.Hide
import Derived.Lib.QuietBelow
import Derived.Deep.DeepCutAuto
namespace Go.Proofs.Ytefocmcpeigfcaa
open Go Go.RowKit Go.Sort
set_option maxRecDepth 100000
set_option linter.unusedVariables false
theorem contains_one (ks : List Int) (k : Nat) (y : Int) (h : k < ks.length) : (ks.take (k + 1)).contains y = ((ks.take k).contains y || ks.getD k 0 == y) := by
  have e : ks.take (k + 1) = ks.take k ++ [ks.getD k 0] := by
    rw [List.take_add_one, List.getD_eq_getElem?_getD, List.getElem?_eq_getElem h]; rfl
  rw [e]
  rw [Bool.eq_iff_iff]
  simp only [List.contains_iff_mem, List.mem_append, List.mem_singleton, Bool.or_eq_true, beq_iff_eq]
  constructor
  · rintro (h | h)
    · exact .inl h
    · exact .inr h.symm
  · rintro (h | h)
    · exact .inl h
    · exact .inr h.symm
set_option maxHeartbeats 2000000 in
theorem rnext_any {p q : Nat → Prop} (v1 v2 : Value) (nx ks : List Int) (w : World) (h1 : Ri p w v1 nx) (h2 : Ri q w v2 ks) (hl : ks.length ≤ 1000) :
    Calls Try.prog 33 #[v1, v2] w (NxPost nx ks w) := by
  have HR := Lib.hid h1
  have HS := Lib.hid h2
  obtain ⟨a, cap, rfl⟩ := h1.form
  obtain ⟨ak, ck, rfl⟩ := h2.form
  generalize hln : nx.length = n at *
  generalize hlm : ks.length = m at *
  have HN := Lib.hid hln
  have HM := Lib.hid hlm
  clear h1 h2 hln hlm
  by_cases h16 : 16 < n
  · have d16 : (n : Int) > 16 := by omega
    go_enter Try.func33, Try.ntmps33
    go_wp2_with fail
    go_ret
    exact ⟨false, rfl, ⟨(fun h => by cases h), fun h => by have := h.1; rw [HN.out] at this; omega⟩, Gr.refl _⟩
  · have d16 : ¬ (n : Int) > 16 := by omega
    go_enter Try.func33, Try.ntmps33
    go_wp2_with fail
    go_loopw [5] (fun i wr => ∃ k : Nat, i = .int .i64 k ∧ k ≤ n ∧ (∀ j, j < k → stp nx ks j = true) ∧ Gr w wr)
      (fun i _ => n - (intOf i).toNat)
    case atStart => exact ⟨0, rfl, by omega, fun j hj => by omega, Gr.refl _⟩
    case round =>
      obtain ⟨k, rfl, hk, hall, hG⟩ := hrel
      have HA := Lib.hid hall
      clear hall
      by_cases hlt : k < n
      · have k0 : (k : Int) < (n : Int) := by omega
        obtain ⟨b, off, rfl, -, hcw⟩ := HR.out.at' (i := k) (by rw [HN.out]; exact hlt)
        have HCW := Lib.hid hcw
        have hst : stp nx ks k = ((k == 0 || decide (nx.getD (k - 1) 0 < nx.getD k 0)) && ks.contains (nx.getD k 0)) := rfl
        have hno : stp nx ks k = false → ¬ NxAll nx ks := fun h h2 => by
          have := h2.2 k (by rw [HN.out]; exact hlt)
          rw [h] at this; cases this
        generalize hy : nx.getD k 0 = y at *
        have HST := Lib.hid hst
        have HNO := Lib.hid hno
        clear hst hno hy hcw
        go_wp2_with fail
        go_loopw [6, 7] (fun fd i wv => ∃ j : Nat, i = .int .i64 j ∧ j ≤ m ∧ fd = .bool ((ks.take j).contains y) ∧ Gr w wv)
          (fun _ i _ => m - (intOf i).toNat)
        case atStart => exact ⟨0, rfl, by omega, by simp, hG⟩
        case round =>
          obtain ⟨j, rfl, hj, rfl, hG2⟩ := hrel
          by_cases hjm : j < m
          · have j0 : (j : Int) < (m : Int) := by omega
            obtain ⟨b2, o2, rfl, -, hc2⟩ := (HS.out.gr hG2).at' (i := j) (by rw [HM.out]; exact hjm)
            have hone := contains_one ks j y (by rw [HM.out]; exact hjm)
            have hc1 := ((Gr.cells hG2).1 b _ (World.block_lt_of_cell? _ _ HCW.out)).trans HCW.out
            generalize ks.getD j 0 = z at *
            generalize (ks.take j).contains y = fd at *
            have HONE := Lib.hid hone
            clear hone
            have C1 := fun d os => cell_regrown hc1 d os
            have C2 := fun d os => cell_regrown hc2 d os
            clear hc1 hc2
            cases fd
            · go_wp2_with fail
              refine wp_region_quiet_below (by kernel_rfl) (by kernel_rfl) ?_
              repeat (any_goals (first | go_big_quiet_step (fail) | quiet_step (fail)))
              refine wpQuiet_nil ?_
              intro _ hw'
              obtain ⟨⟨dq, osq⟩, hw''⟩ := hw'
              subst hw''
              have hGb : Gr wr (grow (redrawn wr dq) osq) := (by repeat' (first | (with_reducible exact Gr.refl _) | (with_reducible assumption) | (with_reducible refine Gr.drewN ?_ _) | (with_reducible refine Gr.drew ?_) | (with_reducible refine Gr.alloc ?_ _) | (with_reducible refine Gr.setCell ?_ ?_ _) | (with_reducible refine Gr.grow ?_ _ _) | (refine Gr.step ?_ (by with_reducible assumption)) | go_size))
              generalize grow (redrawn wr dq) osq = w9 at *
              go_wp2_with fail
              case roundEnd =>
                refine ⟨⟨j + 1, rfl, by omega, ?_, hG2.step hGb⟩, by simp only [intOf]; omega⟩
                rw [HONE.out, Bool.false_or]
            · go_wp2_with fail
              refine wp_region_quiet_below (by kernel_rfl) (by kernel_rfl) ?_
              repeat (any_goals (first | go_big_quiet_step (fail) | quiet_step (fail)))
              refine wpQuiet_nil ?_
              intro _ hw'
              obtain ⟨⟨dq, osq⟩, hw''⟩ := hw'
              subst hw''
              have hGb : Gr wr (grow (redrawn wr dq) osq) := (by repeat' (first | (with_reducible exact Gr.refl _) | (with_reducible assumption) | (with_reducible refine Gr.drewN ?_ _) | (with_reducible refine Gr.drew ?_) | (with_reducible refine Gr.alloc ?_ _) | (with_reducible refine Gr.setCell ?_ ?_ _) | (with_reducible refine Gr.grow ?_ _ _) | (refine Gr.step ?_ (by with_reducible assumption)) | go_size))
              generalize grow (redrawn wr dq) osq = w9 at *
              go_wp2_with fail
              case roundEnd =>
                refine ⟨⟨j + 1, rfl, by omega, ?_, hG2.step hGb⟩, by simp only [intOf]; omega⟩
                rw [HONE.out, Bool.true_or]
          · obtain rfl : j = m := by omega
            have j0 : ¬ (j : Int) < (j : Int) := by omega
            have hfd : (ks.take j).contains y = ks.contains y := by rw [← HM.out, List.take_length]
            rw [hfd]
            generalize hq : ks.contains y = qc at *
            have hst := HST.out
            clear hq hfd
            cases qc
            · have hf : stp nx ks k = false := by rw [hst]; simp
              have HF := Lib.hid hf
              clear hst hf
              go_wp2_with fail
              refine wp_region_quiet_below (by kernel_rfl) (by kernel_rfl) ?_
              repeat (any_goals (first | go_big_quiet_step (fail) | quiet_step (fail)))
              refine wpQuiet_nil ?_
              intro _ hw'
              obtain ⟨⟨dq, osq⟩, hw''⟩ := hw'
              subst hw''
              have hGb : Gr wr (grow (redrawn wr dq) osq) := (by repeat' (first | (with_reducible exact Gr.refl _) | (with_reducible assumption) | (with_reducible refine Gr.drewN ?_ _) | (with_reducible refine Gr.drew ?_) | (with_reducible refine Gr.alloc ?_ _) | (with_reducible refine Gr.setCell ?_ ?_ _) | (with_reducible refine Gr.grow ?_ _ _) | (refine Gr.step ?_ (by with_reducible assumption)) | go_size))
              generalize grow (redrawn wr dq) osq = w9 at *
              go_wp2_with fail
              go_ret
              exact ⟨false, rfl, ⟨(fun h => by cases h), fun h => absurd h (HNO.out HF.out)⟩, hG2.step hGb⟩
            · by_cases h0 : k = 0
              · have kk : ¬ (k : Int) > 0 := by omega
                have hd0 : decide (0 < k) = false := decide_eq_false (by omega)
                have hf : stp nx ks k = true := by rw [hst, h0]; simp
                have HF := Lib.hid hf
                have H0 := Lib.hid h0
                clear hst hf h0
                go_wp2_with fail
                refine wp_region_quiet_below (by kernel_rfl) (by kernel_rfl) ?_
                repeat (any_goals (first | go_big_quiet_step (fail) | quiet_step (fail)))
                refine wpQuiet_nil ?_
                intro _ hw'
                obtain ⟨⟨dq, osq⟩, hw''⟩ := hw'
                subst hw''
                have hGb : Gr wr (grow (redrawn wr dq) osq) := (by repeat' (first | (with_reducible exact Gr.refl _) | (with_reducible assumption) | (with_reducible refine Gr.drewN ?_ _) | (with_reducible refine Gr.drew ?_) | (with_reducible refine Gr.alloc ?_ _) | (with_reducible refine Gr.setCell ?_ ?_ _) | (with_reducible refine Gr.grow ?_ _ _) | (refine Gr.step ?_ (by with_reducible assumption)) | go_size))
                generalize grow (redrawn wr dq) osq = w9 at *
                go_wp2_with fail
                case roundEnd =>
                  refine ⟨⟨k + 1, rfl, by omega, fun j hj => ?_, hG2.step hGb⟩, by simp only [intOf]; omega⟩
                  obtain rfl : j = k := by have := H0.out; omega
                  exact HF.out
              · obtain ⟨i, rfl⟩ : ∃ i, k = i + 1 := ⟨k - 1, by omega⟩
                obtain ⟨b', off', e, -, hc'⟩ := HR.out.at' (i := i) (by rw [HN.out]; omega)
                cases e
                have hc1 := ((Gr.cells hG2).1 b _ (World.block_lt_of_cell? _ _ HCW.out)).trans HCW.out
                have hc2 := ((Gr.cells hG2).1 b _ (World.block_lt_of_cell? _ _ hc')).trans hc'
                have kk : ((i + 1 : Nat) : Int) > 0 := by omega
                have hd0 : decide (((i + 1 : Nat) : Int) > 0) = true := decide_eq_true kk
                have km : ((i + 1 : Nat) : Int) - 1 = (i : Int) := by omega
                have i0 : (i : Int) < (n : Int) := by omega
                have i00 : (0 : Int) ≤ (i : Int) := by omega
                rw [Nat.add_sub_cancel] at hst
                generalize hz : nx.getD i 0 = z at *
                have C1 := fun d os => cell_regrown hc1 d os
                have C2 := fun d os => cell_regrown hc2 d os
                clear hc1 hc2 hc' hz
                by_cases hge : z ≥ y
                · have hd : decide (z ≥ y) = true := decide_eq_true hge
                  have hf : stp nx ks (i + 1) = false := by
                    rw [hst, show decide (z < y) = false from decide_eq_false (by omega)]; simp
                  have HF := Lib.hid hf
                  clear hst hf
                  go_wp2_with fail
                  refine wp_region_quiet_below (by kernel_rfl) (by kernel_rfl) ?_
                  repeat (any_goals (first | go_big_quiet_step (fail) | quiet_step (fail)))
                  refine wpQuiet_nil ?_
                  intro _ hw'
                  obtain ⟨⟨dq, osq⟩, hw''⟩ := hw'
                  subst hw''
                  have hGb : Gr wr (grow (redrawn wr dq) osq) := (by repeat' (first | (with_reducible exact Gr.refl _) | (with_reducible assumption) | (with_reducible refine Gr.drewN ?_ _) | (with_reducible refine Gr.drew ?_) | (with_reducible refine Gr.alloc ?_ _) | (with_reducible refine Gr.setCell ?_ ?_ _) | (with_reducible refine Gr.grow ?_ _ _) | (refine Gr.step ?_ (by with_reducible assumption)) | go_size))
                  generalize grow (redrawn wr dq) osq = w9 at *
                  go_wp2_with fail
                  go_ret
                  exact ⟨false, rfl, ⟨(fun h => by cases h), fun h => absurd h (HNO.out HF.out)⟩, hG2.step hGb⟩
                · have hd : decide (z ≥ y) = false := decide_eq_false hge
                  have hf : stp nx ks (i + 1) = true := by
                    rw [hst, show decide (z < y) = true from decide_eq_true (by omega)]; simp
                  have HF := Lib.hid hf
                  clear hst hf
                  go_wp2_with fail
                  refine wp_region_quiet_below (by kernel_rfl) (by kernel_rfl) ?_
                  repeat (any_goals (first | go_big_quiet_step (fail) | quiet_step (fail)))
                  refine wpQuiet_nil ?_
                  intro _ hw'
                  obtain ⟨⟨dq, osq⟩, hw''⟩ := hw'
                  subst hw''
                  have hGb : Gr wr (grow (redrawn wr dq) osq) := (by repeat' (first | (with_reducible exact Gr.refl _) | (with_reducible assumption) | (with_reducible refine Gr.drewN ?_ _) | (with_reducible refine Gr.drew ?_) | (with_reducible refine Gr.alloc ?_ _) | (with_reducible refine Gr.setCell ?_ ?_ _) | (with_reducible refine Gr.grow ?_ _ _) | (refine Gr.step ?_ (by with_reducible assumption)) | go_size))
                  generalize grow (redrawn wr dq) osq = w9 at *
                  go_wp2_with fail
                  case roundEnd =>
                    refine ⟨⟨i + 1 + 1, rfl, by omega, fun j hj => ?_, hG2.step hGb⟩, by simp only [intOf]; omega⟩
                    by_cases e : j = i + 1
                    · subst e; exact HF.out
                    · exact HA.out j (by omega)
      · have k0 : ¬ (k : Int) < (n : Int) := by omega
        go_wp2_with fail
        go_ret
        exact ⟨true, rfl, ⟨fun _ => ⟨by rw [HN.out]; omega, fun j hj => HA.out j (by rw [HN.out] at hj; omega)⟩, fun _ => rfl⟩, hG⟩
end Go.Proofs.Ytefocmcpeigfcaa
