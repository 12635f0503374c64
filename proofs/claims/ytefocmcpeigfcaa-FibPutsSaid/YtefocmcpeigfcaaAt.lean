/- Next links that are right: the program's usable and balanced. -/
import Derived.Test.YtefocmcpeigfcaaAf
import Derived.WalkKit
import Derived.WalkSpells
import Derived.WalkLawsBesides
import Derived.WalkSmall
import Derived.Handy
import Derived.BigQuiet
import Derived.Deep.QuietTactic
import Derived.Deep.RegionHeld3
import Derived.Deep.DeepFit
import Derived.Below
import Derived.Lib.Hide
import Derived.Lib.QuietBelow
import Derived.Deep.DeepCutAuto
namespace Go.Proofs.Ytefocmcpeigfcaa
open Go Go.RowKit Go.Sort
set_option maxRecDepth 100000
set_option linter.unusedVariables false
/-- the next link at j is right -/
def stp (nx ks : List Int) (j : Nat) : Bool := (j == 0 || decide (nx.getD (j - 1) 0 < nx.getD j 0)) && ks.contains (nx.getD j 0)
/-- next links are right -/
def NxAll (nx ks : List Int) : Prop := nx.length ≤ 16 ∧ ∀ j, j < nx.length → stp nx ks j = true
/-- an answer that says whether they are -/
def NxPost (nx ks : List Int) (w : World) (e : Ending) (w' : World) : Prop := ∃ q : Bool, e = .returned (.bool q) ∧ (q = true ↔ NxAll nx ks) ∧ Gr w w'
theorem index_any {p : Nat → Prop} (v : Value) (ks : List Int) (x : Int) (w : World) (h : Ri p w v ks) (hl : ks.length ≤ 1000) :
    Calls Try.prog 52 #[v, .int .i64 x] w fun e w' => ∃ i : Int, e = .returned (.int .i64 i) ∧ (0 ≤ i ↔ x ∈ ks) ∧ Gr w w' := by
  have HR := Lib.hid h
  obtain ⟨a, cap, rfl⟩ := h.form
  generalize hln : ks.length = n at *
  have HN := Lib.hid hln
  clear h hln
  go_enter Try.func52, Try.ntmps52
  go_wp2_with fail
  go_loopw [8] (fun i wr => ∃ k : Nat, i = .int .i64 k ∧ k ≤ n ∧ (∀ j, j < k → ks.getD j 0 ≠ x) ∧ Gr w wr)
    (fun i _ => n - (intOf i).toNat)
  case atStart => exact ⟨0, rfl, by omega, fun j hj => by omega, Gr.refl _⟩
  case round =>
    obtain ⟨k, rfl, hk, hno, hG⟩ := hrel
    have HNO := Lib.hid hno
    clear hno
    by_cases hlt : k < n
    · have k0 : (k : Int) < (n : Int) := by omega
      obtain ⟨b, off, rfl, -, hc⟩ := (HR.out.gr hG).at' (i := k) (by rw [HN.out]; exact hlt)
      have hmem : ks.getD k 0 ∈ ks := by
        rw [List.getD_eq_getElem?_getD, List.getElem?_eq_getElem (by rw [HN.out]; exact hlt)]; exact List.getElem_mem _
      generalize hy : ks.getD k 0 = y at *
      have HY := Lib.hid hy
      have HM := Lib.hid hmem
      clear hy hmem
      by_cases he : x = y
      · have hd : (x == y) = true := by simp [he]
        have HE := Lib.hid he
        clear he
        go_wp2_with fail
        go_ret
        exact ⟨k, rfl, ⟨fun _ => by rw [HE.out]; exact HM.out, fun _ => by omega⟩, hG⟩
      · have hd : (x == y) = false := by simp [he]
        have HE := Lib.hid he
        clear he
        go_wp2_with fail
        case roundEnd =>
          refine ⟨⟨k + 1, rfl, by omega, fun j hj => ?_, hG⟩, by simp only [intOf]; omega⟩
          by_cases e : j = k
          · subst e; rw [HY.out]; exact fun h => HE.out h.symm
          · exact HNO.out j (by omega)
    · have k0 : ¬ (k : Int) < (n : Int) := by omega
      go_wp2_with fail
      go_ret
      refine ⟨-1, rfl, ⟨fun h => by omega, fun h => ?_⟩, hG⟩
      obtain ⟨j, hj, e⟩ := List.mem_iff_getElem.1 h
      have := HNO.out j (by rw [HN.out] at hj; omega)
      rw [List.getD_eq_getElem?_getD, List.getElem?_eq_getElem hj] at this
      exact absurd e this
theorem contains_any {p : Nat → Prop} (v : Value) (ks : List Int) (x : Int) (w : World) (h : Ri p w v ks) (hl : ks.length ≤ 1000) :
    Calls Try.prog 44 #[v, .int .i64 x] w fun e w' => e = .returned (.bool (ks.contains x)) ∧ Gr w w' := by
  go_enter Try.func44, Try.ntmps44
  go_wp2_with fail
  refine (index_any v ks x w h hl).mono ?_
  rintro e w1 ⟨i, rfl, hi, hg⟩
  have hq : decide (i ≥ 0) = ks.contains x := by
    by_cases hm : x ∈ ks
    · rw [decide_eq_true (hi.2 hm), List.contains_iff_mem.2 hm]
    · rw [decide_eq_false (fun h => hm (hi.1 h))]
      cases hc : ks.contains x
      · rfl
      · exact absurd (List.contains_iff_mem.1 hc) hm
  have HQ := Lib.hid hq
  clear hi hq h
  go_wp2_with fail
  go_ret
  exact ⟨ret_bool HQ.out, hg⟩
set_option maxHeartbeats 1000000 in
theorem usable_any {p q : Nat → Prop} (v1 v2 : Value) (nx ks : List Int) (w : World) (h1 : Ri p w v1 nx) (h2 : Ri q w v2 ks) (hl : ks.length ≤ 1000) :
    Calls Try.prog 29 #[v1, v2] w (NxPost nx ks w) := by
  have HR := Lib.hid h1
  have HS := Lib.hid h2
  obtain ⟨a, cap, rfl⟩ := h1.form
  generalize hln : nx.length = n at *
  have HN := Lib.hid hln
  clear h1 h2 hln
  by_cases h16 : 16 < n
  · have d16 : (n : Int) > 16 := by omega
    go_enter Try.func29, Try.ntmps29
    go_wp2_with fail
    go_ret
    exact ⟨false, rfl, ⟨(fun h => by cases h), fun h => by have := h.1; rw [HN.out] at this; omega⟩, Gr.refl _⟩
  · have d16 : ¬ (n : Int) > 16 := by omega
    go_enter Try.func29, Try.ntmps29
    go_wp2_with fail
    go_loopw [12] (fun i wr => ∃ k : Nat, i = .int .i64 k ∧ k ≤ n ∧ (∀ j, j < k → stp nx ks j = true) ∧ Gr w wr)
      (fun i _ => n - (intOf i).toNat)
    case atStart => exact ⟨0, rfl, by omega, fun j hj => by omega, Gr.refl _⟩
    case round =>
      obtain ⟨k, rfl, hk, hall, hG⟩ := hrel
      have HA := Lib.hid hall
      clear hall
      by_cases hlt : k < n
      · have k0 : (k : Int) < (n : Int) := by omega
        obtain ⟨b, off, rfl, -, hc⟩ := (HR.out.gr hG).at' (i := k) (by rw [HN.out]; exact hlt)
        have hst : stp nx ks k = ((k == 0 || decide (nx.getD (k - 1) 0 < nx.getD k 0)) && ks.contains (nx.getD k 0)) := rfl
        have hno : stp nx ks k = false → ¬ NxAll nx ks := fun h h2 => by
          have := h2.2 k (by rw [HN.out]; exact hlt)
          rw [h] at this; cases this
        have hcc := fun w' (g : Gr w w') => contains_any v2 ks (nx.getD k 0) w' (HS.out.gr g) hl
        generalize hy : nx.getD k 0 = y at *
        generalize hq : ks.contains y = qc at *
        have HST := Lib.hid hst
        have HNO := Lib.hid hno
        clear hst hno hq hy
        by_cases h0 : k = 0
        · have kk : ¬ (k : Int) > 0 := by omega
          have hst : stp nx ks k = qc := by rw [HST.out, h0]; simp
          have HS2 := Lib.hid hst
          have H0 := Lib.hid h0
          clear hst h0
          go_wp2_with fail
          refine (hcc _ hG).mono ?_
          rintro e w2 ⟨rfl, hg2⟩
          cases qc
          · go_wp2_with fail
            go_ret
            exact ⟨false, rfl, ⟨(fun h => by cases h), fun h => absurd h (HNO.out HS2.out)⟩, hG.step hg2⟩
          · go_wp2_with fail
            case roundEnd =>
              refine ⟨⟨k + 1, rfl, by omega, fun j hj => ?_, hG.step hg2⟩, by simp only [intOf]; omega⟩
              obtain rfl : j = k := by have := H0.out; omega
              exact HS2.out
        · obtain ⟨m, rfl⟩ : ∃ m, k = m + 1 := ⟨k - 1, by omega⟩
          obtain ⟨b', off', e, -, hc'⟩ := (HR.out.gr hG).at' (i := m) (by rw [HN.out]; omega)
          cases e
          have kk : ((m + 1 : Nat) : Int) > 0 := by omega
          have km : ((m + 1 : Nat) : Int) - 1 = (m : Int) := by omega
          have m0 : (m : Int) < (n : Int) := by omega
          have m00 : (0 : Int) ≤ (m : Int) := by omega
          have hst := HST.out
          rw [Nat.add_sub_cancel] at hst
          generalize hz : nx.getD m 0 = z at *
          by_cases hge : z ≥ y
          · have hd : decide (z ≥ y) = true := decide_eq_true hge
            have hfalse : stp nx ks (m + 1) = false := by
              rw [hst, show decide (z < y) = false from decide_eq_false (by omega)]; simp
            have HF := Lib.hid hfalse
            clear hst hfalse hcc hz
            go_wp2_with fail
            go_ret
            exact ⟨false, rfl, ⟨(fun h => by cases h), fun h => absurd h (HNO.out HF.out)⟩, hG⟩
          · have hd : decide (z ≥ y) = false := decide_eq_false hge
            have hst2 : stp nx ks (m + 1) = qc := by
              rw [hst, show decide (z < y) = true from decide_eq_true (by omega)]; simp
            have HS2 := Lib.hid hst2
            clear hst hst2 hz
            go_wp2_with fail
            refine (hcc _ hG).mono ?_
            rintro e w2 ⟨rfl, hg2⟩
            cases qc
            · go_wp2_with fail
              go_ret
              exact ⟨false, rfl, ⟨(fun h => by cases h), fun h => absurd h (HNO.out HS2.out)⟩, hG.step hg2⟩
            · go_wp2_with fail
              case roundEnd =>
                refine ⟨⟨m + 1 + 1, rfl, by omega, fun j hj => ?_, hG.step hg2⟩, by simp only [intOf]; omega⟩
                by_cases e : j = m + 1
                · subst e; exact HS2.out
                · exact HA.out j (by omega)
      · have k0 : ¬ (k : Int) < (n : Int) := by omega
        go_wp2_with fail
        go_ret
        exact ⟨true, rfl, ⟨fun _ => ⟨by rw [HN.out]; omega, fun j hj => HA.out j (by rw [HN.out] at hj; omega)⟩, fun _ => rfl⟩, hG⟩
theorem balanced_any (x : Int) (w : World) : Calls Try.prog 30 #[.int .i64 x] w fun e w' => e = .returned (.bool (decide (1 ≤ x ∧ x ≤ 3))) ∧ Gr w w' := by
  by_cases h1 : x = 1
  · have d1 : (x == 1) = true := by simp [h1]
    have hr : decide (1 ≤ x ∧ x ≤ 3) = true := decide_eq_true (by omega)
    rw [hr]
    clear h1 hr
    go_enter Try.func30, Try.ntmps30
    go_wp2_with fail
    go_ret
    exact ⟨rfl, Gr.refl _⟩
  · have d1 : (x == 1) = false := by simp [h1]
    by_cases h2 : x = 2
    · have d2 : (x == 2) = true := by simp [h2]
      have hr : decide (1 ≤ x ∧ x ≤ 3) = true := decide_eq_true (by omega)
      rw [hr]
      clear h1 h2 hr
      go_enter Try.func30, Try.ntmps30
      go_wp2_with fail
      go_ret
      exact ⟨rfl, Gr.refl _⟩
    · have d2 : (x == 2) = false := by simp [h2]
      have hr : decide (1 ≤ x ∧ x ≤ 3) = (x == 3) := by
        by_cases h3 : x = 3
        · rw [decide_eq_true (by omega)]; simp [h3]
        · rw [decide_eq_false (by omega)]; simp [h3]
      rw [hr]
      clear h1 h2 hr
      go_enter Try.func30, Try.ntmps30
      go_wp2_with fail
      go_ret
      exact ⟨rfl, Gr.refl _⟩
end Go.Proofs.Ytefocmcpeigfcaa
