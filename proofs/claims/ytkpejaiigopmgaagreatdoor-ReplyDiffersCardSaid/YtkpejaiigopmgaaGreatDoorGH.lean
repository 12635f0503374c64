/- Several texts in one. -/
import Derived.Test.YtkpejaiigopmgaaGreatDoorKcM
import Derived.Test.YtkpejaiigopmgaaGreatDoorKeM
import Derived.Test.YtkpejaiigopmgaaGreatDoorKnM
import Derived.Test.YtkpejaiigopmgaaGreatDoorKuM
import Derived.Deep.DeepCutAuto
import Derived.WalkKit
import Derived.WalkSpells
import Derived.WalkLawsBesides
import Derived.WalkSmall
import Derived.Handy
import Derived.BigQuiet
import Derived.Deep.QuietTactic
import Derived.Deep.RegionHeld3
import Derived.Deep.DeepFit
import Derived.Below
import Derived.Lib.Hide
import Derived.Lib.QuietBelow
/- The package transport: decoding. -/
namespace Go.Proofs.YtkpejaiigopmgaaGreatDoor
open Go Go.RowKit Go.Sort
set_option maxRecDepth 100000
set_option linter.unusedVariables false
def fillC (w : World) (g : Nat) (i : Nat) : List Value → World
  | [] => w
  | v :: t => fillC (w.setCell ⟨g, i, none⟩ v) g (i + 1) t
theorem CL.fillFrom {w : World} {g : Nat} {ws vs : List Value} (i : Nat) (h : CL w g vs) (hl : i + ws.length ≤ vs.length) : CL (fillC w g i ws) g (vs.take i ++ ws ++ vs.drop (i + ws.length)) := by
  induction ws generalizing w vs i with
  | nil => rw [fillC, List.append_nil, List.length_nil, Nat.add_zero, List.take_append_drop]; exact h
  | cons v t ih =>
    rw [fillC]
    have hi : i < vs.length := by simp only [List.length_cons] at hl; omega
    have h1 := ih (vs := vs.set i v) (i + 1) (h.set i v hi) (by simp only [List.length_cons, List.length_set] at hl ⊢; omega)
    have e1 : (vs.set i v).take (i + 1) = vs.take i ++ [v] := by
      rw [List.take_succ_eq_append_getElem (by rw [List.length_set]; exact hi), List.getElem_set_self, List.take_set_of_le (Nat.le_refl _)]
    have e2 : (vs.set i v).drop (i + 1 + t.length) = vs.drop (i + (v :: t).length) := by
      rw [List.drop_set_of_lt (by omega), List.length_cons]; congr 1; omega
    rw [e1, e2, List.append_assoc, List.append_assoc] at h1
    rw [List.append_assoc]
    exact h1
theorem CL.fill {w : World} {g : Nat} {vs : List Value} (h : CL w g vs) (ws : List Value) (hl : ws.length = vs.length) : CL (fillC w g 0 ws) g ws := by
  have := h.fillFrom (ws := ws) 0 (by omega)
  rw [List.take_zero, List.nil_append, Nat.zero_add, hl, List.drop_of_length_le (Nat.le_refl _), List.append_nil] at this
  exact this
theorem Gr.fill {w0 w : World} {g : Nat} (h : Gr w0 w) (hg : w0.heap.size ≤ g) (ws : List Value) (i : Nat) : Gr w0 (fillC w g i ws) := by
  induction ws generalizing w i with
  | nil => exact h
  | cons v t ih => exact ih (h.setCell hg v) (i + 1)
theorem Ex.fill {w0 w : World} {g : Nat} (h : Ex g w0 w) (ws : List Value) (i : Nat) : Ex g w0 (fillC w g i ws) := by
  induction ws generalizing w i with
  | nil => exact h
  | cons v t ih => exact ih (h.set i v) (i + 1)
theorem OwB.cellset {base g o : Nat} {w : World} {v : Value} {l : List Nat} (h : OwB base w v l) (hn : ∀ k, v.ownBlock = some k → k ≠ g) (x : Value) : OwB base (w.setCell ⟨g, o, none⟩ x) v l := by
  refine h.grow (row := some g) ⟨rfl, rfl, rfl, by simp, fun k hk hne => Below.heap_setCell w ⟨g, o, none⟩ x k (fun e => hne (by rw [e]))⟩ ?_
  cases hv : v.ownBlock with
  | none => exact .inl rfl
  | some k => exact .inr (fun e => hn k hv (Option.some.inj e))
theorem OwB.fill {base g : Nat} {w : World} {v : Value} {l : List Nat} (h : OwB base w v l) (hn : ∀ k, v.ownBlock = some k → k ≠ g) (ws : List Value) (i : Nat) : OwB base (fillC w g i ws) v l := by
  induction ws generalizing w i with
  | nil => exact h
  | cons x t ih => exact ih (h.cellset hn x) (i + 1)
/-- an error and a zero value -/
def DErr (w : World) (z : List Value) (n : Nat) (e : Ending) (w' : World) : Prop := e = .returned (.tuple #[.agg z.toArray, .int .i64 n]) ∧ Gr w w'
def echoZ0 : List Value := [.bool false, .int .i64 0, .int .i64 0, .slice none 0 0]
def noteZ0 : List Value := [.int .i64 0, .int .i64 0, .slice none 0 0]
def udpZ0 : List Value := [.int .i64 0, .int .i64 0, .slice none 0 0]
def tcpZ0 : List Value := [.int .i64 0, .int .i64 0, .int .i64 0, .int .i64 0, .int .i64 0, .int .i64 0, .slice none 0 0]
def dcEcho (l : List Nat) : Nat := if l.length < 8 then 3 else if (gN l 0 1 ≠ 8 ∧ gN l 0 1 ≠ 0) ∨ gN l 1 1 ≠ 0 then 2 else vE s0 2 l
def dcNote (l : List Nat) : Nat := if l.length < 36 then 3 else if (gN l 0 1 ≠ 3 ∧ gN l 0 1 ≠ 11) ∨ gN l 4 4 ≠ 0 then 2 else vE s0 2 l
def dcUDP (src dst : Nat) (l : List Nat) : Nat := if l.length < 8 then 3 else if gN l 4 2 ≠ l.length then 2 else vE (sU src dst) 6 l
def dcTCP (src dst : Nat) (l : List Nat) : Nat := if l.length < 20 then 3 else if gN l 12 1 ≠ 80 ∨ gN l 18 2 ≠ 0 then 2 else vE (sP src dst 6) 16 l
theorem vE_le (S : List Nat → Nat) (i : Nat) (l : List Nat) : vE S i l ≤ 5 := by unfold vE; split <;> (try split) <;> omega
set_option maxHeartbeats 2000000 in
theorem decho_err {p : Nat → Prop} {v : Value} {l : List Nat} (w : World) (hr : Rb p w v l) (hl : l.length ≤ 30000) (hn : dcEcho l ≠ 0) :
    Calls Tryz.prog 46 #[v] w (DErr w echoZ0 (dcEcho l)) := by
  have hcase : (l.length < 8 ∧ dcEcho l = 3) ∨ (8 ≤ l.length ∧ ((gN l 0 1 ≠ 8 ∧ gN l 0 1 ≠ 0) ∨ gN l 1 1 ≠ 0) ∧ dcEcho l = 2) ∨ (8 ≤ l.length ∧ (gN l 0 1 = 8 ∨ gN l 0 1 = 0) ∧ gN l 1 1 = 0 ∧ vE s0 2 l ≠ 0 ∧ dcEcho l = vE s0 2 l) := by
    unfold dcEcho at hn ⊢
    by_cases h1 : l.length < 8
    · exact .inl ⟨h1, if_pos h1⟩
    · rw [if_neg h1] at hn ⊢
      by_cases h2 : (gN l 0 1 ≠ 8 ∧ gN l 0 1 ≠ 0) ∨ gN l 1 1 ≠ 0
      · exact .inr (.inl ⟨by omega, h2, if_pos h2⟩)
      · rw [if_neg h2] at hn ⊢
        exact .inr (.inr ⟨by omega, by omega, by omega, hn, rfl⟩)
  clear hn
  generalize dcEcho l = E at *
  unfold echoZ0
  have HR := Lib.hid hr
  have hlt := hr.bytes
  obtain ⟨av, cap, rfl, hcap, hmx⟩ := hr.form
  obtain ⟨L, hL⟩ : ∃ L, L = l.length := ⟨_, rfl⟩
  have HL := Lib.hid hL
  rw [← hL] at HR hl hcap hcase ⊢
  clear hL hr
  have hC := CL.new w echoZ0 74 _ rfl
  have hG := Gr.alloc (Gr.refl w) (.cells echoZ0.toArray 74)
  unfold echoZ0 at hC hG
  have hx0 : L ≥ 1 → gN l 0 1 < 256 := fun _ => gN_lt hlt 0 1
  have hx1 := gN_lt hlt 1 1
  rcases hcase with ⟨h1, hE⟩ | ⟨h1, h2, hE⟩ | ⟨h1, h2, h3, h4, hE⟩
  · have d1 : decide ((L : Int) < 8) = true := by rw [decide_eq_true_eq]; omega
    have HE := Lib.hid hE
    clear hE h1
    go_enter Tryz.func46, Tryz.ntmps46
    go_upto_region 1 with fail
    have hle : w.heap.size ≤ w.heap.size := Nat.le_refl _
    generalize w.alloc (.cells #[.bool false, .int .i64 0, .int .i64 0, .slice none 0 0] 74) = w1 at hC hG ⊢
    generalize hg0 : w.heap.size = g0 at hC ⊢
    replace hle : w.heap.size ≤ g0 := by omega
    clear hg0
    obtain ⟨⟨y0, y1, y2, y3⟩, u0, u1, u2, u3⟩ := hC.four
    go_wp2_with fail
    have hcF := hC.fill [.bool false, .int .i64 0, .int .i64 0, .slice none 0 0] rfl
    have hgF := hG.fill hle [.bool false, .int .i64 0, .int .i64 0, .slice none 0 0] 0
    simp only [fillC, Nat.reduceAdd] at hcF hgF
    clear y0 y1 y2 y3 u0 u1 u2 u3
    generalize ((((w1.setCell ⟨g0, 0, none⟩ (.bool false)).setCell ⟨g0, 1, none⟩ (.int .i64 0)).setCell ⟨g0, 2, none⟩ (.int .i64 0)).setCell ⟨g0, 3, none⟩ (.slice none 0 0)) = wF at hcF hgF ⊢
    obtain ⟨⟨c0, c1, c2, c3⟩, -⟩ := hcF.four
    exact bodyPost_ret (v := .tuple #[.agg #[.bool false, .int .i64 0, .int .i64 0, .slice none 0 0], .int .i64 3]) (by simp [results, Tryz.results46, go_sem, c0, c1, c2, c3]) rfl ⟨by first | (rw [HE.out]; done) | (rw [HE.out]; rfl), hgF⟩
  · have d1 : decide ((L : Int) < 8) = false := by rw [decide_eq_false_iff_not]; omega
    have HE := Lib.hid hE
    have HG0 := Lib.hid (fun W (g : Gr w W) => tget_any 0 1 W (HR.out.gr g) (by omega) (by omega) (by rw [← HL.out]; omega))
    have HG1 := Lib.hid (fun W (g : Gr w W) => tget_any 1 1 W (HR.out.gr g) (by omega) (by omega) (by rw [← HL.out]; omega))
    clear hE h1
    generalize gN l 0 1 = X at *
    generalize gN l 1 1 = Y at *
    go_enter Tryz.func46, Tryz.ntmps46
    go_upto_region 1 with fail
    have hle : w.heap.size ≤ w.heap.size := Nat.le_refl _
    generalize w.alloc (.cells #[.bool false, .int .i64 0, .int .i64 0, .slice none 0 0] 74) = w1 at hC hG ⊢
    generalize hg0 : w.heap.size = g0 at hC ⊢
    replace hle : w.heap.size ≤ g0 := by omega
    clear hg0
    obtain ⟨⟨y0, y1, y2, y3⟩, u0, u1, u2, u3⟩ := hC.four
    by_cases k8 : X = 8
    · have b1 : ((X : Int) != 8) = false := by simp; omega
      have b2 : ((Y : Int) != 0) = true := by simp; omega
      clear k8 h2
      go_wp2_with fail
      refine (HG0.out _ hG).mono ?_
      rintro e w2 ⟨rfl, rfl⟩
      go_wp2_with fail
      refine (HG1.out _ hG).mono ?_
      rintro e w2 ⟨rfl, rfl⟩
      go_wp2_with fail
      have hcF := hC.fill [.bool false, .int .i64 0, .int .i64 0, .slice none 0 0] rfl
      have hgF := hG.fill hle [.bool false, .int .i64 0, .int .i64 0, .slice none 0 0] 0
      simp only [fillC, Nat.reduceAdd] at hcF hgF
      clear y0 y1 y2 y3 u0 u1 u2 u3
      generalize ((((w1.setCell ⟨g0, 0, none⟩ (.bool false)).setCell ⟨g0, 1, none⟩ (.int .i64 0)).setCell ⟨g0, 2, none⟩ (.int .i64 0)).setCell ⟨g0, 3, none⟩ (.slice none 0 0)) = wF at hcF hgF ⊢
      obtain ⟨⟨c0, c1, c2, c3⟩, -⟩ := hcF.four
      exact bodyPost_ret (v := .tuple #[.agg #[.bool false, .int .i64 0, .int .i64 0, .slice none 0 0], .int .i64 2]) (by simp [results, Tryz.results46, go_sem, c0, c1, c2, c3]) rfl ⟨by first | (rw [HE.out]; done) | (rw [HE.out]; rfl), hgF⟩
    · have b1 : ((X : Int) != 8) = true := by simp; omega
      by_cases k0 : X = 0
      · have b2 : ((X : Int) != 0) = false := by simp; omega
        have b3 : ((Y : Int) != 0) = true := by simp; omega
        clear k8 h2 k0
        go_wp2_with fail
        refine (HG0.out _ hG).mono ?_
        rintro e w2 ⟨rfl, rfl⟩
        go_wp2_with fail
        refine (HG1.out _ hG).mono ?_
        rintro e w2 ⟨rfl, rfl⟩
        go_wp2_with fail
        have hcF := hC.fill [.bool false, .int .i64 0, .int .i64 0, .slice none 0 0] rfl
        have hgF := hG.fill hle [.bool false, .int .i64 0, .int .i64 0, .slice none 0 0] 0
        simp only [fillC, Nat.reduceAdd] at hcF hgF
        clear y0 y1 y2 y3 u0 u1 u2 u3
        generalize ((((w1.setCell ⟨g0, 0, none⟩ (.bool false)).setCell ⟨g0, 1, none⟩ (.int .i64 0)).setCell ⟨g0, 2, none⟩ (.int .i64 0)).setCell ⟨g0, 3, none⟩ (.slice none 0 0)) = wF at hcF hgF ⊢
        obtain ⟨⟨c0, c1, c2, c3⟩, -⟩ := hcF.four
        exact bodyPost_ret (v := .tuple #[.agg #[.bool false, .int .i64 0, .int .i64 0, .slice none 0 0], .int .i64 2]) (by simp [results, Tryz.results46, go_sem, c0, c1, c2, c3]) rfl ⟨by first | (rw [HE.out]; done) | (rw [HE.out]; rfl), hgF⟩
      · have b2 : ((X : Int) != 0) = true := by simp; omega
        clear k8 h2 k0
        go_wp2_with fail
        refine (HG0.out _ hG).mono ?_
        rintro e w2 ⟨rfl, rfl⟩
        go_wp2_with fail
        have hcF := hC.fill [.bool false, .int .i64 0, .int .i64 0, .slice none 0 0] rfl
        have hgF := hG.fill hle [.bool false, .int .i64 0, .int .i64 0, .slice none 0 0] 0
        simp only [fillC, Nat.reduceAdd] at hcF hgF
        clear y0 y1 y2 y3 u0 u1 u2 u3
        generalize ((((w1.setCell ⟨g0, 0, none⟩ (.bool false)).setCell ⟨g0, 1, none⟩ (.int .i64 0)).setCell ⟨g0, 2, none⟩ (.int .i64 0)).setCell ⟨g0, 3, none⟩ (.slice none 0 0)) = wF at hcF hgF ⊢
        obtain ⟨⟨c0, c1, c2, c3⟩, -⟩ := hcF.four
        exact bodyPost_ret (v := .tuple #[.agg #[.bool false, .int .i64 0, .int .i64 0, .slice none 0 0], .int .i64 2]) (by simp [results, Tryz.results46, go_sem, c0, c1, c2, c3]) rfl ⟨by first | (rw [HE.out]; done) | (rw [HE.out]; rfl), hgF⟩
  · have d1 : decide ((L : Int) < 8) = false := by rw [decide_eq_false_iff_not]; omega
    have HE := Lib.hid hE
    have HG0 := Lib.hid (fun W (g : Gr w W) => tget_any 0 1 W (HR.out.gr g) (by omega) (by omega) (by rw [← HL.out]; omega))
    have HG1 := Lib.hid (fun W (g : Gr w W) => tget_any 1 1 W (HR.out.gr g) (by omega) (by omega) (by rw [← HL.out]; omega))
    have HCK := Lib.hid (fun W (g : Gr w W) => check_0 2 W (HR.out.gr g) (by rw [← HL.out]; omega) (by rw [← HL.out]; omega))
    have hE5 := vE_le s0 2 l
    clear hE h1
    generalize gN l 0 1 = X at *
    generalize gN l 1 1 = Y at *
    generalize vE s0 2 l = V at *
    have bV : ((V : Int) != 0) = true := by simp; omega
    have b2 : ((Y : Int) != 0) = false := by simp; omega
    go_enter Tryz.func46, Tryz.ntmps46
    go_upto_region 1 with fail
    have hle : w.heap.size ≤ w.heap.size := Nat.le_refl _
    generalize w.alloc (.cells #[.bool false, .int .i64 0, .int .i64 0, .slice none 0 0] 74) = w1 at hC hG ⊢
    generalize hg0 : w.heap.size = g0 at hC ⊢
    replace hle : w.heap.size ≤ g0 := by omega
    clear hg0
    obtain ⟨⟨y0, y1, y2, y3⟩, u0, u1, u2, u3⟩ := hC.four
    rcases h2 with k8 | k8
    · have b1 : ((X : Int) != 8) = false := by simp; omega
      clear k8 h3 h4
      go_wp2_with fail
      refine (HG0.out _ hG).mono ?_
      rintro e w2 ⟨rfl, rfl⟩
      go_wp2_with fail
      refine (HG1.out _ hG).mono ?_
      rintro e w2 ⟨rfl, rfl⟩
      go_wp2_with fail
      refine (HCK.out _ hG).mono ?_
      rintro e w2 ⟨rfl, hg2⟩
      replace hG := hG.step hg2
      replace hC := hC.gr hg2
      clear hg2
      obtain ⟨⟨y0, y1, y2, y3⟩, u0, u1, u2, u3⟩ := hC.four

      go_wp2_with fail
      have hcF := hC.fill [.bool false, .int .i64 0, .int .i64 0, .slice none 0 0] rfl
      have hgF := hG.fill hle [.bool false, .int .i64 0, .int .i64 0, .slice none 0 0] 0
      simp only [fillC, Nat.reduceAdd] at hcF hgF
      clear y0 y1 y2 y3 u0 u1 u2 u3
      generalize ((((w2.setCell ⟨g0, 0, none⟩ (.bool false)).setCell ⟨g0, 1, none⟩ (.int .i64 0)).setCell ⟨g0, 2, none⟩ (.int .i64 0)).setCell ⟨g0, 3, none⟩ (.slice none 0 0)) = wF at hcF hgF ⊢
      obtain ⟨⟨c0, c1, c2, c3⟩, -⟩ := hcF.four
      exact bodyPost_ret (v := .tuple #[.agg #[.bool false, .int .i64 0, .int .i64 0, .slice none 0 0], .int .i64 V]) (by simp [results, Tryz.results46, go_sem, c0, c1, c2, c3]) rfl ⟨by first | (rw [HE.out]; done) | (rw [HE.out]; rfl), hgF⟩
    · have b1 : ((X : Int) != 8) = true := by simp; omega
      have b3 : ((X : Int) != 0) = false := by simp; omega
      clear k8 h3 h4
      go_wp2_with fail
      refine (HG0.out _ hG).mono ?_
      rintro e w2 ⟨rfl, rfl⟩
      go_wp2_with fail
      refine (HG1.out _ hG).mono ?_
      rintro e w2 ⟨rfl, rfl⟩
      go_wp2_with fail
      refine (HCK.out _ hG).mono ?_
      rintro e w2 ⟨rfl, hg2⟩
      replace hG := hG.step hg2
      replace hC := hC.gr hg2
      clear hg2
      obtain ⟨⟨y0, y1, y2, y3⟩, u0, u1, u2, u3⟩ := hC.four

      go_wp2_with fail
      have hcF := hC.fill [.bool false, .int .i64 0, .int .i64 0, .slice none 0 0] rfl
      have hgF := hG.fill hle [.bool false, .int .i64 0, .int .i64 0, .slice none 0 0] 0
      simp only [fillC, Nat.reduceAdd] at hcF hgF
      clear y0 y1 y2 y3 u0 u1 u2 u3
      generalize ((((w2.setCell ⟨g0, 0, none⟩ (.bool false)).setCell ⟨g0, 1, none⟩ (.int .i64 0)).setCell ⟨g0, 2, none⟩ (.int .i64 0)).setCell ⟨g0, 3, none⟩ (.slice none 0 0)) = wF at hcF hgF ⊢
      obtain ⟨⟨c0, c1, c2, c3⟩, -⟩ := hcF.four
      exact bodyPost_ret (v := .tuple #[.agg #[.bool false, .int .i64 0, .int .i64 0, .slice none 0 0], .int .i64 V]) (by simp [results, Tryz.results46, go_sem, c0, c1, c2, c3]) rfl ⟨by first | (rw [HE.out]; done) | (rw [HE.out]; rfl), hgF⟩
set_option maxHeartbeats 2000000 in
theorem decho_ok {p : Nat → Prop} {v : Value} {l : List Nat} (w : World) (hr : Rb p w v l) (hl : l.length ≤ 30000) (hn : dcEcho l = 0) :
    Calls Tryz.prog 46 #[v] w fun e w' => ∃ v', e = .returned (.tuple #[.agg #[.bool (decide (gN l 0 1 = 0)), .int .i64 (gN l 4 2 : Nat), .int .i64 (gN l 6 2 : Nat), v'], .int .i64 0]) ∧ OwB w.heap.size w' v' (l.drop 8) ∧ Gr w w' := by
  have hcase : 8 ≤ l.length ∧ (gN l 0 1 = 8 ∨ gN l 0 1 = 0) ∧ gN l 1 1 = 0 ∧ vE s0 2 l = 0 := by
    unfold dcEcho at hn
    by_cases h1 : l.length < 8
    · rw [if_pos h1] at hn; omega
    · rw [if_neg h1] at hn
      by_cases h2 : (gN l 0 1 ≠ 8 ∧ gN l 0 1 ≠ 0) ∨ gN l 1 1 ≠ 0
      · rw [if_pos h2] at hn; omega
      · rw [if_neg h2] at hn
        exact ⟨by omega, by omega, by omega, hn⟩
  clear hn
  have HR := Lib.hid hr
  have hlt := hr.bytes
  obtain ⟨av, cap, rfl, hcap, hmx⟩ := hr.form
  obtain ⟨L, hL⟩ : ∃ L, L = l.length := ⟨_, rfl⟩
  have HL := Lib.hid hL
  rw [← hL] at HR hl hcap hcase ⊢
  clear hL hr
  have hC := CL.new w echoZ0 74 _ rfl
  have hG := Gr.alloc (Gr.refl w) (.cells echoZ0.toArray 74)
  unfold echoZ0 at hC hG
  obtain ⟨h1, h2, h3, h4⟩ := hcase
  obtain ⟨bk, off, rfl, -, -⟩ := HR.out.at' (i := 0) (by rw [← HL.out]; omega)
  have d1 : decide ((L : Int) < 8) = false := by rw [decide_eq_false_iff_not]; omega
  have HG0 := Lib.hid (fun W (g : Gr w W) => tget_any 0 1 W (HR.out.gr g) (by omega) (by omega) (by rw [← HL.out]; omega))
  have HG1 := Lib.hid (fun W (g : Gr w W) => tget_any 1 1 W (HR.out.gr g) (by omega) (by omega) (by rw [← HL.out]; omega))
  have HCK := Lib.hid (fun W (g : Gr w W) => check_0 2 W (HR.out.gr g) (by rw [← HL.out]; omega) (by rw [← HL.out]; omega))
  have HT := Lib.hid (HR.out.tail (k := 8) (by rw [← HL.out]; omega))
  have HTL := Lib.hid (show (l.drop 8).length ≤ 30000 by rw [List.length_drop]; have := HL.out; omega)
  rw [h4] at HCK
  have HG4 := Lib.hid (fun W (g : Gr w W) => tget_any 4 2 W (HR.out.gr g) (by omega) (by omega) (by rw [← HL.out]; omega))
  have HG6 := Lib.hid (fun W (g : Gr w W) => tget_any 6 2 W (HR.out.gr g) (by omega) (by omega) (by rw [← HL.out]; omega))
  generalize gN l 0 1 = X at *
  generalize gN l 1 1 = Y at *
  generalize gN l 4 2 = A at *
  generalize gN l 6 2 = B at *
  have b2 : ((Y : Int) != 0) = false := by simp; omega
  go_enter Tryz.func46, Tryz.ntmps46
  go_upto_region 1 with fail
  have hle : w.heap.size ≤ w.heap.size := Nat.le_refl _
  generalize w.alloc (.cells #[.bool false, .int .i64 0, .int .i64 0, .slice none 0 0] 74) = w1 at hC hG ⊢
  generalize hg0 : w.heap.size = g0 at hC ⊢
  replace hle : w.heap.size ≤ g0 := by omega
  clear hg0
  rcases h2 with k8 | k8
  · have b1 : ((X : Int) != 8) = false := by simp; omega
    have b4 : ((X : Int) == 0) = false := by simp; omega
    have HX := Lib.hid (show decide (X = 0) = false from decide_eq_false (by omega))
    clear k8 h3 h4
    go_wp2_with fail
    refine (HG0.out _ hG).mono ?_
    rintro e w2 ⟨rfl, rfl⟩
    go_wp2_with fail
    refine (HG1.out _ hG).mono ?_
    rintro e w2 ⟨rfl, rfl⟩
    go_wp2_with fail
    refine (HCK.out _ hG).mono ?_
    rintro e w2 ⟨rfl, hg2⟩
    replace hG := hG.step hg2
    replace hC := hC.gr hg2
    clear hg2
    obtain ⟨⟨y0, y1, y2, y3⟩, u0, u1, u2, u3⟩ := hC.four

    go_wp2_with fail
    clear y0 y1 y2 y3 u0 u1 u2 u3
    have hgr : Gr w2 w2.drew := Gr.drew (Gr.refl _)
    have hS : Ex g0 w2 w2.drew := Ex.drew (Ex.refl _ _)
    refine region_plain (Ex g0 w2) (by kernel_rfl) ?_
    generalize w2.drew = w3 at hS hgr ⊢
    refine take_at 0 (some 30) (v := ?va0) rfl rfl (by kernel_rfl) (by kernel_rfl) (by kernel_rfl) (by rfl) ?ya0 hS ?ta0
    case ya0 =>
      intro w' hSw
      go_simp
      (try rw [if_pos (by omega)])
      (try with_reducible rfl)
    simp only [Act.put, List.setIfInBounds_toArray, List.set_cons_zero, List.set_cons_succ]
    refine take_at 1 (some 31) (v := ?va1) rfl rfl (by kernel_rfl) (by kernel_rfl) (by kernel_rfl) (by rfl) ?ya1 hS ?ta1
    case ya1 =>
      intro w' hSw
      go_simp
      (try rw [if_pos (by omega)])
      (try with_reducible rfl)
    simp only [Act.put, List.setIfInBounds_toArray, List.set_cons_zero, List.set_cons_succ]
    refine take_at 2 (some 32) (v := ?va2) rfl rfl (by kernel_rfl) (by kernel_rfl) (by kernel_rfl) (by rfl) ?ya2 hS ?ta2
    case ya2 =>
      intro w' hSw
      go_simp
      (try rw [if_pos (by omega)])
      (try with_reducible rfl)
    simp only [Act.put, List.setIfInBounds_toArray, List.set_cons_zero, List.set_cons_succ]
    refine take_at 4 (some 34) (v := ?va4) rfl rfl (by kernel_rfl) (by kernel_rfl) (by kernel_rfl) (by rfl) ?ya4 hS ?ta4
    case ya4 =>
      intro w' hSw
      go_simp
      (try rw [if_pos (by omega)])
      (try with_reducible rfl)
    simp only [Act.put, List.setIfInBounds_toArray, List.set_cons_zero, List.set_cons_succ]
    refine take_at 6 (some 36) (v := ?va6) rfl rfl (by kernel_rfl) (by kernel_rfl) (by kernel_rfl) (by rfl) ?ya6 hS ?ta6
    case ya6 =>
      intro w' hSw
      go_simp
      (try rw [if_pos (by omega)])
      (try with_reducible rfl)
    simp only [Act.put, List.setIfInBounds_toArray, List.set_cons_zero, List.set_cons_succ]
    refine take_at 7 (some 37) (v := ?va7) rfl rfl (by kernel_rfl) (by kernel_rfl) (by kernel_rfl) (by rfl) ?ya7 hS ?ta7
    case ya7 =>
      intro w' hSw
      go_simp
      (try rw [if_pos (by omega)])
      (try with_reducible rfl)
    simp only [Act.put, List.setIfInBounds_toArray, List.set_cons_zero, List.set_cons_succ]
    generalize (if cap = 8 then some (⟨bk, off, none⟩ : Addr) else some ⟨bk, off + 8, none⟩) = aq at HT ⊢
    replace hG := hG.step hgr
    replace hC := hC.gr hgr
    refine next_at 3 rfl (by kernel_rfl) (by rfl) (fun K hK => ?_)
    go_simp
    refine (HG4.out _ hG).mono ?_
    rintro e w4 ⟨rfl, rfl⟩
    refine hK _ _ hS ?_
    clear hK K
    refine next_at 5 rfl (by kernel_rfl) (by rfl) (fun K hK => ?_)
    go_simp
    refine (HG6.out _ hG).mono ?_
    rintro e w4 ⟨rfl, rfl⟩
    refine hK _ _ hS ?_
    clear hK K
    refine next_at 8 rfl (by kernel_rfl) (by rfl) (fun K hK => ?_)
    go_simp
    refine (clone_bytes _ (HT.out.gr hG) (by have := HTL.out; omega)).mono ?_
    rintro e w4 ⟨vc, rfl, ho, hgn⟩
    have hnv : ∀ k, vc.ownBlock = some k → k ≠ g0 := by
      intro k hk
      have := ho.above k hk
      have := hC.lt
      omega
    replace ho := ho.base (Gr.size hG)
    replace hG := hG.step hgn
    replace hC := hC.gr hgn
    replace hS := hS.trans (Ex.ofGr hgn)
    obtain ⟨ac, cc, rfl, -, -⟩ := ho.rb.form
    generalize (l.drop 8).length = M at *
    refine hK _ _ hS ?_
    clear hK K hgn
    refine next_at 9 rfl (by kernel_rfl) (by rfl) (fun K hK => ?_)
    go_simp
    refine hK _ _ hS ?_
    clear hK K
    have hcF := hC.fill [.bool false, .int .i64 A, .int .i64 B, .slice ac M cc] rfl
    have hgF := hG.fill hle [.bool false, .int .i64 A, .int .i64 B, .slice ac M cc] 0
    have hxF := hS.fill [.bool false, .int .i64 A, .int .i64 B, .slice ac M cc] 0
    have hoF := ho.fill hnv [.bool false, .int .i64 A, .int .i64 B, .slice ac M cc] 0
    simp only [fillC, Nat.reduceAdd] at hcF hgF hxF hoF
    obtain ⟨⟨y0, y1, y2, y3⟩, u0, u1, u2, u3⟩ := hC.four
    refine next_at 10 rfl (by kernel_rfl) (by rfl) (fun K hK => ?_)
    go_simp
    refine hK _ _ hxF ?_
    clear hK K y0 y1 y2 y3 u0 u1 u2 u3
    generalize ((((w4.setCell ⟨g0, 0, none⟩ (.bool false)).setCell ⟨g0, 1, none⟩ (.int .i64 A)).setCell ⟨g0, 2, none⟩ (.int .i64 B)).setCell ⟨g0, 3, none⟩ (.slice ac M cc)) = wF at hcF hgF hxF hoF ⊢
    refine next_at 11 rfl (by kernel_rfl) (by rfl) (fun K hK => ?_)
    go_simp
    refine hK _ _ hxF ?_
    clear hK K
    refine wpAnyH_done (by kernel_rfl) ?_ _
    refine qz_normal ?_
    obtain ⟨⟨c0, c1, c2, c3⟩, -⟩ := hcF.four
    go_wp2_with fail
    exact bodyPost_ret (v := .tuple #[.agg #[.bool false, .int .i64 A, .int .i64 B, .slice ac M cc], .int .i64 0]) (by simp [results, Tryz.results46, go_sem, c0, c1, c2, c3]) rfl ⟨_, (by rw [HX.out]), hoF, hgF⟩
  · have b1 : ((X : Int) != 8) = true := by simp; omega
    have b3 : ((X : Int) != 0) = false := by simp; omega
    have b4 : ((X : Int) == 0) = true := by simp; omega
    have HX := Lib.hid (show decide (X = 0) = true from decide_eq_true (by omega))
    clear k8 h3 h4
    go_wp2_with fail
    refine (HG0.out _ hG).mono ?_
    rintro e w2 ⟨rfl, rfl⟩
    go_wp2_with fail
    refine (HG1.out _ hG).mono ?_
    rintro e w2 ⟨rfl, rfl⟩
    go_wp2_with fail
    refine (HCK.out _ hG).mono ?_
    rintro e w2 ⟨rfl, hg2⟩
    replace hG := hG.step hg2
    replace hC := hC.gr hg2
    clear hg2
    obtain ⟨⟨y0, y1, y2, y3⟩, u0, u1, u2, u3⟩ := hC.four

    go_wp2_with fail
    clear y0 y1 y2 y3 u0 u1 u2 u3
    have hgr : Gr w2 w2.drew := Gr.drew (Gr.refl _)
    have hS : Ex g0 w2 w2.drew := Ex.drew (Ex.refl _ _)
    refine region_plain (Ex g0 w2) (by kernel_rfl) ?_
    generalize w2.drew = w3 at hS hgr ⊢
    refine take_at 0 (some 30) (v := ?vb0) rfl rfl (by kernel_rfl) (by kernel_rfl) (by kernel_rfl) (by rfl) ?yb0 hS ?tb0
    case yb0 =>
      intro w' hSw
      go_simp
      (try rw [if_pos (by omega)])
      (try with_reducible rfl)
    simp only [Act.put, List.setIfInBounds_toArray, List.set_cons_zero, List.set_cons_succ]
    refine take_at 1 (some 31) (v := ?vb1) rfl rfl (by kernel_rfl) (by kernel_rfl) (by kernel_rfl) (by rfl) ?yb1 hS ?tb1
    case yb1 =>
      intro w' hSw
      go_simp
      (try rw [if_pos (by omega)])
      (try with_reducible rfl)
    simp only [Act.put, List.setIfInBounds_toArray, List.set_cons_zero, List.set_cons_succ]
    refine take_at 2 (some 32) (v := ?vb2) rfl rfl (by kernel_rfl) (by kernel_rfl) (by kernel_rfl) (by rfl) ?yb2 hS ?tb2
    case yb2 =>
      intro w' hSw
      go_simp
      (try rw [if_pos (by omega)])
      (try with_reducible rfl)
    simp only [Act.put, List.setIfInBounds_toArray, List.set_cons_zero, List.set_cons_succ]
    refine take_at 4 (some 34) (v := ?vb4) rfl rfl (by kernel_rfl) (by kernel_rfl) (by kernel_rfl) (by rfl) ?yb4 hS ?tb4
    case yb4 =>
      intro w' hSw
      go_simp
      (try rw [if_pos (by omega)])
      (try with_reducible rfl)
    simp only [Act.put, List.setIfInBounds_toArray, List.set_cons_zero, List.set_cons_succ]
    refine take_at 6 (some 36) (v := ?vb6) rfl rfl (by kernel_rfl) (by kernel_rfl) (by kernel_rfl) (by rfl) ?yb6 hS ?tb6
    case yb6 =>
      intro w' hSw
      go_simp
      (try rw [if_pos (by omega)])
      (try with_reducible rfl)
    simp only [Act.put, List.setIfInBounds_toArray, List.set_cons_zero, List.set_cons_succ]
    refine take_at 7 (some 37) (v := ?vb7) rfl rfl (by kernel_rfl) (by kernel_rfl) (by kernel_rfl) (by rfl) ?yb7 hS ?tb7
    case yb7 =>
      intro w' hSw
      go_simp
      (try rw [if_pos (by omega)])
      (try with_reducible rfl)
    simp only [Act.put, List.setIfInBounds_toArray, List.set_cons_zero, List.set_cons_succ]
    generalize (if cap = 8 then some (⟨bk, off, none⟩ : Addr) else some ⟨bk, off + 8, none⟩) = aq at HT ⊢
    replace hG := hG.step hgr
    replace hC := hC.gr hgr
    refine next_at 3 rfl (by kernel_rfl) (by rfl) (fun K hK => ?_)
    go_simp
    refine (HG4.out _ hG).mono ?_
    rintro e w4 ⟨rfl, rfl⟩
    refine hK _ _ hS ?_
    clear hK K
    refine next_at 5 rfl (by kernel_rfl) (by rfl) (fun K hK => ?_)
    go_simp
    refine (HG6.out _ hG).mono ?_
    rintro e w4 ⟨rfl, rfl⟩
    refine hK _ _ hS ?_
    clear hK K
    refine next_at 8 rfl (by kernel_rfl) (by rfl) (fun K hK => ?_)
    go_simp
    refine (clone_bytes _ (HT.out.gr hG) (by have := HTL.out; omega)).mono ?_
    rintro e w4 ⟨vc, rfl, ho, hgn⟩
    have hnv : ∀ k, vc.ownBlock = some k → k ≠ g0 := by
      intro k hk
      have := ho.above k hk
      have := hC.lt
      omega
    replace ho := ho.base (Gr.size hG)
    replace hG := hG.step hgn
    replace hC := hC.gr hgn
    replace hS := hS.trans (Ex.ofGr hgn)
    obtain ⟨ac, cc, rfl, -, -⟩ := ho.rb.form
    generalize (l.drop 8).length = M at *
    refine hK _ _ hS ?_
    clear hK K hgn
    refine next_at 9 rfl (by kernel_rfl) (by rfl) (fun K hK => ?_)
    go_simp
    refine hK _ _ hS ?_
    clear hK K
    have hcF := hC.fill [.bool true, .int .i64 A, .int .i64 B, .slice ac M cc] rfl
    have hgF := hG.fill hle [.bool true, .int .i64 A, .int .i64 B, .slice ac M cc] 0
    have hxF := hS.fill [.bool true, .int .i64 A, .int .i64 B, .slice ac M cc] 0
    have hoF := ho.fill hnv [.bool true, .int .i64 A, .int .i64 B, .slice ac M cc] 0
    simp only [fillC, Nat.reduceAdd] at hcF hgF hxF hoF
    obtain ⟨⟨y0, y1, y2, y3⟩, u0, u1, u2, u3⟩ := hC.four
    refine next_at 10 rfl (by kernel_rfl) (by rfl) (fun K hK => ?_)
    go_simp
    refine hK _ _ hxF ?_
    clear hK K y0 y1 y2 y3 u0 u1 u2 u3
    generalize ((((w4.setCell ⟨g0, 0, none⟩ (.bool true)).setCell ⟨g0, 1, none⟩ (.int .i64 A)).setCell ⟨g0, 2, none⟩ (.int .i64 B)).setCell ⟨g0, 3, none⟩ (.slice ac M cc)) = wF at hcF hgF hxF hoF ⊢
    refine next_at 11 rfl (by kernel_rfl) (by rfl) (fun K hK => ?_)
    go_simp
    refine hK _ _ hxF ?_
    clear hK K
    refine wpAnyH_done (by kernel_rfl) ?_ _
    refine qz_normal ?_
    obtain ⟨⟨c0, c1, c2, c3⟩, -⟩ := hcF.four
    go_wp2_with fail
    exact bodyPost_ret (v := .tuple #[.agg #[.bool true, .int .i64 A, .int .i64 B, .slice ac M cc], .int .i64 0]) (by simp [results, Tryz.results46, go_sem, c0, c1, c2, c3]) rfl ⟨_, (by rw [HX.out]), hoF, hgF⟩
end Go.Proofs.YtkpejaiigopmgaaGreatDoor
/- The package transport: decoding notices. -/
namespace Go.Proofs.YtkpejaiigopmgaaGreatDoor
open Go Go.RowKit Go.Sort
set_option maxRecDepth 100000
set_option linter.unusedVariables false
set_option maxHeartbeats 2000000 in
theorem dnote_err {p : Nat → Prop} {v : Value} {l : List Nat} (w : World) (hr : Rb p w v l) (hl : l.length ≤ 30000) (hn : dcNote l ≠ 0) :
    Calls Tryz.prog 62 #[v] w (DErr w noteZ0 (dcNote l)) := by
  have hcase : (l.length < 36 ∧ dcNote l = 3) ∨ (36 ≤ l.length ∧ ((gN l 0 1 ≠ 3 ∧ gN l 0 1 ≠ 11) ∨ gN l 4 4 ≠ 0) ∧ dcNote l = 2) ∨ (36 ≤ l.length ∧ (gN l 0 1 = 3 ∨ gN l 0 1 = 11) ∧ gN l 4 4 = 0 ∧ vE s0 2 l ≠ 0 ∧ dcNote l = vE s0 2 l) := by
    unfold dcNote at hn ⊢
    by_cases h1 : l.length < 36
    · exact .inl ⟨h1, if_pos h1⟩
    · rw [if_neg h1] at hn ⊢
      by_cases h2 : (gN l 0 1 ≠ 3 ∧ gN l 0 1 ≠ 11) ∨ gN l 4 4 ≠ 0
      · exact .inr (.inl ⟨by omega, h2, if_pos h2⟩)
      · rw [if_neg h2] at hn ⊢
        exact .inr (.inr ⟨by omega, by omega, by omega, hn, rfl⟩)
  clear hn
  generalize dcNote l = E at *
  unfold noteZ0
  have HR := Lib.hid hr
  have hlt := hr.bytes
  obtain ⟨av, cap, rfl, hcap, hmx⟩ := hr.form
  obtain ⟨L, hL⟩ : ∃ L, L = l.length := ⟨_, rfl⟩
  have HL := Lib.hid hL
  rw [← hL] at HR hl hcap hcase ⊢
  clear hL hr
  have hC := CL.new w noteZ0 65 _ rfl
  have hG := Gr.alloc (Gr.refl w) (.cells noteZ0.toArray 65)
  unfold noteZ0 at hC hG
  have hx0 := gN_lt hlt 0 1
  have hx1 := gN_lt hlt 1 1
  have hx4 := gN_lt hlt 4 4
  rcases hcase with ⟨h1, hE⟩ | ⟨h1, h2, hE⟩ | ⟨h1, h2, h3, h4, hE⟩
  · have d1 : decide ((L : Int) < 36) = true := by rw [decide_eq_true_eq]; omega
    have HE := Lib.hid hE
    clear hE h1
    go_enter Tryz.func62, Tryz.ntmps62
    go_upto_region 1 with fail
    have hle : w.heap.size ≤ w.heap.size := Nat.le_refl _
    generalize w.alloc (.cells #[.int .i64 0, .int .i64 0, .slice none 0 0] 65) = w1 at hC hG ⊢
    generalize hg0 : w.heap.size = g0 at hC ⊢
    replace hle : w.heap.size ≤ g0 := by omega
    clear hg0
    obtain ⟨⟨y0, y1, y2⟩, u0, u1, u2⟩ := hC.three
    go_wp2_with fail
    have hcF := hC.fill [.int .i64 0, .int .i64 0, .slice none 0 0] rfl
    have hgF := hG.fill hle [.int .i64 0, .int .i64 0, .slice none 0 0] 0
    simp only [fillC, Nat.reduceAdd] at hcF hgF
    clear y0 y1 y2 u0 u1 u2
    generalize (((w1.setCell ⟨g0, 0, none⟩ (.int .i64 0)).setCell ⟨g0, 1, none⟩ (.int .i64 0)).setCell ⟨g0, 2, none⟩ (.slice none 0 0)) = wF at hcF hgF ⊢
    obtain ⟨⟨c0, c1, c2⟩, -⟩ := hcF.three
    exact bodyPost_ret (v := .tuple #[.agg #[.int .i64 0, .int .i64 0, .slice none 0 0], .int .i64 3]) (by simp [results, Tryz.results62, go_sem, c0, c1, c2]) rfl ⟨by first | (rw [HE.out]; done) | (rw [HE.out]; rfl), hgF⟩
  · have d1 : decide ((L : Int) < 36) = false := by rw [decide_eq_false_iff_not]; omega
    have HE := Lib.hid hE
    have HG0 := Lib.hid (fun W (g : Gr w W) => tget_any 0 1 W (HR.out.gr g) (by omega) (by omega) (by rw [← HL.out]; omega))
    have HG1 := Lib.hid (fun W (g : Gr w W) => tget_any 1 1 W (HR.out.gr g) (by omega) (by omega) (by rw [← HL.out]; omega))
    have HG4 := Lib.hid (fun W (g : Gr w W) => tget_any 4 4 W (HR.out.gr g) (by omega) (by omega) (by rw [← HL.out]; omega))
    have HCK := Lib.hid (fun W (g : Gr w W) => check_0 2 W (HR.out.gr g) (by rw [← HL.out]; omega) (by rw [← HL.out]; omega))
    clear hE h1
    generalize gN l 0 1 = X at *
    generalize gN l 1 1 = Y at *
    generalize gN l 4 4 = Z at *
    go_enter Tryz.func62, Tryz.ntmps62
    go_upto_region 1 with fail
    have hle : w.heap.size ≤ w.heap.size := Nat.le_refl _
    generalize w.alloc (.cells #[.int .i64 0, .int .i64 0, .slice none 0 0] 65) = w1 at hC hG ⊢
    generalize hg0 : w.heap.size = g0 at hC ⊢
    replace hle : w.heap.size ≤ g0 := by omega
    clear hg0
    obtain ⟨⟨y0, y1, y2⟩, u0, u1, u2⟩ := hC.three
    by_cases k3 : X = 3 ∨ X = 11
    · have HNT := Lib.hid (fun w => ntype_any (X : Int) w true (by symm; rw [decide_eq_true_eq]; unfold ntOk; omega))
      have b2 : ((Z : Int) != 0) = true := by simp; omega
      clear k3 h2
      go_wp2_with fail
      refine (HG0.out _ hG).mono ?_
      rintro e w2 ⟨rfl, rfl⟩
      go_wp2_with fail
      refine (HG1.out _ hG).mono ?_
      rintro e w2 ⟨rfl, rfl⟩
      have hC1 := CL.new w1 [.int .i64 X, .int .i64 Y, .slice none 0 0] 65 _ rfl
      have hgn := Gr.alloc (Gr.refl w1) (.cells #[.int .i64 X, .int .i64 Y, .slice none 0 0] 65)
      have hlt01 := hC.lt
      replace hC := hC.gr hgn
      replace hG := hG.step hgn
      clear hgn
      obtain ⟨⟨z0, z1, z2⟩, k0, k1, k2⟩ := hC1.three
      go_upto_region 4 with fail
      generalize w1.alloc (.cells #[.int .i64 X, .int .i64 Y, .slice none 0 0] 65) = w2 at *
      generalize hg1 : w1.heap.size = g1 at *
      have hg01 : g0 < g1 := by omega
      clear hlt01 hg1
      clear y0 y1 y2 u0 u1 u2
      obtain ⟨⟨y0, y1, y2⟩, u0, u1, u2⟩ := hC.three
      go_wp2_with fail
      refine (HNT.out _).mono ?_
      rintro e w3 ⟨rfl, rfl⟩
      go_wp2_with fail
      refine (HG4.out _ hG).mono ?_
      rintro e w3 ⟨rfl, rfl⟩
      go_wp2_with fail
      have hcF := hC.fill [.int .i64 0, .int .i64 0, .slice none 0 0] rfl
      have hgF := hG.fill hle [.int .i64 0, .int .i64 0, .slice none 0 0] 0
      simp only [fillC, Nat.reduceAdd] at hcF hgF
      clear y0 y1 y2 u0 u1 u2
      generalize (((w2.setCell ⟨g0, 0, none⟩ (.int .i64 0)).setCell ⟨g0, 1, none⟩ (.int .i64 0)).setCell ⟨g0, 2, none⟩ (.slice none 0 0)) = wF at hcF hgF ⊢
      obtain ⟨⟨c0, c1, c2⟩, -⟩ := hcF.three
      exact bodyPost_ret (v := .tuple #[.agg #[.int .i64 0, .int .i64 0, .slice none 0 0], .int .i64 2]) (by simp [results, Tryz.results62, go_sem, c0, c1, c2]) rfl ⟨by first | (rw [HE.out]; done) | (rw [HE.out]; rfl), hgF⟩
    · have HNT := Lib.hid (fun w => ntype_any (X : Int) w false (by symm; rw [decide_eq_false_iff_not]; unfold ntOk; omega))
      clear k3 h2
      go_wp2_with fail
      refine (HG0.out _ hG).mono ?_
      rintro e w2 ⟨rfl, rfl⟩
      go_wp2_with fail
      refine (HG1.out _ hG).mono ?_
      rintro e w2 ⟨rfl, rfl⟩
      have hC1 := CL.new w1 [.int .i64 X, .int .i64 Y, .slice none 0 0] 65 _ rfl
      have hgn := Gr.alloc (Gr.refl w1) (.cells #[.int .i64 X, .int .i64 Y, .slice none 0 0] 65)
      have hlt01 := hC.lt
      replace hC := hC.gr hgn
      replace hG := hG.step hgn
      clear hgn
      obtain ⟨⟨z0, z1, z2⟩, k0, k1, k2⟩ := hC1.three
      go_upto_region 4 with fail
      generalize w1.alloc (.cells #[.int .i64 X, .int .i64 Y, .slice none 0 0] 65) = w2 at *
      generalize hg1 : w1.heap.size = g1 at *
      have hg01 : g0 < g1 := by omega
      clear hlt01 hg1
      clear y0 y1 y2 u0 u1 u2
      obtain ⟨⟨y0, y1, y2⟩, u0, u1, u2⟩ := hC.three
      go_wp2_with fail
      refine (HNT.out _).mono ?_
      rintro e w3 ⟨rfl, rfl⟩
      go_wp2_with fail
      have hcF := hC.fill [.int .i64 0, .int .i64 0, .slice none 0 0] rfl
      have hgF := hG.fill hle [.int .i64 0, .int .i64 0, .slice none 0 0] 0
      simp only [fillC, Nat.reduceAdd] at hcF hgF
      clear y0 y1 y2 u0 u1 u2
      generalize (((w2.setCell ⟨g0, 0, none⟩ (.int .i64 0)).setCell ⟨g0, 1, none⟩ (.int .i64 0)).setCell ⟨g0, 2, none⟩ (.slice none 0 0)) = wF at hcF hgF ⊢
      obtain ⟨⟨c0, c1, c2⟩, -⟩ := hcF.three
      exact bodyPost_ret (v := .tuple #[.agg #[.int .i64 0, .int .i64 0, .slice none 0 0], .int .i64 2]) (by simp [results, Tryz.results62, go_sem, c0, c1, c2]) rfl ⟨by first | (rw [HE.out]; done) | (rw [HE.out]; rfl), hgF⟩
  · have d1 : decide ((L : Int) < 36) = false := by rw [decide_eq_false_iff_not]; omega
    have HE := Lib.hid hE
    have HG0 := Lib.hid (fun W (g : Gr w W) => tget_any 0 1 W (HR.out.gr g) (by omega) (by omega) (by rw [← HL.out]; omega))
    have HG1 := Lib.hid (fun W (g : Gr w W) => tget_any 1 1 W (HR.out.gr g) (by omega) (by omega) (by rw [← HL.out]; omega))
    have HG4 := Lib.hid (fun W (g : Gr w W) => tget_any 4 4 W (HR.out.gr g) (by omega) (by omega) (by rw [← HL.out]; omega))
    have HCK := Lib.hid (fun W (g : Gr w W) => check_0 2 W (HR.out.gr g) (by rw [← HL.out]; omega) (by rw [← HL.out]; omega))
    have hE5 := vE_le s0 2 l
    clear hE h1
    generalize gN l 0 1 = X at *
    generalize gN l 1 1 = Y at *
    generalize gN l 4 4 = Z at *
    generalize vE s0 2 l = V at *
    have bV : ((V : Int) != 0) = true := by simp; omega
    have b2 : ((Z : Int) != 0) = false := by simp; omega
    have HNT := Lib.hid (fun w => ntype_any (X : Int) w true (by symm; rw [decide_eq_true_eq]; unfold ntOk; omega))
    clear h2 h3 h4
    go_enter Tryz.func62, Tryz.ntmps62
    go_upto_region 1 with fail
    have hle : w.heap.size ≤ w.heap.size := Nat.le_refl _
    generalize w.alloc (.cells #[.int .i64 0, .int .i64 0, .slice none 0 0] 65) = w1 at hC hG ⊢
    generalize hg0 : w.heap.size = g0 at hC ⊢
    replace hle : w.heap.size ≤ g0 := by omega
    clear hg0
    obtain ⟨⟨y0, y1, y2⟩, u0, u1, u2⟩ := hC.three
    go_wp2_with fail
    refine (HG0.out _ hG).mono ?_
    rintro e w2 ⟨rfl, rfl⟩
    go_wp2_with fail
    refine (HG1.out _ hG).mono ?_
    rintro e w2 ⟨rfl, rfl⟩
    have hC1 := CL.new w1 [.int .i64 X, .int .i64 Y, .slice none 0 0] 65 _ rfl
    have hgn := Gr.alloc (Gr.refl w1) (.cells #[.int .i64 X, .int .i64 Y, .slice none 0 0] 65)
    have hlt01 := hC.lt
    replace hC := hC.gr hgn
    replace hG := hG.step hgn
    clear hgn
    obtain ⟨⟨z0, z1, z2⟩, k0, k1, k2⟩ := hC1.three
    go_upto_region 4 with fail
    generalize w1.alloc (.cells #[.int .i64 X, .int .i64 Y, .slice none 0 0] 65) = w2 at *
    generalize hg1 : w1.heap.size = g1 at *
    have hg01 : g0 < g1 := by omega
    clear hlt01 hg1
    clear y0 y1 y2 u0 u1 u2
    obtain ⟨⟨y0, y1, y2⟩, u0, u1, u2⟩ := hC.three
    go_wp2_with fail
    refine (HNT.out _).mono ?_
    rintro e w3 ⟨rfl, rfl⟩
    go_wp2_with fail
    refine (HG4.out _ hG).mono ?_
    rintro e w3 ⟨rfl, rfl⟩
    go_wp2_with fail
    refine (HCK.out _ hG).mono ?_
    rintro e w3 ⟨rfl, hg3⟩
    replace hG := hG.step hg3
    replace hC := hC.gr hg3
    clear hg3
    clear y0 y1 y2 u0 u1 u2
    obtain ⟨⟨y0, y1, y2⟩, u0, u1, u2⟩ := hC.three
    go_wp2_with fail
    have hcF := hC.fill [.int .i64 0, .int .i64 0, .slice none 0 0] rfl
    have hgF := hG.fill hle [.int .i64 0, .int .i64 0, .slice none 0 0] 0
    simp only [fillC, Nat.reduceAdd] at hcF hgF
    clear y0 y1 y2 u0 u1 u2
    generalize (((w3.setCell ⟨g0, 0, none⟩ (.int .i64 0)).setCell ⟨g0, 1, none⟩ (.int .i64 0)).setCell ⟨g0, 2, none⟩ (.slice none 0 0)) = wF at hcF hgF ⊢
    obtain ⟨⟨c0, c1, c2⟩, -⟩ := hcF.three
    exact bodyPost_ret (v := .tuple #[.agg #[.int .i64 0, .int .i64 0, .slice none 0 0], .int .i64 V]) (by simp [results, Tryz.results62, go_sem, c0, c1, c2]) rfl ⟨by first | (rw [HE.out]; done) | (rw [HE.out]; rfl), hgF⟩
set_option maxHeartbeats 2000000 in
theorem dnote_ok {p : Nat → Prop} {v : Value} {l : List Nat} (w : World) (hr : Rb p w v l) (hl : l.length ≤ 30000) (hn : dcNote l = 0) :
    Calls Tryz.prog 62 #[v] w fun e w' => ∃ v', e = .returned (.tuple #[.agg #[.int .i64 (gN l 0 1 : Nat), .int .i64 (gN l 1 1 : Nat), v'], .int .i64 0]) ∧ OwB w.heap.size w' v' (l.drop 8) ∧ Gr w w' := by
  have hcase : 36 ≤ l.length ∧ (gN l 0 1 = 3 ∨ gN l 0 1 = 11) ∧ gN l 4 4 = 0 ∧ vE s0 2 l = 0 := by
    unfold dcNote at hn
    by_cases h1 : l.length < 36
    · rw [if_pos h1] at hn; omega
    · rw [if_neg h1] at hn
      by_cases h2 : (gN l 0 1 ≠ 3 ∧ gN l 0 1 ≠ 11) ∨ gN l 4 4 ≠ 0
      · rw [if_pos h2] at hn; omega
      · rw [if_neg h2] at hn
        exact ⟨by omega, by omega, by omega, hn⟩
  clear hn
  have HR := Lib.hid hr
  have hlt := hr.bytes
  obtain ⟨av, cap, rfl, hcap, hmx⟩ := hr.form
  obtain ⟨L, hL⟩ : ∃ L, L = l.length := ⟨_, rfl⟩
  have HL := Lib.hid hL
  rw [← hL] at HR hl hcap hcase ⊢
  clear hL hr
  have hC := CL.new w noteZ0 65 _ rfl
  have hG := Gr.alloc (Gr.refl w) (.cells noteZ0.toArray 65)
  unfold noteZ0 at hC hG
  obtain ⟨h1, h2, h3, h4⟩ := hcase
  obtain ⟨bk, off, rfl, -, -⟩ := HR.out.at' (i := 0) (by rw [← HL.out]; omega)
  have d1 : decide ((L : Int) < 36) = false := by rw [decide_eq_false_iff_not]; omega
  have HG0 := Lib.hid (fun W (g : Gr w W) => tget_any 0 1 W (HR.out.gr g) (by omega) (by omega) (by rw [← HL.out]; omega))
  have HG1 := Lib.hid (fun W (g : Gr w W) => tget_any 1 1 W (HR.out.gr g) (by omega) (by omega) (by rw [← HL.out]; omega))
  have HG4 := Lib.hid (fun W (g : Gr w W) => tget_any 4 4 W (HR.out.gr g) (by omega) (by omega) (by rw [← HL.out]; omega))
  have HCK := Lib.hid (fun W (g : Gr w W) => check_0 2 W (HR.out.gr g) (by rw [← HL.out]; omega) (by rw [← HL.out]; omega))
  have HT := Lib.hid (HR.out.tail (k := 8) (by rw [← HL.out]; omega))
  have HTL := Lib.hid (show (l.drop 8).length ≤ 30000 by rw [List.length_drop]; have := HL.out; omega)
  rw [h4] at HCK
  generalize gN l 0 1 = X at *
  generalize gN l 1 1 = Y at *
  generalize gN l 4 4 = Z at *
  have b2 : ((Z : Int) != 0) = false := by simp; omega
  have HNT := Lib.hid (fun w => ntype_any (X : Int) w true (by symm; rw [decide_eq_true_eq]; unfold ntOk; omega))
  clear h2 h3 h4
  go_enter Tryz.func62, Tryz.ntmps62
  go_upto_region 1 with fail
  have hle : w.heap.size ≤ w.heap.size := Nat.le_refl _
  generalize w.alloc (.cells #[.int .i64 0, .int .i64 0, .slice none 0 0] 65) = w1 at hC hG ⊢
  generalize hg0 : w.heap.size = g0 at hC ⊢
  replace hle : w.heap.size ≤ g0 := by omega
  clear hg0
  obtain ⟨⟨y0, y1, y2⟩, u0, u1, u2⟩ := hC.three
  go_wp2_with fail
  refine (HG0.out _ hG).mono ?_
  rintro e w2 ⟨rfl, rfl⟩
  go_wp2_with fail
  refine (HG1.out _ hG).mono ?_
  rintro e w2 ⟨rfl, rfl⟩
  have hC1 := CL.new w1 [.int .i64 X, .int .i64 Y, .slice none 0 0] 65 _ rfl
  have hgn := Gr.alloc (Gr.refl w1) (.cells #[.int .i64 X, .int .i64 Y, .slice none 0 0] 65)
  have hlt01 := hC.lt
  replace hC := hC.gr hgn
  replace hG := hG.step hgn
  clear hgn
  obtain ⟨⟨z0, z1, z2⟩, k0, k1, k2⟩ := hC1.three
  go_upto_region 4 with fail
  generalize w1.alloc (.cells #[.int .i64 X, .int .i64 Y, .slice none 0 0] 65) = w2 at *
  generalize hg1 : w1.heap.size = g1 at *
  have hg01 : g0 < g1 := by omega
  clear hlt01 hg1
  clear y0 y1 y2 u0 u1 u2
  obtain ⟨⟨y0, y1, y2⟩, u0, u1, u2⟩ := hC.three
  go_wp2_with fail
  refine (HNT.out _).mono ?_
  rintro e w3 ⟨rfl, rfl⟩
  go_wp2_with fail
  refine (HG4.out _ hG).mono ?_
  rintro e w3 ⟨rfl, rfl⟩
  go_wp2_with fail
  refine (HCK.out _ hG).mono ?_
  rintro e w3 ⟨rfl, hg3⟩
  replace hG := hG.step hg3
  replace hC := hC.gr hg3
  replace hC1 := hC1.gr hg3
  clear hg3 z0 z1 z2 k0 k1 k2
  obtain ⟨⟨z0, z1, z2⟩, k0, k1, k2⟩ := hC1.three
  go_upto_region 9 with fail
  have hcq : ¬ cap = 8 := by omega
  rw [if_neg hcq] at HT
  go_wp2_with fail
  refine (clone_bytes _ (HT.out.gr hG) (by have := HTL.out; omega)).mono ?_
  rintro e w4 ⟨vc, rfl, ho, hgn⟩
  have hnv : ∀ k, vc.ownBlock = some k → k ≠ g0 ∧ k ≠ g1 := by
    intro k hk
    have := ho.above k hk
    have := hC.lt
    have := hC1.lt
    omega
  replace ho := ho.base (Gr.size hG)
  replace hG := hG.step hgn
  replace hC := hC.gr hgn
  replace hC1 := hC1.gr hgn
  obtain ⟨ac, cc, rfl, -, -⟩ := ho.rb.form
  generalize (l.drop 8).length = M at *
  clear hgn z0 z1 z2 k0 k1 k2
  obtain ⟨⟨z0, z1, z2⟩, k0, k1, k2⟩ := hC1.three
  go_upto_region 10 with fail
  have hC2 := hC1.set 2 (.slice ac M cc) (by simp)
  simp only [List.set_cons_succ, List.set_cons_zero] at hC2
  have hC0 := hC.other (s := g1) (o := 2) (.slice ac M cc) (by omega)
  have hG5 := hG.setCell (p := ⟨g1, 2, none⟩) (by show w.heap.size ≤ g1; omega) (.slice ac M cc)
  have ho5 := ho.cellset (g := g1) (o := 2) (fun k hk => (hnv k hk).2) (.slice ac M cc)
  clear z0 z1 z2 k0 k1 k2 y0 y1 y2 u0 u1 u2
  generalize w4.setCell ⟨g1, 2, none⟩ (.slice ac M cc) = w5 at hC2 hC0 hG5 ho5 ⊢
  obtain ⟨⟨z0, z1, z2⟩, k0, k1, k2⟩ := hC2.three
  obtain ⟨⟨y0, y1, y2⟩, u0, u1, u2⟩ := hC0.three
  have hcF := hC0.fill [.int .i64 X, .int .i64 Y, .slice ac M cc] rfl
  have hgF := hG5.fill hle [.int .i64 X, .int .i64 Y, .slice ac M cc] 0
  have hoF := ho5.fill (fun k hk => (hnv k hk).1) [.int .i64 X, .int .i64 Y, .slice ac M cc] 0
  simp only [fillC, Nat.reduceAdd] at hcF hgF hoF
  go_wp2_with fail
  clear z0 z1 z2 k0 k1 k2 y0 y1 y2 u0 u1 u2
  generalize (((w5.setCell ⟨g0, 0, none⟩ (.int .i64 X)).setCell ⟨g0, 1, none⟩ (.int .i64 Y)).setCell ⟨g0, 2, none⟩ (.slice ac M cc)) = wF at hcF hgF hoF ⊢
  obtain ⟨⟨c0, c1, c2⟩, -⟩ := hcF.three
  exact bodyPost_ret (v := .tuple #[.agg #[.int .i64 X, .int .i64 Y, .slice ac M cc], .int .i64 0]) (by simp [results, Tryz.results62, go_sem, c0, c1, c2]) rfl ⟨_, rfl, hoF, hgF⟩
end Go.Proofs.YtkpejaiigopmgaaGreatDoor
