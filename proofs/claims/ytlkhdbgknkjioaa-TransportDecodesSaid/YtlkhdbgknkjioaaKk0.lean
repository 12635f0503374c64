/- The document's decoders of transport. -/
import Derived.Test.YtlkhdbgknkjioaaKx
import Derived.Test.YtlkhdbgknkjioaaKp
import Derived.Test.YtlkhdbgknkjioaaTa
import Derived.WalkKit
import Derived.WalkSpells
import Derived.WalkLawsBesides
import Derived.WalkSmall
import Derived.Handy
import Derived.BigQuiet
import Derived.Deep.QuietTactic
import Derived.Deep.RegionHeld3
import Derived.Deep.DeepFit
import Derived.Below
import Derived.Lib.Hide
import Derived.Lib.QuietBelow
import Derived.Deep.DeepCutAuto
namespace Go.Proofs.Ytlkhdbgknkjioaa
open Go Go.RowKit Go.Sort
set_option maxRecDepth 100000
set_option linter.unusedVariables false
set_option linter.unusedSimpArgs false
theorem region_cut3 {P : Program} {c : Code} {Q : Exit → Act → World → Prop} {a : Act} {w : World} (aF : Nat → Option Addr → Nat → Act) (R : Nat → Option Addr → Nat → World → Prop)
    (h : c.wp P (fun e a' w' => e = .normal ∧ ∃ x1 x2 x3, a' = aF x1 x2 x3 ∧ R x1 x2 x3 w') a w) (k : ∀ x1 x2 x3 w', R x1 x2 x3 w' → Q .normal (aF x1 x2 x3) w') : c.wp P Q a w := by
  refine Code.wp_mono (fun e a' w' h' => ?_) h
  obtain ⟨he, x1, x2, x3, ha, hr⟩ := h'
  rw [he, ha]
  exact k _ _ _ _ hr
theorem OwB.under {base : Nat} {w : World} {v : Value} {l : List Nat} (h : OwB base w v l) : ∀ k, v.ownBlock = some k → k < w.heap.size := by
  intro k hk
  rcases h.1.2 with ⟨rfl, h0⟩ | ⟨g, cap, cur, rfl, hg, hh, _⟩
  · cases hk
  · simp [Value.ownBlock] at hk
    subst hk
    rcases Nat.lt_or_ge g w.heap.size with h | h
    · exact h
    · rw [Array.getElem?_eq_none h] at hh; cases hh
theorem CL.fillOther {w : World} {g s : Nat} {vs : List Value} (h : CL w g vs) (hs : g ≠ s) (ws : List Value) (i : Nat) : CL (fillC w s i ws) g vs := by
  induction ws generalizing w i with
  | nil => exact h
  | cons v t ih => exact ih (h.other v hs) (i + 1)
theorem gN_oneK {l : List Nat} {i : Nat} (h : i < l.length) : gN l i 1 = l.getD i 0 := by
  unfold gN
  rw [List.drop_eq_getElem_cons h, List.take_succ_cons, List.take_zero, List.getD_eq_getElem?_getD, List.getElem?_eq_getElem h]
  simp [bnum]
theorem drop_two (l : List Nat) (i k m : Nat) : (l.drop i).take k ++ (l.drop (i + k)).take m = (l.drop i).take (k + m) := by
  rw [List.take_add, List.drop_drop]
theorem echo_re {l : List Nat} {r : Bool} (hb : ∀ x ∈ l, x < 256) (h8 : 8 ≤ l.length) (hk : gN l 0 1 = kind r) (h1 : gN l 1 1 = 0) : echoL r (gN l 4 2) (gN l 6 2) (l.drop 8) = msg s0 (l.take 2) (l.drop 4) := by
  unfold echoL
  congr 1
  · unfold echoA
    rw [show (if r then 0 else 8) = gN l 0 1 from hk.symm, show bput 0 1 = bput (gN l 1 1) 1 by rw [h1], bput_gN hb (by omega), bput_gN hb (by omega), drop_two l 0 1 1]
    rfl
  · unfold echoZ
    rw [bput_gN hb (by omega), bput_gN hb (by omega), drop_two l 4 2 2]
    rw [show l.drop 8 = (l.drop 4).drop (2 + 2) by rw [List.drop_drop], List.take_append_drop]
theorem note_re {l : List Nat} (hb : ∀ x ∈ l, x < 256) (h8 : 8 ≤ l.length) (h4 : gN l 4 4 = 0) : noteL (gN l 0 1) (gN l 1 1) (l.drop 8) = msg s0 (l.take 2) (l.drop 4) := by
  unfold noteL
  congr 1
  · unfold noteA
    rw [bput_gN hb (by omega), bput_gN hb (by omega), drop_two l 0 1 1]
    rfl
  · unfold noteZ
    rw [show bput 0 4 = bput (gN l 4 4) 4 by rw [h4], bput_gN hb (by omega)]
    rw [show l.drop 8 = (l.drop 4).drop 4 by rw [List.drop_drop], List.take_append_drop]
theorem udp_re {src dst : Nat} {l : List Nat} (hb : ∀ x ∈ l, x < 256) (h8 : 8 ≤ l.length) (h4 : gN l 4 2 = l.length) : udpL src dst (gN l 0 2) (gN l 2 2) (l.drop 8) = msg (sU src dst) (l.take 6) (l.drop 8) := by
  unfold udpL
  congr 1
  unfold udpA bputs
  simp only [List.flatMap_cons, List.flatMap_nil, List.append_nil]
  rw [show 8 + (l.drop 8).length = gN l 4 2 by rw [List.length_drop]; omega, bput_gN hb (by omega), bput_gN hb (by omega), bput_gN hb (by omega), drop_two l 2 2 2, drop_two l 0 2 4]
  rfl
theorem tcp_re {src dst : Nat} {l : List Nat} (hb : ∀ x ∈ l, x < 256) (h8 : 20 ≤ l.length) (h12 : gN l 12 1 = 80) (h18 : gN l 18 2 = 0) : tcpL src dst (gN l 0 2) (gN l 2 2) (gN l 4 4) (gN l 8 4) (gN l 13 1) (gN l 14 2) (l.drop 20) = msg (sP src dst 6) (l.take 16) (l.drop 18) := by
  unfold tcpL
  congr 1
  · unfold tcpA
    rw [show bput 80 1 = bput (gN l 12 1) 1 by rw [h12], bput_gN hb (by omega), bput_gN hb (by omega), bput_gN hb (by omega), bput_gN hb (by omega), bput_gN hb (by omega), bput_gN hb (by omega), bput_gN hb (by omega)]
    rw [drop_two l 12 1 1, drop_two l 4 4 4, drop_two l 0 2 2, drop_two l 0 4 8, drop_two l 0 12 2, drop_two l 0 14 2]
    rfl
  · unfold tcpZ
    rw [show bput 0 2 = bput (gN l 18 2) 2 by rw [h18], bput_gN hb (by omega)]
    rw [show l.drop 20 = (l.drop 18).drop 2 by rw [List.drop_drop], List.take_append_drop]
theorem cell_gr {w W : World} (h : Gr w W) {b o : Nat} {v : Value} (hc : w.cell? ⟨b, o, none⟩ = some v) : W.cell? ⟨b, o, none⟩ = some v := by
  rw [(Gr.cells h).1 _ _ (World.block_lt_of_cell? _ _ hc)]; exact hc
end Go.Proofs.Ytlkhdbgknkjioaa
