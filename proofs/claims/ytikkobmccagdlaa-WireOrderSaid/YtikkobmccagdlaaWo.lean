/- The walk of the statement on the order of pairs. -/
import Derived.Test.YtikkobmccagdlaaWk
import Derived.WalkKit
import Derived.WalkSpells
import Derived.WalkLawsBesides
import Derived.WalkSmall
import Derived.Handy
import Derived.BigQuiet
import Derived.Deep.QuietTactic
import Derived.Deep.RegionHeld3
import Derived.Deep.DeepFit
import Derived.Below
import Derived.Lib.Hide
import Derived.Lib.QuietBelow
namespace Go.Proofs.Ytikkobmccagdlaa
open Go Go.RowKit Go.Sort
set_option maxRecDepth 100000
set_option linter.unusedVariables false
theorem dec_yes {m n : Nat} (h : m < n) : decide ((m : Int) < (n : Int)) = true := by rw [decide_eq_true_eq]; omega
theorem dec_no {m n : Nat} (h : ¬ m < n) : decide ((m : Int) < (n : Int)) = false := by rw [decide_eq_false_iff_not]; omega
theorem order_oc {la lb : List Nat} (h : la.length % 2 = 0) : adR (oc (wsum false la) : Nat) (oc (wsum false lb) : Nat) = (oc (wsum false (la ++ lb)) : Nat) := by
  rw [adR_nat (oc_le _) (oc_le _), oc_add, oc_add', wsum_even h]
theorem order_two {la lb : List Nat} (h : la.length % 2 = 0) (hb : lb.length % 2 = 0) : oc (wsum false (lb ++ la)) = oc (wsum false (la ++ lb)) := by
  rw [wsum_even h, wsum_even hb, Nat.add_comm]
theorem even_take (l : List Nat) : ((l.take (l.length / 2 * 2)).length) % 2 = 0 := by rw [List.length_take]; omega
set_option maxHeartbeats 2000000 in
theorem order_walk {p q : Nat → Prop} (va vb : Value) (la lb : List Nat) (w : World) (ha : Rb p w va la) (hb : Rb q w vb lb) :
    Calls Try.prog 4 #[va, vb] w fun e w' => e = .returned (.bool true) ∧ Gr w w' := by
  obtain ⟨a, ca, rfl, hca, hma⟩ := ha.form
  obtain ⟨b, cb, rfl, hcb, hmb⟩ := hb.form
  have HA := Lib.hid (ha.take (k := la.length / 2 * 2) (by omega))
  have HB := Lib.hid hb
  have HB2 := Lib.hid (hb.take (k := lb.length / 2 * 2) (by omega))
  clear ha hb
  by_cases h1 : 3000 < la.length
  · have d1 : decide ((3000 : Int) < (la.length : Int)) = true := dec_yes h1
    go_enter Try.func4, Try.ntmps4
    go_wp2_with fail
    refine (wawake_any _).mono ?_
    rintro e w1 ⟨rfl, hg⟩
    go_wp2_with fail
    go_ret
    exact ⟨rfl, hg⟩
  have d1 : decide ((3000 : Int) < (la.length : Int)) = false := dec_no h1
  by_cases h2 : 3000 < lb.length
  · have d2 : decide ((3000 : Int) < (lb.length : Int)) = true := dec_yes h2
    go_enter Try.func4, Try.ntmps4
    go_wp2_with fail
    refine (wawake_any _).mono ?_
    rintro e w1 ⟨rfl, hg⟩
    go_wp2_with fail
    go_ret
    exact ⟨rfl, hg⟩
  have d2 : decide ((3000 : Int) < (lb.length : Int)) = false := dec_no h2
  have HE := Lib.hid (even_take la)
  have HE2 := Lib.hid (even_take lb)
  have hla : (la.take (la.length / 2 * 2)).length = la.length / 2 * 2 := by rw [List.length_take]; omega
  have hlb : (lb.take (lb.length / 2 * 2)).length = lb.length / 2 * 2 := by rw [List.length_take]; omega
  have e1 : (la.length : Int) / 2 * 2 = ((la.length / 2 * 2 : Nat) : Int) := by omega
  have e2 : (lb.length : Int) / 2 * 2 = ((lb.length / 2 * 2 : Nat) : Int) := by omega
  generalize la.take (la.length / 2 * 2) = ma at *
  generalize lb.take (lb.length / 2 * 2) = mb at *
  obtain ⟨ja, hja⟩ : ∃ j, j = la.length / 2 * 2 := ⟨_, rfl⟩
  obtain ⟨jb, hjb⟩ : ∃ j, j = lb.length / 2 * 2 := ⟨_, rfl⟩
  rw [← hja] at HA hla e1
  rw [← hjb] at HB2 hlb e2
  have ja1 : ja ≤ la.length := by omega
  have jb1 : jb ≤ lb.length := by omega
  have HLA := Lib.hid hla
  have HLB := Lib.hid hlb
  clear hja hjb hla hlb
  go_enter Try.func4, Try.ntmps4
  go_wp2_with fail
  refine (wawake_any _).mono ?_
  rintro e w1 ⟨rfl, hg⟩
  go_wp2_with (first
    | (at_builtin; refine wpList_app (base := w1.heap.size) rfl (.const (.slice none 0 0)) (.tmp 33) rfl rfl (OwB.nil _ _) rfl (HA.out.gr hg) (by have := HLA.out; simp; omega) (Nat.le_refl _) ?_; intro v2 w2 ho2 g2)
    | (at_builtin; refine wpList_app (base := w1.heap.size) rfl (.tmp 34) (.tmp 35) rfl rfl ho2 rfl ((HB.out.gr hg).gr (Gr.grownNew (Gr.refl _) g2 (fun _ h => by cases h))) (by have := HLA.out; simp; omega) g2.size ?_; intro v3 w3 ho3 g3))
  have hG2 : Gr w1 w2 := Gr.grownNew (Gr.refl _) g2 (fun _ h => by cases h)
  have hG3 : Gr w1 w3 := hG2.grownNew g3 ho2.above
  have X3 := Lib.hid ho3.rb
  have A3 := Lib.hid ((HA.out.gr hg).gr hG3)
  have B3 := Lib.hid ((HB.out.gr hg).gr hG3)
  have B3' := Lib.hid ((HB2.out.gr hg).gr hG3)
  rw [List.nil_append] at X3
  replace hg := hg.step hG3
  have LX := Lib.hid (show (ma ++ lb).length ≤ 100000 by have := HLA.out; rw [List.length_append]; omega)
  have LA := Lib.hid (show ma.length ≤ 100000 by have := HLA.out; omega)
  have OC := Lib.hid (order_oc (la := ma) (lb := lb) HE.out)
  clear ho2 ho3 g2 g3 hG2 hG3
  refine (wsum_any _ X3.out LX.out).mono ?_
  rintro e w4 ⟨rfl, rfl⟩
  go_wp2_with fail
  refine (wsum_any _ A3.out LA.out).mono ?_
  rintro e w4 ⟨rfl, rfl⟩
  go_wp2_with fail
  refine (wsum_any _ B3.out (by omega)).mono ?_
  rintro e w4 ⟨rfl, rfl⟩
  go_wp2_with fail
  refine (wadd_any _ _ _).mono ?_
  rintro e w4 ⟨rfl, rfl⟩
  rw [OC.out]
  generalize oc (wsum false (ma ++ lb)) = R at *
  go_wp2_with (first
    | (at_builtin; refine wpList_app (base := w3.heap.size) rfl (.const (.slice none 0 0)) (.tmp 51) rfl rfl (OwB.nil _ _) rfl B3'.out (by have := HLB.out; simp; omega) (Nat.le_refl _) ?_; intro v5 w5 ho5 g5; have hG5 : Gr w3 w5 := Gr.grownNew (Gr.refl _) g5 (fun _ h => by cases h))
    | (at_builtin; refine wpList_app (base := w3.heap.size) rfl (.tmp 52) (.tmp 53) rfl rfl ho5 rfl (A3.out.gr hG5) (by have := HLA.out; have := HLB.out; simp; omega) g5.size ?_; intro v6 w6 ho6 g6; have hG6 : Gr w3 w6 := hG5.grownNew g6 ho5.above))
  have Y6 := Lib.hid ho6.rb
  have A6 := Lib.hid (A3.out.gr hG6)
  have B6 := Lib.hid (B3'.out.gr hG6)
  rw [List.nil_append] at Y6
  replace hg := hg.step hG6
  have LY := Lib.hid (show (mb ++ ma).length ≤ 100000 by have := HLA.out; have := HLB.out; rw [List.length_append]; omega)
  have LZ := Lib.hid (show (ma ++ mb).length ≤ 100000 by have := HLA.out; have := HLB.out; rw [List.length_append]; omega)
  have OT := Lib.hid (order_two (la := ma) (lb := mb) HE.out HE2.out)
  clear ho5 ho6 g5 g6 hG5 hG6
  refine (wsum_any _ Y6.out LY.out).mono ?_
  rintro e w7 ⟨rfl, rfl⟩
  rw [OT.out]
  go_wp2_with (first
    | (at_builtin; refine wpList_app (base := w6.heap.size) rfl (.const (.slice none 0 0)) (.tmp 57) rfl rfl (OwB.nil _ _) rfl A6.out (by have := HLA.out; simp; omega) (Nat.le_refl _) ?_; intro v8 w8 ho8 g8; have hG8 : Gr w6 w8 := Gr.grownNew (Gr.refl _) g8 (fun _ h => by cases h))
    | (at_builtin; refine wpList_app (base := w6.heap.size) rfl (.tmp 58) (.tmp 59) rfl rfl ho8 rfl (B6.out.gr hG8) (by have := HLA.out; have := HLB.out; simp; omega) g8.size ?_; intro v9 w9 ho9 g9; have hG9 : Gr w6 w9 := hG8.grownNew g9 ho8.above))
  have Z9 := Lib.hid ho9.rb
  rw [List.nil_append] at Z9
  replace hg := hg.step hG9
  clear ho8 ho9 g8 g9 hG8 hG9
  refine (wsum_any _ Z9.out LZ.out).mono ?_
  rintro e w10 ⟨rfl, rfl⟩
  go_wp2_with fail
  go_ret
  exact ⟨rfl, hg⟩
end Go.Proofs.Ytikkobmccagdlaa
