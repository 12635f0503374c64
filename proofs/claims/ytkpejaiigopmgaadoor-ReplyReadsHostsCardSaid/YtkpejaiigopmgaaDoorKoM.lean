/- The document's encoders of transport. -/
import Derived.Test.YtkpejaiigopmgaaDoorGL
import Derived.WalkKit
import Derived.WalkSpells
import Derived.WalkLawsBesides
import Derived.WalkSmall
import Derived.Handy
import Derived.BigQuiet
import Derived.Deep.QuietTactic
import Derived.Deep.RegionHeld3
import Derived.Deep.DeepFit
import Derived.Below
import Derived.Lib.Hide
import Derived.Lib.QuietBelow
namespace Go.Proofs.YtkpejaiigopmgaaDoor
open Go Go.RowKit Go.Sort
set_option maxRecDepth 100000
set_option linter.unusedVariables false
set_option linter.unusedSimpArgs false
theorem owb_lit (w : World) (l : List Nat) (hl : l.length ≤ 1000) (h : ∀ x ∈ l, x < 256) : OwB w.heap.size (w.alloc (.cells (cellsB l).toArray 5)) (.slice (some ⟨w.heap.size, 0, none⟩) l.length l.length) l := by
  have k := World.ownsRow_lit (base := w.heap.size) (e := 5) (size := 1) w (cellsB l).toArray l.length (Nat.le_refl _) (by unfold maxLen; omega) (by simp [cellsB])
  exact ⟨k, h⟩
theorem fin_set {S : List Nat → Nat} {l a z : List Nat} {i : Nat} (hl : l = a ++ bput 0 2 ++ z) (hi : a.length = i) : (l.set i (S l / 256 % 256)).set (i + 1) (S l % 256) = msg S a z := by
  subst hl; subst hi; exact msg_set S a z
theorem fin_setU {src dst : Nat} {l a z : List Nat} {i s : Nat} (hl : l = a ++ bput 0 2 ++ z) (hi : a.length = i) (hs : s = sU src dst l) : (l.set i (s / 256 % 256)).set (i + 1) (s % 256) = msg (sU src dst) a z := by
  rw [hs]; exact fin_set (S := sU src dst) hl hi
set_option maxHeartbeats 2000000 in
theorem recho_ok {p : Nat → Prop} {v : Value} {d : List Nat} (r : Bool) (a b : Nat) (w : World) (hr : Rb p w v d) (ha : a < 65536) (hb : b < 65536) (hl : d.length ≤ 1472) :
    Calls Tryd.prog 66 #[.agg #[.bool r, .int .i64 a, .int .i64 b, v]] w fun e w' => ∃ v', e = .returned (.tuple #[v', .int .i64 0]) ∧ OwB w.heap.size w' v' (echoL r a b d) ∧ Gr w w' := by
  cases r with
  | false =>
    have HR := Lib.hid hr
    obtain ⟨av, cv, rfl, -, -⟩ := hr.form
    obtain ⟨N, hN⟩ : ∃ N, N = d.length := ⟨_, rfl⟩
    have HN := Lib.hid hN
    have hN2 : N ≤ 1472 := by omega
    rw [← hN] at HR ⊢
    obtain ⟨NU, hU⟩ : ∃ U, U = N + 8 := ⟨_, rfl⟩
    have HU := Lib.hid hU
    have e8 : (N : Int) + 8 = (NU : Int) := by omega
    have hU2 : NU ≤ 1492 := by omega
    have d1 : decide ((1480 : Int) < (NU : Int)) = false := by rw [decide_eq_false_iff_not]; omega
    skip
    have hC := CL.new w [.bool false, .int .i64 a, .int .i64 b, .slice av N cv] 79 _ rfl
    have hG := Gr.alloc (Gr.refl w) (.cells #[.bool false, .int .i64 a, .int .i64 b, .slice av N cv] 79)
    clear hN hr hl hU
    go_enter Tryd.func66, Tryd.ntmps66
    go_upto_region 1 with fail
    have hle : w.heap.size ≤ w.heap.size := Nat.le_refl _
    generalize w.alloc (.cells #[.bool false, .int .i64 a, .int .i64 b, .slice av N cv] 79) = w1 at hC hG ⊢
    generalize hg0 : w.heap.size = g0 at hC ⊢
    replace hle : w.heap.size ≤ g0 := by omega
    obtain ⟨⟨x0, x1, x2, x3⟩, -⟩ := hC.four
    go_wp2_with fail
    refine (r6word_any (a : Int) _ true (by symm; rw [decide_eq_true_eq]; omega)).mono ?_
    rintro e w2 ⟨rfl, rfl⟩
    go_wp2_with fail
    refine (r6word_any (b : Int) _ true (by symm; rw [decide_eq_true_eq]; omega)).mono ?_
    rintro e w2 ⟨rfl, rfl⟩
    go_upto_region 9 with fail
    have HO1 : Hid (OwB w1.heap.size (w1.alloc (.cells #[.int .u8 8, .int .u8 0, .int .u8 0, .int .u8 0] 5)) (.slice (some ⟨w1.heap.size, 0, none⟩) 4 4) [8, 0, 0, 0]) := Lib.hid (owb_lit w1 [8, 0, 0, 0] (by simp) (by intro x hx; simp at hx; omega))
    have hg := Gr.alloc (Gr.refl w1) (.cells #[.int .u8 8, .int .u8 0, .int .u8 0, .int .u8 0] 5)
    replace HO1 := Lib.hid (HO1.out.rb)
    replace hG := hG.step hg
    replace hC := hC.gr hg
    clear hg x0 x1 x2 x3
    generalize w1.alloc (.cells #[.int .u8 8, .int .u8 0, .int .u8 0, .int .u8 0] 5) = w2 at hG hC HO1 ⊢
    generalize w1.heap.size = g1 at HO1 ⊢
    obtain ⟨⟨x0, x1, x2, x3⟩, -⟩ := hC.four
    go_wp2_with fail
    refine (rpush_any a 2 _ HO1.out (by simp) (by omega) (by omega) (by show a < 65536; omega)).mono ?_
    rintro e w3 ⟨v3, rfl, ho3, hg⟩
    have hsz := Gr.size hG
    replace ho3 := ho3.base (b := w.heap.size) (by first | exact hsz | exact Nat.le_trans hsz (by simp))
    replace hG := hG.step (hg)
    replace hC := hC.gr (hg)
    clear hsz
    have HW3 := Lib.hid ho3
    obtain ⟨l3, hl3⟩ : ∃ m, m = [8, 0, 0, 0] ++ bput a 2 := ⟨_, rfl⟩
    rw [← hl3] at ho3
    have HL3 := Lib.hid (show l3.length = 6 by rw [hl3]; simp [bput_len])
    have HE3 := Lib.hid hl3
    have HO3 := Lib.hid ho3.rb.any
    obtain ⟨a3, c3, rfl, -, -⟩ := ho3.rb.form
    rw [HL3.out] at HO3 ⊢
    clear hl3 ho3
    rw [← HE3.out, HL3.out] at HW3
    clear x0 x1 x2 x3 hg
    obtain ⟨⟨x0, x1, x2, x3⟩, -⟩ := hC.four
    go_wp2_with fail
    refine (rpush_any b 2 _ HO3.out (by rw [HL3.out]; omega) (by omega) (by omega) (by show b < 65536; omega)).mono ?_
    rintro e w4 ⟨v4, rfl, ho4, hg⟩
    have hsz := Gr.size hG
    have HW4 := Lib.hid (ho4.base (b := w.heap.size) hsz)
    replace hG := hG.step hg
    replace hC := hC.gr hg
    clear hsz x0 x1 x2 x3
    obtain ⟨l4, hl4⟩ : ∃ m, m = l3 ++ bput b 2 := ⟨_, rfl⟩
    rw [← hl4] at ho4
    have HL4 := Lib.hid (show l4.length = 8 by rw [hl4]; simp [bput_len, HL3.out])
    have HE4 := Lib.hid hl4
    have HO4 := Lib.hid ho4.rb.any
    obtain ⟨a4, c4, rfl, -, -⟩ := ho4.rb.form
    rw [HL4.out] at HO4 ⊢
    clear hl4 ho4
    rw [← HE4.out, HL4.out] at HW4
    obtain ⟨⟨x0, x1, x2, x3⟩, -⟩ := hC.four
    have hsz := Gr.size hG
    go_wp2_with (at_builtin; refine wpList_app (base := w.heap.size) rfl (.tmp 34) (.tmp 36) rfl rfl HW4.out rfl (HR.out.gr hG) (by rw [HL4.out, ← HN.out]; omega) hsz ?_; intro va wa hoa ga; have hGa : Gr w wa := hG.grownNew ga HW4.out.above; clear ga; obtain ⟨la, hla⟩ : ∃ m, m = l4 ++ d := ⟨_, rfl⟩; rw [← hla] at hoa; have HLA := Lib.hid hla; have hlen : la.length = NU := (by rw [hla, List.length_append, HL4.out, ← HN.out, HU.out]; omega); have HLN := Lib.hid hlen; have HOA := Lib.hid hoa.rb; obtain ⟨aa, ca, rfl, -, -⟩ := hoa.rb.form; rw [HLN.out] at HOA ⊢; clear hoa hla hlen)
    refine (rwchk_nat wa HOA.out (by rw [HLN.out]; omega)).mono ?_
    rintro e wb ⟨rfl, rfl⟩
    have hsl := s0_le la
    have HS := Lib.hid (r6put_any 2 (s0 la) wa HOA.out (by rw [HLN.out]; omega) (by rw [HLN.out, HU.out]; omega) hsl)
    have HF : Hid ((la.set 2 (s0 la / 256 % 256)).set (2 + 1) (s0 la % 256) = echoL false a b d) := Lib.hid (fin_set (by rw [HLA.out, HE4.out, HE3.out, show [8, 0, 0, 0] = echoA false ++ bput 0 2 from rfl]; simp only [echoZ, List.append_assoc]) rfl)
    rw [HF.out] at HS
    generalize s0 la = s at *
    go_wp2_with fail
    refine HS.out.mono ?_
    rintro e wc ⟨vc, rfl, hoc, hgc⟩
    have hoc := hoc.base (Gr.size hGa)
    go_wp2_with fail
    go_ret2
    exact ⟨_, rfl, hoc, hGa.step hgc⟩
  | true =>
    have HR := Lib.hid hr
    obtain ⟨av, cv, rfl, -, -⟩ := hr.form
    obtain ⟨N, hN⟩ : ∃ N, N = d.length := ⟨_, rfl⟩
    have HN := Lib.hid hN
    have hN2 : N ≤ 1472 := by omega
    rw [← hN] at HR ⊢
    obtain ⟨NU, hU⟩ : ∃ U, U = N + 8 := ⟨_, rfl⟩
    have HU := Lib.hid hU
    have e8 : (N : Int) + 8 = (NU : Int) := by omega
    have hU2 : NU ≤ 1492 := by omega
    have d1 : decide ((1480 : Int) < (NU : Int)) = false := by rw [decide_eq_false_iff_not]; omega
    skip
    have hC := CL.new w [.bool true, .int .i64 a, .int .i64 b, .slice av N cv] 79 _ rfl
    have hG := Gr.alloc (Gr.refl w) (.cells #[.bool true, .int .i64 a, .int .i64 b, .slice av N cv] 79)
    clear hN hr hl hU
    go_enter Tryd.func66, Tryd.ntmps66
    go_upto_region 1 with fail
    have hle : w.heap.size ≤ w.heap.size := Nat.le_refl _
    generalize w.alloc (.cells #[.bool true, .int .i64 a, .int .i64 b, .slice av N cv] 79) = w1 at hC hG ⊢
    generalize hg0 : w.heap.size = g0 at hC ⊢
    replace hle : w.heap.size ≤ g0 := by omega
    obtain ⟨⟨x0, x1, x2, x3⟩, -⟩ := hC.four
    go_wp2_with fail
    refine (r6word_any (a : Int) _ true (by symm; rw [decide_eq_true_eq]; omega)).mono ?_
    rintro e w2 ⟨rfl, rfl⟩
    go_wp2_with fail
    refine (r6word_any (b : Int) _ true (by symm; rw [decide_eq_true_eq]; omega)).mono ?_
    rintro e w2 ⟨rfl, rfl⟩
    go_upto_region 9 with fail
    have HO1 : Hid (OwB w1.heap.size (w1.alloc (.cells #[.int .u8 0, .int .u8 0, .int .u8 0, .int .u8 0] 5)) (.slice (some ⟨w1.heap.size, 0, none⟩) 4 4) [0, 0, 0, 0]) := Lib.hid (owb_lit w1 [0, 0, 0, 0] (by simp) (by intro x hx; simp at hx; omega))
    have hg := Gr.alloc (Gr.refl w1) (.cells #[.int .u8 0, .int .u8 0, .int .u8 0, .int .u8 0] 5)
    replace HO1 := Lib.hid (HO1.out.rb)
    replace hG := hG.step hg
    replace hC := hC.gr hg
    clear hg x0 x1 x2 x3
    generalize w1.alloc (.cells #[.int .u8 0, .int .u8 0, .int .u8 0, .int .u8 0] 5) = w2 at hG hC HO1 ⊢
    generalize w1.heap.size = g1 at HO1 ⊢
    obtain ⟨⟨x0, x1, x2, x3⟩, -⟩ := hC.four
    go_wp2_with fail
    refine (rpush_any a 2 _ HO1.out (by simp) (by omega) (by omega) (by show a < 65536; omega)).mono ?_
    rintro e w3 ⟨v3, rfl, ho3, hg⟩
    have hsz := Gr.size hG
    replace ho3 := ho3.base (b := w.heap.size) (by first | exact hsz | exact Nat.le_trans hsz (by simp))
    replace hG := hG.step (hg)
    replace hC := hC.gr (hg)
    clear hsz
    have HW3 := Lib.hid ho3
    obtain ⟨l3, hl3⟩ : ∃ m, m = [0, 0, 0, 0] ++ bput a 2 := ⟨_, rfl⟩
    rw [← hl3] at ho3
    have HL3 := Lib.hid (show l3.length = 6 by rw [hl3]; simp [bput_len])
    have HE3 := Lib.hid hl3
    have HO3 := Lib.hid ho3.rb.any
    obtain ⟨a3, c3, rfl, -, -⟩ := ho3.rb.form
    rw [HL3.out] at HO3 ⊢
    clear hl3 ho3
    rw [← HE3.out, HL3.out] at HW3
    clear x0 x1 x2 x3 hg
    obtain ⟨⟨x0, x1, x2, x3⟩, -⟩ := hC.four
    go_wp2_with fail
    refine (rpush_any b 2 _ HO3.out (by rw [HL3.out]; omega) (by omega) (by omega) (by show b < 65536; omega)).mono ?_
    rintro e w4 ⟨v4, rfl, ho4, hg⟩
    have hsz := Gr.size hG
    have HW4 := Lib.hid (ho4.base (b := w.heap.size) hsz)
    replace hG := hG.step hg
    replace hC := hC.gr hg
    clear hsz x0 x1 x2 x3
    obtain ⟨l4, hl4⟩ : ∃ m, m = l3 ++ bput b 2 := ⟨_, rfl⟩
    rw [← hl4] at ho4
    have HL4 := Lib.hid (show l4.length = 8 by rw [hl4]; simp [bput_len, HL3.out])
    have HE4 := Lib.hid hl4
    have HO4 := Lib.hid ho4.rb.any
    obtain ⟨a4, c4, rfl, -, -⟩ := ho4.rb.form
    rw [HL4.out] at HO4 ⊢
    clear hl4 ho4
    rw [← HE4.out, HL4.out] at HW4
    obtain ⟨⟨x0, x1, x2, x3⟩, -⟩ := hC.four
    have hsz := Gr.size hG
    go_wp2_with (at_builtin; refine wpList_app (base := w.heap.size) rfl (.tmp 34) (.tmp 36) rfl rfl HW4.out rfl (HR.out.gr hG) (by rw [HL4.out, ← HN.out]; omega) hsz ?_; intro va wa hoa ga; have hGa : Gr w wa := hG.grownNew ga HW4.out.above; clear ga; obtain ⟨la, hla⟩ : ∃ m, m = l4 ++ d := ⟨_, rfl⟩; rw [← hla] at hoa; have HLA := Lib.hid hla; have hlen : la.length = NU := (by rw [hla, List.length_append, HL4.out, ← HN.out, HU.out]; omega); have HLN := Lib.hid hlen; have HOA := Lib.hid hoa.rb; obtain ⟨aa, ca, rfl, -, -⟩ := hoa.rb.form; rw [HLN.out] at HOA ⊢; clear hoa hla hlen)
    refine (rwchk_nat wa HOA.out (by rw [HLN.out]; omega)).mono ?_
    rintro e wb ⟨rfl, rfl⟩
    have hsl := s0_le la
    have HS := Lib.hid (r6put_any 2 (s0 la) wa HOA.out (by rw [HLN.out]; omega) (by rw [HLN.out, HU.out]; omega) hsl)
    have HF : Hid ((la.set 2 (s0 la / 256 % 256)).set (2 + 1) (s0 la % 256) = echoL true a b d) := Lib.hid (fin_set (by rw [HLA.out, HE4.out, HE3.out, show [0, 0, 0, 0] = echoA true ++ bput 0 2 from rfl]; simp only [echoZ, List.append_assoc]) rfl)
    rw [HF.out] at HS
    generalize s0 la = s at *
    go_wp2_with fail
    refine HS.out.mono ?_
    rintro e wc ⟨vc, rfl, hoc, hgc⟩
    have hoc := hoc.base (Gr.size hGa)
    go_wp2_with fail
    go_ret2
    exact ⟨_, rfl, hoc, hGa.step hgc⟩
end Go.Proofs.YtkpejaiigopmgaaDoor
