/- The document's numbers: Gcd. -/
import Derived.Test.YtjpjnbgfodlkcaaGreatDoorGAJ
import Derived.Test.YtjpjnbgfodlkcaaGreatDoorGAF
import Derived.Test.YtjpjnbgfodlkcaaGreatDoorGAC
import Derived.WalkKit
import Derived.WalkSpells
import Derived.WalkLawsBesides
import Derived.WalkSmall
import Derived.Handy
import Derived.BigQuiet
import Derived.Deep.QuietTactic
import Derived.Deep.RegionHeld3
import Derived.Deep.DeepFit
import Derived.Below
import Derived.Lib.Hide
import Derived.Lib.QuietBelow
import Derived.Deep.DeepCutAuto
namespace Go.Proofs.YtjpjnbgfodlkcaaGreatDoor
open Go Go.RowKit Go.Sort
set_option maxRecDepth 100000
set_option linter.unusedVariables false
theorem num_slc {w : World} {v : Value} {N : Nat} (h : Num w v N) : ∃ (a : Option Addr) (cap : Nat), v = .slice a (nd N).length cap := num_len h
theorem num_head {w : World} {a : Option Addr} {n cap : Nat} {N : Nat} (h : Num w (.slice a n cap) N) (h0 : 0 < N) : ∃ (b off x : Nat), a = some ⟨b, off, none⟩ ∧ w.cell? ⟨b, off, none⟩ = some (.int .i64 (x : Nat)) ∧ x % 2 = N % 2 ∧ x < 1073741824 ∧ 0 < n := by
  obtain ⟨a', cap', e, -, -, H⟩ := h
  cases e
  have hl : 0 < (nd N).length := by rw [nd_pos h0]; simp
  obtain ⟨b, off, rfl, -, hc⟩ := H 0 hl
  refine ⟨b, off, (nd N).getD 0 0, rfl, hc, ?_, lim_getD (lim_nd N) 0, hl⟩
  rw [nd_pos h0]
  simp only [List.getD_cons_zero]
  omega
def GcOne (w : World) (A B : Nat) (a b t : Value) (wr : World) : Prop :=
  ∃ X Y T : Nat, Num wr a X ∧ Num wr b Y ∧ Num wr t T ∧ 0 < X ∧ 0 < Y ∧ 0 < T ∧ T * X.gcd Y = A.gcd B ∧ X ≤ A ∧ Y ≤ B ∧ Gr w wr
def GcTwo (w : World) (A B T : Nat) (t : Value) (a b : Value) (wr : World) : Prop :=
  ∃ X Y : Nat, Num wr a X ∧ Num wr b Y ∧ Num wr t T ∧ T * X.gcd Y = A.gcd B ∧ X ≤ A ∧ Y ≤ B ∧ (X % 2 = 1 ∨ Y % 2 = 1) ∧ Gr w wr
theorem gc_zero {X Y : Nat} (h : X = 0 ∨ Y = 0) : X.gcd Y = X + Y := by
  rcases h with rfl | rfl
  · rw [Nat.gcd_zero_left, Nat.zero_add]
  · rw [Nat.gcd_zero_right, Nat.add_zero]
set_option maxHeartbeats 4000000 in
theorem rgcd_any {A B : Nat} (va vb : Value) (w : World) (hA : Num w va A) (hB : Num w vb B) (lA : (nd A).length ≤ 5000) (lB : (nd B).length ≤ 5000) :
    Calls Tryz.prog 69 #[va, vb] w (OneNum w (A.gcd B)) := by
  have HA := Lib.hid hA
  have HB := Lib.hid hB
  obtain ⟨aa, ca, rfl⟩ := num_slc hA
  obtain ⟨ab, cb, rfl⟩ := num_slc hB
  clear hA hB
  by_cases hz : A = 0 ∨ B = 0
  · have HS := Lib.hid (gc_zero hz)
    have dd : ((((nd A).length : Int) == 0) = true) ∨ ((((nd A).length : Int) == 0) = false ∧ (((nd B).length : Int) == 0) = true) := by
      rcases Nat.eq_zero_or_pos A with h | h
      · left; rw [h, nd_zero]; rfl
      · right
        have h1 : 0 < (nd A).length := by rw [nd_pos h]; simp
        refine ⟨by rw [beq_eq_false_iff_ne]; omega, ?_⟩
        rw [show B = 0 by omega, nd_zero]; rfl
    rcases dd with dA | ⟨dA, dB⟩
    all_goals
      go_enter Tryz.func69, Tryz.ntmps69
      go_wp2_with fail
      refine (plus_any _ _ _ HA.out HB.out (by omega) (by omega)).mono ?_
      rintro e w2 ⟨v, rfl, hv, hg⟩
      rw [← HS.out] at hv
      go_wp2_with fail
      go_ret
      exact ⟨v, rfl, hv, hg⟩
  · have hA0 : 0 < A := by omega
    have hB0 : 0 < B := by omega
    have hl1 : 0 < (nd A).length := by rw [nd_pos hA0]; simp
    have hl2 : 0 < (nd B).length := by rw [nd_pos hB0]; simp
    have dA : (((nd A).length : Int) == 0) = false := by rw [beq_eq_false_iff_ne]; omega
    have dB : (((nd B).length : Int) == 0) = false := by rw [beq_eq_false_iff_ne]; omega
    have HT0 := Lib.hid (num_lit w 1 1 rfl (by omega) (by omega))
    have HA0 := Lib.hid hA0
    have HB0 := Lib.hid hB0
    clear hz hA0 hB0
    go_enter Tryz.func69, Tryz.ntmps69
    go_wp2_with fail
    go_loopw [0, 1, 5] (fun a b t wr => GcOne w A B a b t wr) (fun a _ _ wr => numOf wr a)
    case atStart => exact ⟨A, B, 1, HA.out.gr (Gr.alloc (Gr.refl _) _), HB.out.gr (Gr.alloc (Gr.refl _) _), HT0.out, HA0.out, HB0.out, by omega, Nat.one_mul _, Nat.le_refl _, Nat.le_refl _, Gr.alloc (Gr.refl _) _⟩
    case round =>
      obtain ⟨X, Y, T, hx, hy, ht, h0, h1, hT0, hgc, hXA, hYB, hg⟩ := hrel
      have HGC := Lib.hid hgc
      have hTle : T ≤ A := by
        have h2 := Nat.gcd_le_left B HA0.out
        have h3 : 0 < X.gcd Y := Nat.gcd_pos_of_pos_left _ h0
        rw [← hgc] at h2
        exact Nat.le_trans (Nat.le_mul_of_pos_right T h3) h2
      have lT := nd_le_len' lA hTle
      have lX := nd_le_len' lA hXA
      have lY := nd_le_len' lB hYB
      obtain ⟨ax, cx, rfl⟩ := num_slc hx
      obtain ⟨ay, cy, rfl⟩ := num_slc hy
      obtain ⟨at0, ct, rfl⟩ := num_slc ht
      obtain ⟨bx, ox, x, rfl, hcx, hpx, hlx, -⟩ := num_head hx h0
      obtain ⟨by', oy, y, rfl, hcy, hpy, hly, -⟩ := num_head hy h1
      have hxl : 0 < (nd X).length := by rw [nd_pos h0]; simp
      have hyl : 0 < (nd Y).length := by rw [nd_pos h1]; simp
      have h0' : (0 : Int) < ((nd X).length : Int) := by omega
      have h1' : (0 : Int) < ((nd Y).length : Int) := by omega
      have HX2 := Lib.hid hx
      have HY2 := Lib.hid hy
      have HT := Lib.hid ht
      have H0 := Lib.hid h0
      have H1 := Lib.hid h1
      have HT0' := Lib.hid hT0
      clear hgc hx hy ht h0 h1 hTle hT0
      by_cases e0 : X % 2 = 0
      · have dpx : ((x : Int) % 2 == 0) = true := by rw [beq_iff_eq]; omega
        by_cases e1 : Y % 2 = 0
        · have dpy : ((y : Int) % 2 == 0) = true := by rw [beq_iff_eq]; omega
          have HE := Lib.hid (gcd_both e0 e1)
          have HXp : Hid (0 < X / 2) := Lib.hid (by have := H0.out; omega)
          have HYp : Hid (0 < Y / 2) := Lib.hid (by have := H1.out; omega)
          clear hpx hpy e0 e1
          go_wp2_with fail
          refine (half_any _ _ HX2.out (by omega)).mono ?_
          rintro e w2 ⟨v2, rfl, hv2, hg2⟩
          have HV2 := Lib.hid hv2
          clear hv2
          go_wp2_with fail
          refine (half_any _ _ (HY2.out.gr hg2) (by omega)).mono ?_
          rintro e w3 ⟨v3, rfl, hv3, hg3⟩
          have HV3 := Lib.hid hv3
          clear hv3
          go_wp2_with fail
          refine (plus_any _ _ _ ((HT.out.gr hg2).gr hg3) ((HT.out.gr hg2).gr hg3) (by omega) (by omega)).mono ?_
          rintro e w4 ⟨v4, rfl, hv4, hg4⟩
          have HV4 := Lib.hid hv4
          clear hv4
          go_wp2_with fail
          go_roundw
          case rel =>
            refine ⟨X / 2, Y / 2, T + T, (HV2.out.gr hg3).gr hg4, HV3.out.gr hg4, HV4.out, HXp.out, HYp.out, by have := HT0'.out; omega, ?_, Nat.le_trans (Nat.div_le_self _ _) hXA, Nat.le_trans (Nat.div_le_self _ _) hYB, ((hg.step hg2).step hg3).step hg4⟩
            rw [← HGC.out, HE.out, ← Nat.mul_assoc, Nat.mul_two]
          case measure =>
            rw [numOf_eq ((HV2.out.gr hg3).gr hg4), numOf_eq HX2.out]
            have := H0.out
            omega
        · have dpy : ((y : Int) % 2 == 0) = false := by rw [beq_eq_false_iff_ne]; omega
          have HS : Hid (Num wr (.slice (some ⟨bx, ox, none⟩) (nd X).length cx) X ∧ Num wr (.slice (some ⟨by', oy, none⟩) (nd Y).length cy) Y ∧ Num wr (.slice at0 (nd T).length ct) T ∧ T * X.gcd Y = A.gcd B ∧ X ≤ A ∧ Y ≤ B ∧ (X % 2 = 1 ∨ Y % 2 = 1) ∧ Gr w wr) := Lib.hid ⟨HX2.out, HY2.out, HT.out, HGC.out, hXA, hYB, .inr (by omega), hg⟩
          clear hpx hpy e0 e1
          go_wp2_with fail
          clear hg HX2 HY2 HT
          go_loopw [0, 1] (fun a b wr => GcTwo w A B T (.slice at0 (nd T).length ct) a b wr) (fun a b wr => numOf wr a + numOf wr b)
          case atStart => exact ⟨X, Y, HS.out⟩
          case round =>
            obtain ⟨X, Y, hx, hy, ht, hgc, hXA, hYB, hodd, hg⟩ := hrel
            have HGC := Lib.hid hgc
            have HOD := Lib.hid hodd
            clear hgc hodd
            obtain ⟨ax, cx, rfl⟩ := num_slc hx
            obtain ⟨ay, cy, rfl⟩ := num_slc hy
            by_cases h0 : 0 < X
            · have hxl : 0 < (nd X).length := by rw [nd_pos h0]; simp
              have dx : decide (0 < (nd X).length) = true := by simpa using hxl
              by_cases h1 : 0 < Y
              · have hyl : 0 < (nd Y).length := by rw [nd_pos h1]; simp
                have dy : decide (0 < (nd Y).length) = true := by simpa using hyl
                obtain ⟨bx, ox, x, rfl, hcx, hpx, hlx, -⟩ := num_head hx h0
                obtain ⟨by', oy, y, rfl, hcy, hpy, hly, -⟩ := num_head hy h1
                have HX := Lib.hid hx
                have HY := Lib.hid hy
                have HT := Lib.hid ht
                have lX := nd_le_len' lA hXA
                have lY := nd_le_len' lB hYB
                clear hx hy ht
                by_cases e0 : X % 2 = 0
                · have hOY : Y % 2 ≠ 0 := by have := HOD.out; omega
                  have HE := Lib.hid (gcd_left e0 hOY)
                  have HO2 : Hid (Y % 2 = 1) := Lib.hid (by omega)
                  have dpx : ((x : Int) % 2 == 0) = true := by rw [beq_iff_eq]; omega
                  have H0 := Lib.hid h0
                  have h0' : (0 : Int) < ((nd X).length : Int) := by omega
                  clear hpx hpy e0 hOY h0 h1
                  go_wp2_with fail
                  refine (half_any _ _ HX.out (by omega)).mono ?_
                  rintro e w2 ⟨v2, rfl, hv2, hg2⟩
                  have HV2 := Lib.hid hv2
                  clear hv2
                  go_wp2_with fail
                  go_roundw
                  case rel => exact ⟨X / 2, Y, HV2.out, HY.out.gr hg2, HT.out.gr hg2, by rw [← HE.out]; exact HGC.out, Nat.le_trans (Nat.div_le_self _ _) hXA, hYB, .inr HO2.out, hg.step hg2⟩
                  case measure =>
                    rw [numOf_eq HV2.out, numOf_eq (HY.out.gr hg2), numOf_eq HX.out, numOf_eq HY.out]
                    have := H0.out
                    omega
                · have dpx : ((x : Int) % 2 == 0) = false := by rw [beq_eq_false_iff_ne]; omega
                  by_cases e1 : Y % 2 = 0
                  · have dpy : ((y : Int) % 2 == 0) = true := by rw [beq_iff_eq]; omega
                    have HE := Lib.hid (gcd_right e0 e1)
                    have HO2 : Hid (X % 2 = 1) := Lib.hid (by omega)
                    have H1 := Lib.hid h1
                    have h1' : (0 : Int) < ((nd Y).length : Int) := by omega
                    have h0' : (0 : Int) < ((nd X).length : Int) := by omega
                    clear hpx hpy e0 e1 h0 h1
                    go_wp2_with fail
                    refine (half_any _ _ HY.out (by omega)).mono ?_
                    rintro e w2 ⟨v2, rfl, hv2, hg2⟩
                    have HV2 := Lib.hid hv2
                    clear hv2
                    go_wp2_with fail
                    go_roundw
                    case rel => exact ⟨X, Y / 2, HX.out.gr hg2, HV2.out, HT.out.gr hg2, by rw [← HE.out]; exact HGC.out, hXA, Nat.le_trans (Nat.div_le_self _ _) hYB, .inl HO2.out, hg.step hg2⟩
                    case measure =>
                      rw [numOf_eq (HX.out.gr hg2), numOf_eq HV2.out, numOf_eq HX.out, numOf_eq HY.out]
                      have := H1.out
                      omega
                  · have dpy : ((y : Int) % 2 == 0) = false := by rw [beq_eq_false_iff_ne]; omega
                    have h1' : (0 : Int) < ((nd Y).length : Int) := by omega
                    have h0' : (0 : Int) < ((nd X).length : Int) := by omega
                    have HO1 : Hid (X % 2 = 1 ∧ Y % 2 = 1) := Lib.hid (by omega)
                    have H0 := Lib.hid h0
                    have H1 := Lib.hid h1
                    by_cases hle : Y ≤ X
                    · have HC1 : Hid (0 ≤ ncmp X Y) := Lib.hid (by rcases Nat.eq_or_lt_of_le hle with h | h; rw [h, ncmp_eq]; omega; rw [ncmp_gt h]; omega)
                      have HE := Lib.hid (gcd_less hle)
                      have HLE := Lib.hid hle
                      clear hpx hpy e0 e1 h0 h1 hle
                      go_wp2_with fail
                      refine (rcmp_nat _ _ _ HX.out HY.out (by omega) (by omega)).mono ?_
                      rintro e w2 ⟨rfl, hg2⟩
                      have d2 : decide (0 ≤ ncmp X Y) = true := by have := HC1.out; simpa using this
                      go_wp2_with fail
                      refine (less_any _ _ _ (HX.out.gr hg2) (HY.out.gr hg2) HLE.out (by omega)).mono ?_
                      rintro e w3 ⟨v3, rfl, hv3, hg3⟩
                      have HV3 := Lib.hid hv3
                      clear hv3
                      go_wp2_with fail
                      go_roundw
                      case rel => exact ⟨X - Y, Y, HV3.out, (HY.out.gr hg2).gr hg3, (HT.out.gr hg2).gr hg3, by rw [← HE.out]; exact HGC.out, Nat.le_trans (Nat.sub_le _ _) hXA, hYB, .inr HO1.out.2, (hg.step hg2).step hg3⟩
                      case measure =>
                        rw [numOf_eq HV3.out, numOf_eq ((HY.out.gr hg2).gr hg3), numOf_eq HX.out, numOf_eq HY.out]
                        have := H1.out
                        have := HLE.out
                        omega
                    · have HC1 : Hid (ncmp X Y = -1) := Lib.hid (ncmp_lt (by omega))
                      have HE := Lib.hid (gcd_less (X := Y) (Y := X) (by omega))
                      have HLE : Hid (X ≤ Y) := Lib.hid (by omega)
                      clear hpx hpy e0 e1 h0 h1 hle
                      go_wp2_with fail
                      refine (rcmp_nat _ _ _ HX.out HY.out (by omega) (by omega)).mono ?_
                      rintro e w2 ⟨rfl, hg2⟩
                      rw [HC1.out]
                      go_wp2_with fail
                      refine (less_any _ _ _ (HY.out.gr hg2) (HX.out.gr hg2) HLE.out (by omega)).mono ?_
                      rintro e w3 ⟨v3, rfl, hv3, hg3⟩
                      have HV3 := Lib.hid hv3
                      clear hv3
                      go_wp2_with fail
                      go_roundw
                      case rel => exact ⟨X, Y - X, (HX.out.gr hg2).gr hg3, HV3.out, (HT.out.gr hg2).gr hg3, by rw [Nat.gcd_comm X, ← HE.out, Nat.gcd_comm Y]; exact HGC.out, hXA, Nat.le_trans (Nat.sub_le _ _) hYB, .inl HO1.out.1, (hg.step hg2).step hg3⟩
                      case measure =>
                        rw [numOf_eq ((HX.out.gr hg2).gr hg3), numOf_eq HV3.out, numOf_eq HX.out, numOf_eq HY.out]
                        have := H0.out
                        have := HLE.out
                        omega
              · have dy : decide (0 < (nd Y).length) = false := by rw [show Y = 0 by omega, nd_zero]; rfl
                have hsum := gc_zero (X := X) (Y := Y) (.inr (by omega))
                have HRES : Hid (T * (X + Y) = A.gcd B) := Lib.hid (by rw [← hsum]; exact HGC.out)
                have lX := nd_le_len' lA hXA
                have lY := nd_le_len' lB hYB
                have lS : (nd (X + Y)).length ≤ 5001 := nd_add' lX (show (nd Y).length ≤ 5000 by omega)
                have lT2 : (nd T).length ≤ 10000 := by omega
                have HX := Lib.hid hx
                have HY := Lib.hid hy
                clear hsum hx hy
                go_wp2_with fail
                refine (plus_any _ _ _ HX.out HY.out (by omega) (by omega)).mono ?_
                rintro e w2 ⟨vs, rfl, hs, hg2⟩
                have HT2 := Lib.hid (ht.gr hg2)
                have hG := hg.step hg2
                go_wp2_with fail
                refine (times_any _ _ _ HT2.out hs lT2 (Nat.le_trans lS (by decide))).mono ?_
                rintro e w3 ⟨vp, rfl, hp, hg3⟩
                rw [HRES.out] at hp
                go_wp2_with fail
                go_ret
                exact ⟨vp, rfl, hp, hG.step hg3⟩
            · have dx : decide (0 < (nd X).length) = false := by rw [show X = 0 by omega, nd_zero]; rfl
              have hsum := gc_zero (X := X) (Y := Y) (.inl (by omega))
              have HRES : Hid (T * (X + Y) = A.gcd B) := Lib.hid (by rw [← hsum]; exact HGC.out)
              have lX := nd_le_len' lA hXA
              have lY := nd_le_len' lB hYB
              have lS : (nd (X + Y)).length ≤ 5001 := nd_add' lX (show (nd Y).length ≤ 5000 by omega)
              have lT2 : (nd T).length ≤ 10000 := by omega
              have HX := Lib.hid hx
              have HY := Lib.hid hy
              clear hsum hx hy
              go_wp2_with fail
              refine (plus_any _ _ _ HX.out HY.out (by omega) (by omega)).mono ?_
              rintro e w2 ⟨vs, rfl, hs, hg2⟩
              have HT2 := Lib.hid (ht.gr hg2)
              have hG := hg.step hg2
              go_wp2_with fail
              refine (times_any _ _ _ HT2.out hs lT2 (Nat.le_trans lS (by decide))).mono ?_
              rintro e w3 ⟨vp, rfl, hp, hg3⟩
              rw [HRES.out] at hp
              go_wp2_with fail
              go_ret
              exact ⟨vp, rfl, hp, hG.step hg3⟩
      · have dpx : ((x : Int) % 2 == 0) = false := by rw [beq_eq_false_iff_ne]; omega
        have HS : Hid (Num wr (.slice (some ⟨bx, ox, none⟩) (nd X).length cx) X ∧ Num wr (.slice (some ⟨by', oy, none⟩) (nd Y).length cy) Y ∧ Num wr (.slice at0 (nd T).length ct) T ∧ T * X.gcd Y = A.gcd B ∧ X ≤ A ∧ Y ≤ B ∧ (X % 2 = 1 ∨ Y % 2 = 1) ∧ Gr w wr) := Lib.hid ⟨HX2.out, HY2.out, HT.out, HGC.out, hXA, hYB, .inl (by omega), hg⟩
        clear hpx hpy e0
        go_wp2_with fail
        clear hg HX2 HY2 HT
        go_loopw [0, 1] (fun a b wr => GcTwo w A B T (.slice at0 (nd T).length ct) a b wr) (fun a b wr => numOf wr a + numOf wr b)
        case atStart => exact ⟨X, Y, HS.out⟩
        case round =>
          obtain ⟨X, Y, hx, hy, ht, hgc, hXA, hYB, hodd, hg⟩ := hrel
          have HGC := Lib.hid hgc
          have HOD := Lib.hid hodd
          clear hgc hodd
          obtain ⟨ax, cx, rfl⟩ := num_slc hx
          obtain ⟨ay, cy, rfl⟩ := num_slc hy
          by_cases h0 : 0 < X
          · have hxl : 0 < (nd X).length := by rw [nd_pos h0]; simp
            have dx : decide (0 < (nd X).length) = true := by simpa using hxl
            by_cases h1 : 0 < Y
            · have hyl : 0 < (nd Y).length := by rw [nd_pos h1]; simp
              have dy : decide (0 < (nd Y).length) = true := by simpa using hyl
              obtain ⟨bx, ox, x, rfl, hcx, hpx, hlx, -⟩ := num_head hx h0
              obtain ⟨by', oy, y, rfl, hcy, hpy, hly, -⟩ := num_head hy h1
              have HX := Lib.hid hx
              have HY := Lib.hid hy
              have HT := Lib.hid ht
              have lX := nd_le_len' lA hXA
              have lY := nd_le_len' lB hYB
              clear hx hy ht
              by_cases e0 : X % 2 = 0
              · have hOY : Y % 2 ≠ 0 := by have := HOD.out; omega
                have HE := Lib.hid (gcd_left e0 hOY)
                have HO2 : Hid (Y % 2 = 1) := Lib.hid (by omega)
                have dpx : ((x : Int) % 2 == 0) = true := by rw [beq_iff_eq]; omega
                have H0 := Lib.hid h0
                have h0' : (0 : Int) < ((nd X).length : Int) := by omega
                clear hpx hpy e0 hOY h0 h1
                go_wp2_with fail
                refine (half_any _ _ HX.out (by omega)).mono ?_
                rintro e w2 ⟨v2, rfl, hv2, hg2⟩
                have HV2 := Lib.hid hv2
                clear hv2
                go_wp2_with fail
                go_roundw
                case rel => exact ⟨X / 2, Y, HV2.out, HY.out.gr hg2, HT.out.gr hg2, by rw [← HE.out]; exact HGC.out, Nat.le_trans (Nat.div_le_self _ _) hXA, hYB, .inr HO2.out, hg.step hg2⟩
                case measure =>
                  rw [numOf_eq HV2.out, numOf_eq (HY.out.gr hg2), numOf_eq HX.out, numOf_eq HY.out]
                  have := H0.out
                  omega
              · have dpx : ((x : Int) % 2 == 0) = false := by rw [beq_eq_false_iff_ne]; omega
                by_cases e1 : Y % 2 = 0
                · have dpy : ((y : Int) % 2 == 0) = true := by rw [beq_iff_eq]; omega
                  have HE := Lib.hid (gcd_right e0 e1)
                  have HO2 : Hid (X % 2 = 1) := Lib.hid (by omega)
                  have H1 := Lib.hid h1
                  have h1' : (0 : Int) < ((nd Y).length : Int) := by omega
                  have h0' : (0 : Int) < ((nd X).length : Int) := by omega
                  clear hpx hpy e0 e1 h0 h1
                  go_wp2_with fail
                  refine (half_any _ _ HY.out (by omega)).mono ?_
                  rintro e w2 ⟨v2, rfl, hv2, hg2⟩
                  have HV2 := Lib.hid hv2
                  clear hv2
                  go_wp2_with fail
                  go_roundw
                  case rel => exact ⟨X, Y / 2, HX.out.gr hg2, HV2.out, HT.out.gr hg2, by rw [← HE.out]; exact HGC.out, hXA, Nat.le_trans (Nat.div_le_self _ _) hYB, .inl HO2.out, hg.step hg2⟩
                  case measure =>
                    rw [numOf_eq (HX.out.gr hg2), numOf_eq HV2.out, numOf_eq HX.out, numOf_eq HY.out]
                    have := H1.out
                    omega
                · have dpy : ((y : Int) % 2 == 0) = false := by rw [beq_eq_false_iff_ne]; omega
                  have h1' : (0 : Int) < ((nd Y).length : Int) := by omega
                  have h0' : (0 : Int) < ((nd X).length : Int) := by omega
                  have HO1 : Hid (X % 2 = 1 ∧ Y % 2 = 1) := Lib.hid (by omega)
                  have H0 := Lib.hid h0
                  have H1 := Lib.hid h1
                  by_cases hle : Y ≤ X
                  · have HC1 : Hid (0 ≤ ncmp X Y) := Lib.hid (by rcases Nat.eq_or_lt_of_le hle with h | h; rw [h, ncmp_eq]; omega; rw [ncmp_gt h]; omega)
                    have HE := Lib.hid (gcd_less hle)
                    have HLE := Lib.hid hle
                    clear hpx hpy e0 e1 h0 h1 hle
                    go_wp2_with fail
                    refine (rcmp_nat _ _ _ HX.out HY.out (by omega) (by omega)).mono ?_
                    rintro e w2 ⟨rfl, hg2⟩
                    have d2 : decide (0 ≤ ncmp X Y) = true := by have := HC1.out; simpa using this
                    go_wp2_with fail
                    refine (less_any _ _ _ (HX.out.gr hg2) (HY.out.gr hg2) HLE.out (by omega)).mono ?_
                    rintro e w3 ⟨v3, rfl, hv3, hg3⟩
                    have HV3 := Lib.hid hv3
                    clear hv3
                    go_wp2_with fail
                    go_roundw
                    case rel => exact ⟨X - Y, Y, HV3.out, (HY.out.gr hg2).gr hg3, (HT.out.gr hg2).gr hg3, by rw [← HE.out]; exact HGC.out, Nat.le_trans (Nat.sub_le _ _) hXA, hYB, .inr HO1.out.2, (hg.step hg2).step hg3⟩
                    case measure =>
                      rw [numOf_eq HV3.out, numOf_eq ((HY.out.gr hg2).gr hg3), numOf_eq HX.out, numOf_eq HY.out]
                      have := H1.out
                      have := HLE.out
                      omega
                  · have HC1 : Hid (ncmp X Y = -1) := Lib.hid (ncmp_lt (by omega))
                    have HE := Lib.hid (gcd_less (X := Y) (Y := X) (by omega))
                    have HLE : Hid (X ≤ Y) := Lib.hid (by omega)
                    clear hpx hpy e0 e1 h0 h1 hle
                    go_wp2_with fail
                    refine (rcmp_nat _ _ _ HX.out HY.out (by omega) (by omega)).mono ?_
                    rintro e w2 ⟨rfl, hg2⟩
                    rw [HC1.out]
                    go_wp2_with fail
                    refine (less_any _ _ _ (HY.out.gr hg2) (HX.out.gr hg2) HLE.out (by omega)).mono ?_
                    rintro e w3 ⟨v3, rfl, hv3, hg3⟩
                    have HV3 := Lib.hid hv3
                    clear hv3
                    go_wp2_with fail
                    go_roundw
                    case rel => exact ⟨X, Y - X, (HX.out.gr hg2).gr hg3, HV3.out, (HT.out.gr hg2).gr hg3, by rw [Nat.gcd_comm X, ← HE.out, Nat.gcd_comm Y]; exact HGC.out, hXA, Nat.le_trans (Nat.sub_le _ _) hYB, .inl HO1.out.1, (hg.step hg2).step hg3⟩
                    case measure =>
                      rw [numOf_eq ((HX.out.gr hg2).gr hg3), numOf_eq HV3.out, numOf_eq HX.out, numOf_eq HY.out]
                      have := H0.out
                      have := HLE.out
                      omega
            · have dy : decide (0 < (nd Y).length) = false := by rw [show Y = 0 by omega, nd_zero]; rfl
              have hsum := gc_zero (X := X) (Y := Y) (.inr (by omega))
              have HRES : Hid (T * (X + Y) = A.gcd B) := Lib.hid (by rw [← hsum]; exact HGC.out)
              have lX := nd_le_len' lA hXA
              have lY := nd_le_len' lB hYB
              have lS : (nd (X + Y)).length ≤ 5001 := nd_add' lX (show (nd Y).length ≤ 5000 by omega)
              have lT2 : (nd T).length ≤ 10000 := by omega
              have HX := Lib.hid hx
              have HY := Lib.hid hy
              clear hsum hx hy
              go_wp2_with fail
              refine (plus_any _ _ _ HX.out HY.out (by omega) (by omega)).mono ?_
              rintro e w2 ⟨vs, rfl, hs, hg2⟩
              have HT2 := Lib.hid (ht.gr hg2)
              have hG := hg.step hg2
              go_wp2_with fail
              refine (times_any _ _ _ HT2.out hs lT2 (Nat.le_trans lS (by decide))).mono ?_
              rintro e w3 ⟨vp, rfl, hp, hg3⟩
              rw [HRES.out] at hp
              go_wp2_with fail
              go_ret
              exact ⟨vp, rfl, hp, hG.step hg3⟩
          · have dx : decide (0 < (nd X).length) = false := by rw [show X = 0 by omega, nd_zero]; rfl
            have hsum := gc_zero (X := X) (Y := Y) (.inl (by omega))
            have HRES : Hid (T * (X + Y) = A.gcd B) := Lib.hid (by rw [← hsum]; exact HGC.out)
            have lX := nd_le_len' lA hXA
            have lY := nd_le_len' lB hYB
            have lS : (nd (X + Y)).length ≤ 5001 := nd_add' lX (show (nd Y).length ≤ 5000 by omega)
            have lT2 : (nd T).length ≤ 10000 := by omega
            have HX := Lib.hid hx
            have HY := Lib.hid hy
            clear hsum hx hy
            go_wp2_with fail
            refine (plus_any _ _ _ HX.out HY.out (by omega) (by omega)).mono ?_
            rintro e w2 ⟨vs, rfl, hs, hg2⟩
            have HT2 := Lib.hid (ht.gr hg2)
            have hG := hg.step hg2
            go_wp2_with fail
            refine (times_any _ _ _ HT2.out hs lT2 (Nat.le_trans lS (by decide))).mono ?_
            rintro e w3 ⟨vp, rfl, hp, hg3⟩
            rw [HRES.out] at hp
            go_wp2_with fail
            go_ret
            exact ⟨vp, rfl, hp, hG.step hg3⟩
end Go.Proofs.YtjpjnbgfodlkcaaGreatDoor
