/- The walk of the statement on greatest common divisors. -/
import Derived.Test.YtgfgfgmdcicdcaaNgc
import Derived.Test.YtgfgfgmdcicdcaaNwo
import Derived.Test.YtgfgfgmdcicdcaaNdi
import Derived.WalkKit
import Derived.WalkSpells
import Derived.WalkLawsBesides
import Derived.WalkSmall
import Derived.Handy
import Derived.BigQuiet
import Derived.Deep.QuietTactic
import Derived.Deep.RegionHeld3
import Derived.Deep.DeepFit
import Derived.Below
import Derived.Lib.Hide
import Derived.Lib.QuietBelow
namespace Go.Proofs.Ytgfgfgmdcicdcaa
open Go Go.RowKit Go.Sort
set_option maxRecDepth 100000
theorem gcd_len {X Y k : Nat} (hX : (nd X).length ≤ k) (hY : (nd Y).length ≤ k) : (nd (X.gcd Y)).length ≤ k := by
  rcases Nat.eq_zero_or_pos X with rfl | h
  · rw [Nat.gcd_zero_left]; exact hY
  · exact nd_le_len hX (Nat.gcd_le_left Y h)
theorem nums_nil {w : World} {v : Value} (h : Num w v 0) : ∃ (a : Option Addr) (c : Nat), v = .slice a 0 c := by
  obtain ⟨a, c, e⟩ := num_len h
  rw [nd_zero] at e
  exact ⟨a, c, e⟩
set_option maxHeartbeats 4000000 in
theorem gcd_walk (sv : Value) (len k : Nat) (w : World) (hl : len ≤ 9223372036854775807) (hb : BytesV w.heap.size w sv len) (hk : k < 256) :
    Calls Try.prog 5 #[sv, .int .u8 (k : Nat)] w fun e w' => e = .returned (.bool true) ∧ Gr w w' := by
  have k1 : (k : Int) < 256 := by omega
  go_enter Try.func5, Try.ntmps5
  go_wp2_with (go_at_call 8; refine (awake_any _).mono ?_; rintro e w1 ⟨rfl, hg1⟩)
  refine (new_any sv len 200 _ (by omega) hl (hb.gr hg1)).mono ?_
  rintro e w2 ⟨b, rfl, hbe, hc2, hg2⟩
  have hbw : w.heap.size ≤ b := by have := Gr.size hg1; omega
  have hG2 : Gr w w2 := (by repeat' (first | (with_reducible exact Gr.refl _) | (with_reducible assumption) | (with_reducible refine Gr.drewN ?_ _) | (with_reducible refine Gr.drew ?_) | (with_reducible refine Gr.alloc ?_ _) | (with_reducible refine Gr.setCell ?_ ?_ _) | (with_reducible refine Gr.grow ?_ _ _) | (refine Gr.step ?_ (by with_reducible assumption)) | go_size))
  clear hbe hg1 hg2 hb
  go_wp2_with fail
  refine (nat_any b 5 _ hc2 (Gr.size hG2) (by omega)).mono ?_
  rintro e w3 ⟨vx, X, rfl, hx3, lx, hc3, he3⟩
  have hG3 : Gr w w3 := Ex.gr hG2 hbw he3
  go_wp2_with fail
  refine (nat_any b 5 _ hc3 (Gr.size hG3) (by omega)).mono ?_
  rintro e w4 ⟨vy, Y, rfl, hy4, ly, hc4, he4⟩
  have hG : Gr w w4 := Ex.gr hG3 hbw he4
  have hN : Nums w4 [(vy, Y), (vx, X)] := ((Nums.nil _).cons (hx3.ex he4).any).cons hy4.any
  clear hG2 hG3 he3 he4 hc2 hc3 hc4 hx3 hy4
  go_wp2_with fail
  refine (gcd_any vx vy _ (hN.get vx X (by simp)) (hN.get vy Y (by simp)) (by omega) (by omega)).mono ?_
  rintro e ws ⟨vg, rfl, hn, hg⟩
  have hN := (hN.gr hg).cons hn
  have hG := hG.step hg
  clear hn hg
  have lg := gcd_len lx ly
  by_cases h0 : X = 0 ∧ Y = 0
  · obtain ⟨rfl, rfl⟩ := h0
    obtain ⟨ax, xc, rfl⟩ := nums_nil (hN.get vx 0 (by simp))
    obtain ⟨ay, yc, rfl⟩ := nums_nil (hN.get vy 0 (by simp))
    obtain ⟨ag, gc, rfl⟩ := nums_nil (hN.get vg 0 (by simp))
    go_wp2_with fail
    go_ret
    exact ⟨rfl, hG⟩
  · have hg0 : 0 < X.gcd Y := Nat.gcd_pos_iff.2 (by omega)
    obtain ⟨G, hGG⟩ : ∃ G, G = X.gcd Y := ⟨_, rfl⟩
    rw [← hGG] at hg0 lg hN
    have hxg : X % G = 0 := Nat.mod_eq_zero_of_dvd (hGG ▸ Nat.gcd_dvd_left X Y)
    have hyg : Y % G = 0 := Nat.mod_eq_zero_of_dvd (hGG ▸ Nat.gcd_dvd_right X Y)
    have H0 : Hid (¬ (X = 0 ∧ Y = 0)) := Lib.hid h0
    have E1 : Hid ((X * (k + 1)).gcd (Y * (k + 1)) = G * (k + 1)) := Lib.hid (by rw [Nat.gcd_mul_right, hGG])
    have E2 : Hid (Y.gcd X = G) := Lib.hid (by rw [Nat.gcd_comm, hGG])
    have HXG := Lib.hid hxg
    have HYG := Lib.hid hyg
    have H00 := Lib.hid hg0
    have lm : (nd (k + 1)).length ≤ 1 := (nd_len _ _).2 (by omega)
    have l1 := nd_mul_len lx lm
    have l2 := nd_mul_len ly lm
    have l3 := nd_mul_len lg lm
    clear h0 hxg hyg hg0 hGG
    obtain ⟨ax, xc, rfl⟩ := num_len (hN.get vx X (by simp))
    obtain ⟨ay, yc, rfl⟩ := num_len (hN.get vy Y (by simp))
    by_cases hX : X = 0
    · have dX : (((nd X).length : Int) == 0) = true := by rw [hX, nd_zero]; rfl
      have dY : (((nd Y).length : Int) == 0) = false := by
        rw [beq_eq_false_iff_ne, nd_pos (show 0 < Y by have := H0.out; omega), List.length_cons]; omega
      clear hX
      go_wp2_with fail
      refine (divmod_any (A := X) (B := G) _ vg _ (hN.get _ _ (by simp)) (hN.get _ _ (by simp)) H00.out (by omega) (by omega)).mono ?_
      rintro e ws ⟨vq, vr, rfl, -, hn, hg⟩
      rw [HXG.out] at hn
      obtain ⟨ar, rc, rfl⟩ := nums_nil hn
      have hN := (hN.gr hg).cons hn
      have hG := hG.step hg
      clear hn hg
      go_wp2_with fail
      refine (divmod_any (A := Y) (B := G) _ vg _ (hN.get _ _ (by simp)) (hN.get _ _ (by simp)) H00.out (by omega) (by omega)).mono ?_
      rintro e ws ⟨vq2, vr2, rfl, -, hn, hg⟩
      rw [HYG.out] at hn
      obtain ⟨ar2, rc2, rfl⟩ := nums_nil hn
      have hN := (hN.gr hg).cons hn
      have hG := hG.step hg
      clear hn hg
      go_wp2_with fail
      refine (word_int _ (k + 1) _ (by omega) (by omega)).mono ?_
      rintro e ws ⟨vm, rfl, hn, hg⟩
      have hN := (hN.gr hg).cons hn
      have hG := hG.step hg
      clear hn hg
      go_wp2_with fail
      refine (mul_ok (A := X) (B := k + 1) _ vm _ (hN.get _ _ (by simp)) (hN.get _ _ (by simp)) (by omega) (by omega)).mono ?_
      rintro e ws ⟨vxm, rfl, hn, hg⟩
      have hN := (hN.gr hg).cons hn
      have hG := hG.step hg
      clear hn hg
      go_wp2_with fail
      refine (mul_ok (A := Y) (B := k + 1) _ vm _ (hN.get _ _ (by simp)) (hN.get _ _ (by simp)) (by omega) (by omega)).mono ?_
      rintro e ws ⟨vym, rfl, hn, hg⟩
      have hN := (hN.gr hg).cons hn
      have hG := hG.step hg
      clear hn hg
      go_wp2_with fail
      refine (mul_ok (A := G) (B := k + 1) vg vm _ (hN.get _ _ (by simp)) (hN.get _ _ (by simp)) (by omega) (by omega)).mono ?_
      rintro e ws ⟨vgm, rfl, hn, hg⟩
      have hN := (hN.gr hg).cons hn
      have hG := hG.step hg
      clear hn hg
      go_wp2_with fail
      refine (gcd_any (A := X * (k + 1)) (B := Y * (k + 1)) vxm vym _ (hN.get _ _ (by simp)) (hN.get _ _ (by simp)) (by omega) (by omega)).mono ?_
      rintro e ws ⟨vh, rfl, hn, hg⟩
      have hN := (hN.gr hg).cons hn
      have hG := hG.step hg
      clear hn hg
      go_wp2_with fail
      refine (num_same (A := (X * (k + 1)).gcd (Y * (k + 1))) (B := G * (k + 1)) vh vgm _ (hN.get _ _ (by simp)) (hN.get _ _ (by simp)) E1.out (by rw [E1.out]; omega)).mono ?_
      rintro e ws ⟨rfl, hg⟩
      have hN := hN.gr hg
      have hG := hG.step hg
      clear hg
      go_wp2_with fail
      refine (gcd_any (A := Y) (B := X) _ _ _ (hN.get _ _ (by simp)) (hN.get _ _ (by simp)) (by omega) (by omega)).mono ?_
      rintro e ws ⟨vi, rfl, hn, hg⟩
      have hN := (hN.gr hg).cons hn
      have hG := hG.step hg
      clear hn hg
      go_wp2_with fail
      refine (num_same (A := Y.gcd X) (B := G) vi vg _ (hN.get _ _ (by simp)) (hN.get _ _ (by simp)) E2.out (by rw [E2.out]; omega)).mono ?_
      rintro e ws ⟨rfl, hg⟩
      go_wp2_with fail
      go_ret
      exact ⟨rfl, hG.step hg⟩
    · have dX : (((nd X).length : Int) == 0) = false := by
        rw [beq_eq_false_iff_ne, nd_pos (show 0 < X by omega), List.length_cons]; omega
      clear hX
      go_wp2_with fail
      refine (divmod_any (A := X) (B := G) _ vg _ (hN.get _ _ (by simp)) (hN.get _ _ (by simp)) H00.out (by omega) (by omega)).mono ?_
      rintro e ws ⟨vq, vr, rfl, -, hn, hg⟩
      rw [HXG.out] at hn
      obtain ⟨ar, rc, rfl⟩ := nums_nil hn
      have hN := (hN.gr hg).cons hn
      have hG := hG.step hg
      clear hn hg
      go_wp2_with fail
      refine (divmod_any (A := Y) (B := G) _ vg _ (hN.get _ _ (by simp)) (hN.get _ _ (by simp)) H00.out (by omega) (by omega)).mono ?_
      rintro e ws ⟨vq2, vr2, rfl, -, hn, hg⟩
      rw [HYG.out] at hn
      obtain ⟨ar2, rc2, rfl⟩ := nums_nil hn
      have hN := (hN.gr hg).cons hn
      have hG := hG.step hg
      clear hn hg
      go_wp2_with fail
      refine (word_int _ (k + 1) _ (by omega) (by omega)).mono ?_
      rintro e ws ⟨vm, rfl, hn, hg⟩
      have hN := (hN.gr hg).cons hn
      have hG := hG.step hg
      clear hn hg
      go_wp2_with fail
      refine (mul_ok (A := X) (B := k + 1) _ vm _ (hN.get _ _ (by simp)) (hN.get _ _ (by simp)) (by omega) (by omega)).mono ?_
      rintro e ws ⟨vxm, rfl, hn, hg⟩
      have hN := (hN.gr hg).cons hn
      have hG := hG.step hg
      clear hn hg
      go_wp2_with fail
      refine (mul_ok (A := Y) (B := k + 1) _ vm _ (hN.get _ _ (by simp)) (hN.get _ _ (by simp)) (by omega) (by omega)).mono ?_
      rintro e ws ⟨vym, rfl, hn, hg⟩
      have hN := (hN.gr hg).cons hn
      have hG := hG.step hg
      clear hn hg
      go_wp2_with fail
      refine (mul_ok (A := G) (B := k + 1) vg vm _ (hN.get _ _ (by simp)) (hN.get _ _ (by simp)) (by omega) (by omega)).mono ?_
      rintro e ws ⟨vgm, rfl, hn, hg⟩
      have hN := (hN.gr hg).cons hn
      have hG := hG.step hg
      clear hn hg
      go_wp2_with fail
      refine (gcd_any (A := X * (k + 1)) (B := Y * (k + 1)) vxm vym _ (hN.get _ _ (by simp)) (hN.get _ _ (by simp)) (by omega) (by omega)).mono ?_
      rintro e ws ⟨vh, rfl, hn, hg⟩
      have hN := (hN.gr hg).cons hn
      have hG := hG.step hg
      clear hn hg
      go_wp2_with fail
      refine (num_same (A := (X * (k + 1)).gcd (Y * (k + 1))) (B := G * (k + 1)) vh vgm _ (hN.get _ _ (by simp)) (hN.get _ _ (by simp)) E1.out (by rw [E1.out]; omega)).mono ?_
      rintro e ws ⟨rfl, hg⟩
      have hN := hN.gr hg
      have hG := hG.step hg
      clear hg
      go_wp2_with fail
      refine (gcd_any (A := Y) (B := X) _ _ _ (hN.get _ _ (by simp)) (hN.get _ _ (by simp)) (by omega) (by omega)).mono ?_
      rintro e ws ⟨vi, rfl, hn, hg⟩
      have hN := (hN.gr hg).cons hn
      have hG := hG.step hg
      clear hn hg
      go_wp2_with fail
      refine (num_same (A := Y.gcd X) (B := G) vi vg _ (hN.get _ _ (by simp)) (hN.get _ _ (by simp)) E2.out (by rw [E2.out]; omega)).mono ?_
      rintro e ws ⟨rfl, hg⟩
      go_wp2_with fail
      go_ret
      exact ⟨rfl, hG.step hg⟩
end Go.Proofs.Ytgfgfgmdcicdcaa
