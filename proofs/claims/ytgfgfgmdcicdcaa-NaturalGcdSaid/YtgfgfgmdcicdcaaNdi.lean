/- The walk of the statement on quotients. -/
import Derived.Test.YtgfgfgmdcicdcaaNde
import Derived.Test.YtgfgfgmdcicdcaaNring
import Derived.WalkKit
import Derived.WalkSpells
import Derived.WalkLawsBesides
import Derived.WalkSmall
import Derived.Handy
import Derived.BigQuiet
import Derived.Deep.QuietTactic
import Derived.Deep.RegionHeld3
import Derived.Deep.DeepFit
import Derived.Below
import Derived.Lib.Hide
import Derived.Lib.QuietBelow
namespace Go.Proofs.Ytgfgfgmdcicdcaa
open Go Go.RowKit Go.Sort
set_option maxRecDepth 100000
theorem nd_le_len {A B k : Nat} (hA : (nd A).length ≤ k) (h : B ≤ A) : (nd B).length ≤ k := Nat.le_trans (nd_mono h) hA
set_option maxHeartbeats 4000000 in
theorem divides_walk (sv : Value) (len : Nat) (w : World) (hl : len ≤ 9223372036854775807) (hb : BytesV w.heap.size w sv len) :
    Calls Try.prog 4 #[sv] w fun e w' => e = .returned (.bool true) ∧ Gr w w' := by
  go_enter Try.func4, Try.ntmps4
  go_wp2_with (go_at_call 8; refine (awake_any _).mono ?_; rintro e w1 ⟨rfl, hg1⟩)
  refine (new_any sv len 200 _ (by omega) hl (hb.gr hg1)).mono ?_
  rintro e w2 ⟨b, rfl, hbe, hc2, hg2⟩
  have hbw : w.heap.size ≤ b := by have := Gr.size hg1; omega
  have hG2 : Gr w w2 := (by repeat' (first | (with_reducible exact Gr.refl _) | (with_reducible assumption) | (with_reducible refine Gr.drewN ?_ _) | (with_reducible refine Gr.drew ?_) | (with_reducible refine Gr.alloc ?_ _) | (with_reducible refine Gr.setCell ?_ ?_ _) | (with_reducible refine Gr.grow ?_ _ _) | (refine Gr.step ?_ (by with_reducible assumption)) | go_size))
  clear hbe hg1 hg2 hb
  go_wp2_with fail
  refine (nat_any b 12 _ hc2 (Gr.size hG2) (by omega)).mono ?_
  rintro e w3 ⟨vx, X, rfl, hx3, lx, hc3, he3⟩
  have hG3 : Gr w w3 := Ex.gr hG2 hbw he3
  go_wp2_with fail
  refine (nat_any b 7 _ hc3 (Gr.size hG3) (by omega)).mono ?_
  rintro e w4 ⟨vy, Y, rfl, hy4, ly, hc4, he4⟩
  have hG : Gr w w4 := Ex.gr hG3 hbw he4
  have hN : Nums w4 [(vy, Y), (vx, X)] := ((Nums.nil _).cons (hx3.ex he4).any).cons hy4.any
  clear hG2 hG3 he3 he4 hc2 hc3 hc4 hx3 hy4
  by_cases hY : Y = 0
  · subst hY
    have hv := hN.get vy 0 (by simp)
    have hz := hv
    unfold Num at hz
    rw [nd_zero] at hz
    obtain ⟨ay, ycap, rfl, -, -, -⟩ := hz
    go_wp2_with fail
    refine (divmod_zero vx _ _ (hN.get vx X (by simp)) hv (by omega)).mono ?_
    rintro e w' ⟨rfl, rfl⟩
    go_wp2_with fail
    go_ret
    exact ⟨rfl, hG⟩
  · have hY0 : 0 < Y := by omega
    have lq := nd_le_len lx (Nat.div_le_self X Y)
    have lr := nd_le_len ly (Nat.le_of_lt (Nat.mod_lt X hY0))
    have lm := nd_le_len (B := X / Y * Y) lx (Nat.div_mul_le_self X Y)
    have HLT : Hid (X % Y < Y) := Lib.hid (Nat.mod_lt X hY0)
    have hEQ : Hid (X / Y * Y + X % Y = X) := Lib.hid (by rw [Nat.mul_comm]; exact Nat.div_add_mod X Y)
    have hv := hN.get vy Y (by simp)
    have HV := Lib.hid hv
    obtain ⟨ay, ycap, rfl, -, -, -⟩ := hv
    have hyl : 0 < (nd Y).length := by rw [nd_pos hY0]; simp
    have d0 : (((nd Y).length : Int) == 0) = false := by rw [beq_eq_false_iff_ne]; omega
    go_wp2_with fail
    refine (divmod_any vx _ _ (hN.get vx X (by simp)) HV.out hY0 (by omega) (by omega)).mono ?_
    rintro e ws ⟨vq, vr, rfl, hq, hr, hg⟩
    have hN := ((hN.gr hg).cons hq).cons hr
    have hG := hG.step hg
    clear hq hr hg hY hY0
    have lvy : (.slice ay (nd Y).length ycap, Y) ∈ [(vr, X % Y), (vq, X / Y), (.slice ay (nd Y).length ycap, Y), (vx, X)] := by simp
    go_wp2_with fail
    refine (mul_ok (A := X / Y) (B := Y) vq (.slice ay (nd Y).length ycap) _ (hN.get _ _ (by simp)) (hN.get _ _ lvy) (by omega) (by omega)).mono ?_
    rintro e ws ⟨vp, rfl, hn, hg⟩
    have hN := (hN.gr hg).cons hn
    have hG := hG.step hg
    clear hn hg
    go_wp2_with fail
    refine (add_ok (A := X / Y * Y) (B := X % Y) vp vr _ (hN.get _ _ (by simp)) (hN.get _ _ (by simp)) (by omega) (by omega)).mono ?_
    rintro e ws ⟨vs, rfl, hn, hg⟩
    have hN := (hN.gr hg).cons hn
    have hG := hG.step hg
    clear hn hg
    go_wp2_with fail
    refine (num_same (A := X / Y * Y + X % Y) (B := X) vs vx _ (hN.get _ _ (by simp)) (hN.get _ _ (by simp)) hEQ.out (by rw [hEQ.out]; omega)).mono ?_
    rintro e ws ⟨rfl, hg⟩
    have hN := hN.gr hg
    have hG := hG.step hg
    clear hg
    go_wp2_with fail
    refine (cmp_any (A := X % Y) (B := Y) vr (.slice ay (nd Y).length ycap) _ (hN.get _ _ (by simp)) (hN.get _ _ (by simp)) (by omega)).mono ?_
    rintro e ws ⟨rfl, hg⟩
    rw [ncmp_lt HLT.out]
    go_wp2_with fail
    go_ret
    exact ⟨rfl, hG.step hg⟩
end Go.Proofs.Ytgfgfgmdcicdcaa
