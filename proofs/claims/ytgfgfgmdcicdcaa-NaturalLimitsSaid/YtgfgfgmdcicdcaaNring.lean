/- The walk of the statement on sums and products. -/
import Derived.Test.YtgfgfgmdcicdcaaNdr
import Derived.WalkKit
import Derived.WalkSpells
import Derived.WalkLawsBesides
import Derived.WalkSmall
import Derived.Handy
import Derived.BigQuiet
import Derived.Deep.QuietTactic
import Derived.Deep.RegionHeld3
import Derived.Deep.DeepFit
import Derived.Below
import Derived.Lib.Hide
import Derived.Lib.QuietBelow
namespace Go.Proofs.Ytgfgfgmdcicdcaa
open Go Go.RowKit Go.Sort
set_option maxRecDepth 100000

/-- numbers that can be read -/
def Nums (w : World) (l : List (Value × Nat)) : Prop := ∀ p ∈ l, Num w p.1 p.2
theorem Nums.nil (w : World) : Nums w [] := fun _ h => by cases h
theorem Nums.gr {w w' : World} {l : List (Value × Nat)} (h : Nums w l) (g : Gr w w') : Nums w' l := fun p hp => (h p hp).gr g
theorem Nums.cons {w : World} {l : List (Value × Nat)} (h : Nums w l) {v : Value} {N : Nat} (hv : Num w v N) : Nums w ((v, N) :: l) := fun p hp => by
  rcases List.mem_cons.1 hp with rfl | hp
  · exact hv
  · exact h p hp
theorem Nums.get {w : World} {l : List (Value × Nat)} (h : Nums w l) (v : Value) (N : Nat) (hm : (v, N) ∈ l) : Num w v N := h _ hm
theorem nd_add_len {A B k : Nat} (hA : (nd A).length ≤ k) (hB : (nd B).length ≤ k) : (nd (A + B)).length ≤ k + 1 := by
  rw [nd_len] at *; rw [bp_succ]; omega
theorem nd_mul_len {A B j k : Nat} (hA : (nd A).length ≤ j) (hB : (nd B).length ≤ k) : (nd (A * B)).length ≤ j + k := by
  rw [nd_len] at *
  rw [Nat.pow_add]
  exact Nat.mul_lt_mul_of_lt_of_le hA (Nat.le_of_lt hB) (bp_pos k)
/-- a number without an error -/
def Ok2 (w : World) (N : Nat) (e : Ending) (w' : World) : Prop := ∃ v, e = .returned (.tuple #[v, .int .i64 0]) ∧ Num w' v N ∧ Gr w w'
theorem Res.ok {w w' : World} {N : Nat} {e : Ending} (h : Res w N e w') (hN : (nd N).length ≤ 256) : Ok2 w N e w' := by
  obtain ⟨v, er, rfl, ⟨-, rfl, hn⟩ | ⟨hf, -⟩, hg⟩ := h
  · exact ⟨v, rfl, hn, hg⟩
  · omega
theorem add_ok {A B : Nat} (va vb : Value) (w : World) (hA : Num w va A) (hB : Num w vb B) (lA : (nd A).length ≤ 100) (lB : (nd B).length ≤ 100) : Calls Try.prog 11 #[va, vb] w (Ok2 w (A + B)) :=
  (add_any va vb w hA hB (by omega) (by omega)).mono fun _ _ h => h.ok (by have := nd_add_len lA lB; omega)
theorem mul_ok {A B : Nat} (va vb : Value) (w : World) (hA : Num w va A) (hB : Num w vb B) (lA : (nd A).length ≤ 100) (lB : (nd B).length ≤ 100) : Calls Try.prog 12 #[va, vb] w (Ok2 w (A * B)) :=
  (mul_any va vb w hA hB (by omega) (by omega)).mono fun _ _ h => h.ok (by have := nd_mul_len lA lB; omega)
theorem sub_ok {A B : Nat} (va vb : Value) (w : World) (hA : Num w va A) (hB : Num w vb B) (hBA : B ≤ A) (lA : (nd A).length ≤ 100) (lB : (nd B).length ≤ 100) : Calls Try.prog 13 #[va, vb] w (Ok2 w (A - B)) :=
  (sub_any va vb w hA hB (by omega) (by omega)).mono fun _ _ h => by
    obtain ⟨v, er, rfl, ⟨-, rfl, hn⟩ | ⟨hf, -⟩, hg⟩ := h
    · exact ⟨v, rfl, hn, hg⟩
    · omega
set_option maxHeartbeats 4000000 in
theorem ring_walk (sv : Value) (len : Nat) (w : World) (hl : len ≤ 9223372036854775807) (hb : BytesV w.heap.size w sv len) :
    Calls Try.prog 3 #[sv] w fun e w' => e = .returned (.bool true) ∧ Gr w w' := by
  go_enter Try.func3, Try.ntmps3
  go_wp2_with (go_at_call 8; refine (awake_any _).mono ?_; rintro e w1 ⟨rfl, hg1⟩)
  refine (new_any sv len 200 _ (by omega) hl (hb.gr hg1)).mono ?_
  rintro e w2 ⟨b, rfl, hbe, hc2, hg2⟩
  have hbw : w.heap.size ≤ b := by have := Gr.size hg1; omega
  have hG2 : Gr w w2 := (by repeat' (first | (with_reducible exact Gr.refl _) | (with_reducible assumption) | (with_reducible refine Gr.drewN ?_ _) | (with_reducible refine Gr.drew ?_) | (with_reducible refine Gr.alloc ?_ _) | (with_reducible refine Gr.setCell ?_ ?_ _) | (with_reducible refine Gr.grow ?_ _ _) | (refine Gr.step ?_ (by with_reducible assumption)) | go_size))
  clear hbe hg1 hg2 hb
  go_wp2_with fail
  refine (nat_any b 8 _ hc2 (Gr.size hG2) (by omega)).mono ?_
  rintro e w3 ⟨vx, X, rfl, hx3, lx, hc3, he3⟩
  have hG3 : Gr w w3 := Ex.gr hG2 hbw he3
  go_wp2_with fail
  refine (nat_any b 8 _ hc3 (Gr.size hG3) (by omega)).mono ?_
  rintro e w4 ⟨vy, Y, rfl, hy4, ly, hc4, he4⟩
  have hG4 : Gr w w4 := Ex.gr hG3 hbw he4
  have hx4 := hx3.ex he4
  go_wp2_with fail
  refine (nat_any b 8 _ hc4 (Gr.size hG4) (by omega)).mono ?_
  rintro e w5 ⟨vz, Z, rfl, hz5, lz, hc5, he5⟩
  have hG : Gr w w5 := Ex.gr hG4 hbw he5
  have hN : Nums w5 [(vx, X), (vy, Y), (vz, Z)] := (((Nums.nil _).cons hz5.any).cons (hy4.ex he5).any).cons (hx4.ex he5).any
  clear hG2 hG3 hG4 he3 he4 he5 hc2 hc3 hc4 hc5 hx3 hx4 hy4 hz5
  have l1 := nd_add_len lx ly
  have l2 := nd_add_len ly lx
  have l3 := nd_add_len ly lz
  have l4 := nd_mul_len lx ly
  have l5 := nd_mul_len lx lz
  have l6 := nd_mul_len ly lx
  have l7 := nd_add_len (A := X + Y) (B := Z) (k := 9) l1 (by omega)
  have l8 := nd_add_len (A := X) (B := Y + Z) (k := 9) (by omega) l3
  have l9 := nd_mul_len lx l3
  have l10 := nd_add_len l4 l5
  have l11 : (nd (X + Y - Y)).length ≤ 8 := by rw [Nat.add_sub_cancel]; exact lx
  go_wp2_with fail
  refine (add_ok vx vy _ (hN.get vx (X) (by simp)) (hN.get vy (Y) (by simp)) (by omega) (by omega)).mono ?_
  rintro e ws ⟨va, rfl, hn, hg⟩
  have hN := (hN.gr hg).cons hn
  have hG := hG.step hg
  clear hn hg
  go_wp2_with fail
  refine (add_ok vy vx _ (hN.get vy (Y) (by simp)) (hN.get vx (X) (by simp)) (by omega) (by omega)).mono ?_
  rintro e ws ⟨vb, rfl, hn, hg⟩
  have hN := (hN.gr hg).cons hn
  have hG := hG.step hg
  clear hn hg
  go_wp2_with fail
  refine (add_ok va vz _ (hN.get va (X + Y) (by simp)) (hN.get vz (Z) (by simp)) (by omega) (by omega)).mono ?_
  rintro e ws ⟨vl, rfl, hn, hg⟩
  have hN := (hN.gr hg).cons hn
  have hG := hG.step hg
  clear hn hg
  go_wp2_with fail
  refine (add_ok vy vz _ (hN.get vy (Y) (by simp)) (hN.get vz (Z) (by simp)) (by omega) (by omega)).mono ?_
  rintro e ws ⟨vyz, rfl, hn, hg⟩
  have hN := (hN.gr hg).cons hn
  have hG := hG.step hg
  clear hn hg
  go_wp2_with fail
  refine (add_ok vx vyz _ (hN.get vx (X) (by simp)) (hN.get vyz (Y + Z) (by simp)) (by omega) (by omega)).mono ?_
  rintro e ws ⟨vr, rfl, hn, hg⟩
  have hN := (hN.gr hg).cons hn
  have hG := hG.step hg
  clear hn hg
  go_wp2_with fail
  refine (mul_ok vx vyz _ (hN.get vx (X) (by simp)) (hN.get vyz (Y + Z) (by simp)) (by omega) (by omega)).mono ?_
  rintro e ws ⟨vm, rfl, hn, hg⟩
  have hN := (hN.gr hg).cons hn
  have hG := hG.step hg
  clear hn hg
  go_wp2_with fail
  refine (mul_ok vx vy _ (hN.get vx (X) (by simp)) (hN.get vy (Y) (by simp)) (by omega) (by omega)).mono ?_
  rintro e ws ⟨vp, rfl, hn, hg⟩
  have hN := (hN.gr hg).cons hn
  have hG := hG.step hg
  clear hn hg
  go_wp2_with fail
  refine (mul_ok vx vz _ (hN.get vx (X) (by simp)) (hN.get vz (Z) (by simp)) (by omega) (by omega)).mono ?_
  rintro e ws ⟨vq, rfl, hn, hg⟩
  have hN := (hN.gr hg).cons hn
  have hG := hG.step hg
  clear hn hg
  go_wp2_with fail
  refine (add_ok vp vq _ (hN.get vp (X * Y) (by simp)) (hN.get vq (X * Z) (by simp)) (by omega) (by omega)).mono ?_
  rintro e ws ⟨vs, rfl, hn, hg⟩
  have hN := (hN.gr hg).cons hn
  have hG := hG.step hg
  clear hn hg
  go_wp2_with fail
  refine (mul_ok vy vx _ (hN.get vy (Y) (by simp)) (hN.get vx (X) (by simp)) (by omega) (by omega)).mono ?_
  rintro e ws ⟨vt, rfl, hn, hg⟩
  have hN := (hN.gr hg).cons hn
  have hG := hG.step hg
  clear hn hg
  go_wp2_with fail
  refine (sub_ok va vy _ (hN.get va (X + Y) (by simp)) (hN.get vy (Y) (by simp)) (by omega) (by omega) (by omega)).mono ?_
  rintro e ws ⟨vd, rfl, hn, hg⟩
  have hN := (hN.gr hg).cons hn
  have hG := hG.step hg
  clear hn hg
  go_wp2_with fail
  refine (num_same (A := X + Y) (B := Y + X) va vb _ (hN.get va (X + Y) (by simp)) (hN.get vb (Y + X) (by simp)) (Nat.add_comm _ _) (by omega)).mono ?_
  rintro e ws ⟨rfl, hg⟩
  have hN := hN.gr hg
  have hG := hG.step hg
  clear hg
  go_wp2_with fail
  refine (num_same (A := X + Y + Z) (B := X + (Y + Z)) vl vr _ (hN.get vl (X + Y + Z) (by simp)) (hN.get vr (X + (Y + Z)) (by simp)) (Nat.add_assoc _ _ _) (by omega)).mono ?_
  rintro e ws ⟨rfl, hg⟩
  have hN := hN.gr hg
  have hG := hG.step hg
  clear hg
  go_wp2_with fail
  refine (num_same (A := X * (Y + Z)) (B := X * Y + X * Z) vm vs _ (hN.get vm (X * (Y + Z)) (by simp)) (hN.get vs (X * Y + X * Z) (by simp)) (Nat.mul_add _ _ _) (by omega)).mono ?_
  rintro e ws ⟨rfl, hg⟩
  have hN := hN.gr hg
  have hG := hG.step hg
  clear hg
  go_wp2_with fail
  refine (num_same (A := X * Y) (B := Y * X) vp vt _ (hN.get vp (X * Y) (by simp)) (hN.get vt (Y * X) (by simp)) (Nat.mul_comm _ _) (by omega)).mono ?_
  rintro e ws ⟨rfl, hg⟩
  have hN := hN.gr hg
  have hG := hG.step hg
  clear hg
  go_wp2_with fail
  refine (num_same (A := X + Y - Y) (B := X) vd vx _ (hN.get vd (X + Y - Y) (by simp)) (hN.get vx (X) (by simp)) (Nat.add_sub_cancel X Y) (by omega)).mono ?_
  rintro e ws ⟨rfl, hg⟩
  have hN := hN.gr hg
  have hG := hG.step hg
  clear hg
  go_wp2_with fail
  go_ret
  exact ⟨rfl, hG⟩
end Go.Proofs.Ytgfgfgmdcicdcaa
