/- Draws of numbers; Same; the sanity check. -/
import Derived.Test.YtikkobmccagdlaaGreatDoorNcl
import Derived.Test.YtikkobmccagdlaaGreatDoorNkr
import Derived.Test.YtikkobmccagdlaaGreatDoorNsm
import Derived.Test.YtikkobmccagdlaaGreatDoorNadd
import Derived.Test.YtikkobmccagdlaaGreatDoorDraw
import Derived.WalkKit
import Derived.WalkSpells
import Derived.WalkLawsBesides
import Derived.WalkSmall
import Derived.Handy
import Derived.BigQuiet
import Derived.Deep.QuietTactic
import Derived.Deep.RegionHeld3
import Derived.Deep.DeepFit
import Derived.Below
import Derived.Lib.Hide
import Derived.Lib.QuietBelow
import Derived.Deep.DeepCutAuto
namespace Go.Proofs.YtikkobmccagdlaaGreatDoor
open Go Go.RowKit Go.Sort
set_option maxRecDepth 100000
set_option linter.unusedVariables false

theorem Cod.exk {B : Nat} {w w' : World} {b k : Nat} (h : Cod B w b) (he : Ex k w w') (hk : k ≠ b) (hB : B ≤ k) : Cod B w' b := by
  have hl := h.lt
  obtain ⟨a, len, cap, j, h0, h1, h2, h3, h4, h5, h6⟩ := h.ex
  exact ⟨h.base, a, len, cap, j, by rw [he.cell b 0 (Ne.symm hk) hl]; exact h0, by rw [he.cell b 1 (Ne.symm hk) hl]; exact h1, h2, h3, by rw [he.frozen b 1 (Ne.symm hk) hl]; exact h4, h5.ex (ne_lt hB h6) he, h6⟩
theorem Cod.grown {B : Nat} {w w' : World} {b : Nat} {row : Option Nat} (h : Cod B w b) (g : w.grownBy w' row) (hr : ∀ k, row = some k → k ≠ b ∧ B ≤ k) : Cod B w' b := by
  cases row with
  | none => exact h.gr (Gr.ofGrown g)
  | some k => exact h.exk (Ex.ofGrown g) (hr k rfl).1 (hr k rfl).2
/-- what the draw of a number gives -/
def NatPost (B b n : Nat) (w : World) (e : Ending) (w' : World) : Prop := ∃ (v : Value) (N : Nat), e = .returned v ∧ Rd (· ≠ b) w' v (nd N) ∧ (nd N).length ≤ n ∧ Cod B w' b ∧ Ex b w w'
def DrawRel (B b n : Nat) (w : World) (s v : Value) (wr : World) : Prop :=
  ∃ (m : Nat) (l : List Nat), s = .int .i64 m ∧ l.length + m ≤ n ∧ Lim l ∧ Own wr w.heap.size v l ∧ Cod B wr b ∧ Ex b w wr
set_option maxHeartbeats 2000000 in
theorem nat_any {B : Nat} (b n : Nat) (w : World) (h : Cod B w b) (hBw : B ≤ w.heap.size) (hn : n ≤ 60) :
    Calls Tryz.prog 7 #[.pointer (some ⟨b, 0, none⟩), .int .i64 n] w (NatPost B b n w) := by
  have hlt := h.lt
  have HBW := Lib.hid hBw
  clear hBw
  go_enter Tryz.func7, Tryz.ntmps7
  go_wp2_with fail
  refine (next_any b _ _ (by omega) (by omega) h).mono ?_
  rintro e w1 ⟨x, rfl, x0, x1, hc1, he1⟩
  go_wp2_with fail
  go_loopw [6, 5] (fun s v wr => DrawRel B b n w s v wr) (fun s _ _ => (intOf s).toNat)
  case atStart => exact ⟨x.toNat, [], by rw [Int.toNat_of_nonneg x0], by simp; omega, lim_nil, Own.nil _ _, hc1, he1⟩
  case round =>
    obtain ⟨m, l, rfl, hm, hL, hown, hcod, hex⟩ := hrel
    have HO := Lib.hid hown
    clear hown
    by_cases hm0 : 0 < m
    · have d : decide ((0 : Int) < (m : Int)) = true := by simpa using hm0
      go_wp2_with fail
      refine (next_any b 256 _ (by omega) (by omega) hcod).mono ?_
      rintro e w2 ⟨y, rfl, y0, y1, hc2, he2⟩
      go_wp2_with fail
      refine (next_any b 65536 _ (by omega) (by omega) hc2).mono ?_
      rintro e w3 ⟨p, rfl, p0, p1, hc3, he3⟩
      go_wp2_with fail
      refine (next_any b 16000 _ (by omega) (by omega) hc3).mono ?_
      rintro e w4 ⟨q, rfl, q0, q1, hc4, he4⟩
      have hz1 : p * (1 + q) ≤ 65535 * (1 + q) := Int.mul_le_mul_of_nonneg_right (by omega) (by omega)
      have hz0 : 0 ≤ p * (1 + q) := Int.mul_nonneg (by omega) (by omega)
      obtain ⟨z, hz⟩ : ∃ z : Int, z = p * (1 + q) := ⟨_, rfl⟩
      rw [← hz] at hz0 hz1
      have z1 : z ≤ 1048560000 := by omega
      have mz : IntKind.i64.wrap (p * (1 + q)) = z := by rw [← hz]; exact IntWalk.i64_in _ (by omega)
      clear hz hz1
      have hE4 := (he2.trans he3).trans he4
      clear he2 he3 he4 hc2 hc3
      go_wp2_with fail
      refine (next_any b 5 _ (by omega) (by omega) (hc4.gr (Gr.alloc (Gr.refl _) _))).mono ?_
      rintro e w5 ⟨i, rfl, i0, i1, hc5, he5⟩
      obtain ⟨j, rfl⟩ := Int.eq_ofNat_of_zero_le i0
      have hbw4 : b < w4.heap.size := hc4.lt
      obtain ⟨t, ht⟩ : ∃ t : Nat, w5.cell? ⟨w4.heap.size, j, none⟩ = some (.int .i64 t) := by
        obtain ⟨y', rfl⟩ := Int.eq_ofNat_of_zero_le y0
        obtain ⟨z', rfl⟩ := Int.eq_ofNat_of_zero_le hz0
        rw [he5.cell _ _ (by omega) (by go_size)]
        have hj : j = 0 ∨ j = 1 ∨ j = 2 ∨ j = 3 ∨ j = 4 := by omega
        rcases hj with rfl | rfl | rfl | rfl | rfl
        · exact ⟨0, by simp⟩
        · exact ⟨1, by simp⟩
        · exact ⟨1073741823, by simp⟩
        · exact ⟨y', by simp⟩
        · exact ⟨z', by simp⟩
      have j1 : (j : Int) < 5 := i1
      have j2 : j < 5 := by omega
      have t0 : (0 : Int) ≤ (t : Int) := by omega
      have hE5 : Ex b wr w5 := (hE4.alloc _).trans he5
      have hown5 := HO.out.ex hE5 hlt
      have hsz := hex.size
      have hsz5 := hE5.size
      obtain ⟨d, hd⟩ : ∃ d : Nat, d = t % 1073741824 := ⟨_, rfl⟩
      have md : (t : Int) % 1073741824 = (d : Int) := by omega
      have HD := Lib.hid hd
      obtain ⟨ti, hi1, hi2, hi3, hi4⟩ := intInfo
      have hown6 := hown5
      unfold Own at hown6
      clear hd i0 i1
      go_wp2_with (at_builtin; refine wpList_append_own_at _ rfl _ _ 24 rfl w.heap.size 3 ti (.int .i64 0) 1 8 Tryz.underlying24 hi1 hi2 hi3 hi4 rfl (by decide) _ _ _ rfl (hown6.alloc _) ⟨w5.heap.size, 0, none⟩ 1 1 [.int .i64 d] rfl rfl (cell_one_new _ _ _) (by simp [Value.oneCell']) (by unfold maxLen; omega) (by omega) (by simp; omega) ?_; intro v' w6 hown7 hgrow hnil hloc)
      clear hnil hloc
      refine ⟨⟨m - 1, l ++ [d], by rw [show ((m - 1 : Nat) : Int) = (m : Int) - 1 by omega], by simp; omega, lim_append.2 ⟨hL, lim_cons.2 ⟨by rw [HD.out]; omega, lim_nil⟩⟩, ?_, ?_, ?_⟩, by simp only [intOf]; omega⟩
      · unfold Own
        rw [List.length_append, List.map_append]
        exact hown7
      · have hB1 := HBW.out
        refine Cod.grown (hc5.gr (Gr.alloc (Gr.refl _) _)) hgrow (fun k hk => ?_)
        have := (World.ownsRow.lt hown6 k hk).1
        omega
      · exact Ex.grown ((hex.trans hE5).alloc _) hgrow (fun k hk => (World.ownsRow.lt hown6 k hk).1)
    · have d : decide ((0 : Int) < (m : Int)) = false := by simpa using hm0
      have hrd := HO.out.rd.imp (q := (· ≠ b)) (fun c _ hc => by omega)
      have HT := Lib.hid (rtrim_any wr hrd hL)
      have hle : (nd (nv l)).length ≤ n := Nat.le_trans ((nd_len _ _).2 (nv_lt hL)) (by omega)
      clear hrd
      go_wp2_with fail
      refine HT.out.mono ?_
      rintro e w' ⟨v, rfl, hv, rfl⟩
      have HV := Lib.hid hv
      clear hv
      go_wp2_with fail
      go_ret
      exact ⟨v, _, rfl, HV.out, hle, hcod, hex⟩

theorem awake_any (w : World) : Calls Tryz.prog 5 #[] w fun e w' => e = .returned (.bool true) ∧ Gr w w' := by
  have h1 := num_lit w 1073741823 1073741823 rfl (by omega) (by omega)
  have h2 := num_lit (w.alloc (.cells #[.int .i64 1073741823] 3)) 1 1 rfl (by omega) (by omega)
  have h3 := h1.gr (Gr.alloc (Gr.refl _) (.cells #[.int .i64 1] 3))
  simp only [World.size_alloc] at h2
  have e1 : (nd 1073741823).length ≤ 256 := by rw [nd_one (by omega) (by omega)]; simp
  have e2 : (nd 1).length ≤ 256 := by rw [nd_one (by omega) (by omega)]; simp
  have HC := Lib.hid (add_any _ _ _ h3 h2 e1 e2)
  clear h1 h2 h3
  go_enter Tryz.func5, Tryz.ntmps5
  go_wp2_with fail
  refine HC.out.mono ?_
  rintro e w1 ⟨v, er, rfl, hres, hg⟩
  have hres2 : er = 0 ∧ Num w1 v 1073741824 := by
    rcases hres with ⟨-, h1, h2⟩ | ⟨h1, -⟩
    · exact ⟨h1, h2⟩
    · rw [show (1073741823 + 1 : Nat) = 1073741824 from rfl, nd_two] at h1; simp at h1
  obtain ⟨rfl, hn⟩ := hres2
  unfold Num at hn
  rw [nd_two] at hn
  obtain ⟨a, cap, rfl, hl, hcap, H⟩ := hn
  obtain ⟨bb, off, rfl, -, hc⟩ := H 1 (by simp)
  have hc2 : w1.cell? ⟨bb, off + 1, none⟩ = some (.int .i64 1) := hc
  clear hc H hres
  simp only [List.length_cons, List.length_nil] at hl ⊢
  go_wp2
  go_ret
  exact ⟨rfl, (by repeat' (first | (with_reducible exact Gr.refl _) | (with_reducible assumption) | (with_reducible refine Gr.drewN ?_ _) | (with_reducible refine Gr.drew ?_) | (with_reducible refine Gr.alloc ?_ _) | (with_reducible refine Gr.setCell ?_ ?_ _) | (with_reducible refine Gr.grow ?_ _ _) | (refine Gr.step ?_ (by with_reducible assumption)) | go_size))⟩
end Go.Proofs.YtikkobmccagdlaaGreatDoor
