/- The walk of the statement on the limits. -/
import Derived.Test.YtgfgfgmdcicdcaaNpw
import Derived.Test.YtgfgfgmdcicdcaaNgc
import Derived.Test.YtgfgfgmdcicdcaaNsub
import Derived.Test.YtgfgfgmdcicdcaaNdr
import Derived.WalkKit
import Derived.WalkSpells
import Derived.WalkLawsBesides
import Derived.WalkSmall
import Derived.Handy
import Derived.BigQuiet
import Derived.Deep.QuietTactic
import Derived.Deep.RegionHeld3
import Derived.Deep.DeepFit
import Derived.Below
import Derived.Lib.Hide
import Derived.Lib.QuietBelow
namespace Go.Proofs.Ytgfgfgmdcicdcaa
open Go Go.RowKit Go.Sort Go.Shelf
set_option maxRecDepth 100000
theorem full_val : ∀ (l : List Nat), (∀ j, j < l.length → l.getD j 0 = 1073741823) → nv l + 1 = 1073741824 ^ l.length
  | [], _ => rfl
  | x :: l, h => by
    have hx := h 0 (by simp)
    have ih := full_val l fun j hj => by have := h (j + 1) (by simp; omega); simpa using this
    simp at hx
    rw [nv, List.length_cons, bp_succ, ← ih, hx]; omega
theorem full_lim {l : List Nat} (h : ∀ j, j < l.length → l.getD j 0 = 1073741823) : Lim l := fun x hx => by
  obtain ⟨j, hj, rfl⟩ := List.getElem_of_mem hx
  have := h j hj
  rw [List.getD_eq_getElem?_getD, List.getElem?_eq_getElem hj] at this
  simp at this; omega
/-- the greatest number of n + 2 limbs -/
theorem full_facts {l : List Nat} {n : Nat} (hl : l.length = n + 2) (h : ∀ j, j < l.length → l.getD j 0 = 1073741823) :
    ∃ F, l = nd F ∧ (∀ d, 0 < d → n + 2 < (nd (F + d)).length) ∧ n + 2 < (nd (F * 2)).length ∧ (∀ d, d < 1073741824 → d ≤ F ∧ (nd (F - d)).length = n + 2) := by
  have hv := full_val l h
  have hL := full_lim h
  have hd : l = nd (nv l) := nd_of_last hL (.inr (by rw [h _ (by omega)]; omega))
  have hlen : (nd (nv l)).length = n + 2 := by rw [← hd]; exact hl
  rw [hl] at hv
  generalize nv l = F at *
  have hQ : 1073741824 ^ (n + 2) = 1073741824 * 1073741824 ^ (n + 1) := bp_succ _
  have hQ2 : 1073741824 ^ (n + 1) = 1073741824 * 1073741824 ^ n := bp_succ _
  have hp := bp_pos n
  have key : ∀ N, 1073741824 ^ (n + 2) ≤ N → n + 2 < (nd N).length := fun N hN => by
    rcases Nat.lt_or_ge (n + 2) (nd N).length with h | h
    · exact h
    · have := (nd_len N (n + 2)).1 h
      exact absurd hN (Nat.not_le.2 this)
  generalize 1073741824 ^ n = R at *
  generalize hq : 1073741824 ^ (n + 1) = Q at *
  generalize 1073741824 ^ (n + 2) = P at *
  refine ⟨F, hd, fun d h0 => key _ (by omega), key _ (by omega), fun d hdl => ⟨by omega, ?_⟩⟩
  have h1 : (nd (F - d)).length ≤ n + 2 := by rw [← hlen]; exact nd_mono (Nat.sub_le F d)
  rcases Nat.lt_or_ge (n + 1) (nd (F - d)).length with h | h
  · omega
  · have := (nd_len (F - d) (n + 1)).1 h
    rw [hq] at this
    omega
theorem two_len (K : Nat) : (nd (2 ^ K)).length = K / 30 + 1 := by
  have e : ∀ k, 1073741824 ^ k = 2 ^ (30 * k) := fun k => by rw [Nat.pow_mul]
  have h1 : (nd (2 ^ K)).length ≤ K / 30 + 1 := by
    rw [nd_len, e]
    exact Nat.pow_lt_pow_right (by omega) (by omega)
  have h2 : ¬ (nd (2 ^ K)).length ≤ K / 30 := by
    rw [nd_len, e, Nat.not_lt]
    exact Nat.pow_le_pow_right (by omega) (by omega)
  omega
theorem Res.err {w w' : World} {N : Nat} {e : Ending} (h : Res w N e w') (hN : 256 < (nd N).length) : e = .returned (.tuple #[.slice none 0 0, .int .i64 5]) ∧ Gr w w' := by
  obtain ⟨v, er, rfl, ⟨hl, -⟩ | ⟨-, rfl, rfl⟩, hg⟩ := h
  · omega
  · exact ⟨rfl, hg⟩
theorem num_lit' (v : Int) (x : Nat) (w : World) (hv : v = x) (h0 : 0 < x) (h1 : x < 1073741824) : Num (w.alloc (.cells #[.int .i64 v] 3)) (.slice (some ⟨w.heap.size, 0, none⟩) 1 1) x := by
  subst hv; exact num_lit1 w h0 h1
theorem pow_int {A : Nat} (k : Int) (K : Nat) (va : Value) (w : World) (hk : k = K) (hA : Num w va A) (hA0 : 0 < A) (lA : (nd A).length ≤ 256) (hK : K ≤ 65536) :
    Calls Try.prog 20 #[va, .int .i64 k] w (Res w (A ^ K)) := by
  subst hk; exact pow_any va w hA hA0 lA hK
theorem lit_len {x : Nat} (h0 : 0 < x) (h1 : x < 1073741824) : (nd x).length ≤ 256 := by rw [nd_one h0 h1]; simp
set_option maxHeartbeats 4000000 in
theorem limits_walk (a m : Nat) (w : World) (ha : a < 4294967296) (hm : m < 256) :
    Calls Try.prog 7 #[.int .u32 a, .int .u8 m] w fun e w' => e = .returned (.bool true) ∧ Gr w w' := by
  have a1 : (a : Int) < 4294967296 := by omega
  have m1 : (m : Int) < 256 := by omega
  obtain ⟨d, hd⟩ : ∃ d : Nat, d = a % 1073741823 := ⟨_, rfl⟩
  have e1 : (a : Int) % 1073741823 = (d : Int) := by omega
  have d1 : (d : Int) < 1073741823 := by omega
  clear hd
  obtain ⟨ti, hi1, hi2, hi3, hi4⟩ := intInfo
  have mk1 : ∀ W : World, (Instr.makeSlice 27 (.int .i64 256) (.int .i64 256)).run Try.prog W = .ok (.slice (some ⟨W.heap.size, 0, none⟩) 256 256) (W.alloc (.cells (madeCells #[.int .i64 0] 256) 3)) := by
    intro W
    have := run_make (P := Try.prog) W 27 3 ti (.int .i64 0) Try.underlying27 hi1 hi2 .i64 .i64 256 256 (by omega) (Int.le_refl _) (by rw [hi4]; omega) (by omega)
    rw [hi3, show (256 : Int).toNat = 256 from rfl, Nat.mul_one] at this
    exact this
  go_enter Try.func7, Try.ntmps7
  go_wp2_with (go_at_call 8; refine (awake_any _).mono ?_; rintro e w1 ⟨rfl, hg1⟩)
  have har := arr_made w1 256
  have hgm : Gr w (w1.alloc (.cells (madeCells #[.int .i64 0] 256) 3)) := Gr.alloc hg1 _
  have hgw : w.heap.size ≤ w1.heap.size := Gr.size hg1
  generalize w1.alloc (.cells (madeCells #[.int .i64 0] 256) 3) = w2 at *
  generalize w1.heap.size = g at *
  clear hg1 mk1 hi1 hi2 hi3 hi4
  go_loopw [6] (fun s wr => ∃ (k : Nat) (l : List Nat), s = .int .i64 k ∧ k ≤ 256 ∧ l.length = 256 ∧ (∀ j, j < k → l.getD j 0 = 1073741823) ∧ Arr wr g 0 l ∧ Gr w wr) (fun s _ => 256 - (intOf s).toNat)
  case atStart => exact ⟨0, _, rfl, by omega, List.length_replicate, fun j hj => by omega, har, hgm⟩
  case round =>
    obtain ⟨k, l, rfl, hk, hl, hM, har, hG⟩ := hrel
    by_cases hlt : k < 256
    · have k1 : (k : Int) < 256 := by omega
      obtain ⟨hc, hf⟩ := har k (by omega)
      rw [Nat.zero_add] at hc hf
      have HAR := Lib.hid har
      have HM := Lib.hid hM
      have HL := Lib.hid hl
      clear har hM hl
      go_wp2_with fail
      refine ⟨⟨k + 1, l.set k 1073741823, by go_num, by omega, by rw [List.length_set]; exact HL.out, ?_, ?_, hG.setCell (p := ⟨g, k, none⟩) hgw _⟩, by simp only [intOf]; omega⟩
      · intro j hj
        rw [List.getD_eq_getElem?_getD, List.getElem?_set]
        by_cases hjk : k = j
        · rw [if_pos hjk, if_pos (by rw [HL.out]; omega)]; rfl
        · rw [if_neg hjk, ← List.getD_eq_getElem?_getD]; exact HM.out j (by omega)
      · have := HAR.out.set (i := k) (by rw [HL.out]; omega) 1073741823
        rw [Nat.zero_add] at this
        exact this
    · obtain rfl : k = 256 := by omega
      obtain ⟨F, hF, h1, h2, h3⟩ := full_facts (n := 254) hl (fun j hj => hM j (by omega))
      have hN : Num wr (.slice (some ⟨g, 0, none⟩) 256 256) F := by
        have := har.rd (p := fun _ => True) (cap := 256) (by omega) (by omega) trivial
        rw [hl, hF] at this
        exact this
      have hFl : (nd F).length = 256 := by rw [← hF]; exact hl
      obtain ⟨h4, h5⟩ := h3 (d + 1) (by omega)
      have HE1 := Lib.hid (h1 (m + 1) (by omega))
      have HE2 := Lib.hid h2
      have HS := Lib.hid h4
      have HS2 := Lib.hid h5
      have HFL := Lib.hid hFl
      clear hF h1 h2 h3 h4 h5 hM har hl hFl hlt hgm
      obtain ⟨P, hP⟩ : ∃ P, P = 7679 := ⟨_, rfl⟩
      obtain ⟨Q, hQ⟩ : ∃ Q, Q = 7680 := ⟨_, rfl⟩
      have lP := two_len P
      have lQ := two_len Q
      have lP' : (nd (2 ^ P)).length = 256 := by omega
      have lQ' : 256 < (nd (2 ^ Q)).length := by omega
      have pP : (7679 : Int) = (P : Nat) := by omega
      have pQ : (7680 : Int) = (Q : Nat) := by omega
      have kP : P ≤ 65536 := by omega
      have kQ : Q ≤ 65536 := by omega
      have HP := Lib.hid lP'
      have HQ := Lib.hid lQ'
      have HPP := Lib.hid pP
      have HQQ := Lib.hid pQ
      clear hP hQ lP lQ lP' lQ' pP pQ
      go_wp2_with fail
      obtain ⟨vf, hvf⟩ : ∃ vf : Value, vf = .slice (some ⟨g, 0, none⟩) 256 256 := ⟨_, rfl⟩
      rw [← hvf] at hN ⊢
      clear hvf
      refine ((add_any (A := F) (B := m + 1) vf _ _ (hN.gr (Gr.alloc (Gr.refl _) _)) (num_lit' (1 + (m : Int)) (m + 1) _ (by omega) (by omega) (by omega)) (by rw [HFL.out]; omega) (lit_len (x := (m + 1)) (by omega) (by omega))).mono fun _ _ h => Res.err h HE1.out).mono ?_
      rintro e w3 ⟨rfl, hg⟩
      have hN := (hN.gr (Gr.alloc (Gr.refl _) _)).gr hg
      have hG := (Gr.alloc hG _).step hg
      clear hg
      go_wp2_with fail
      refine ((add_any (A := F) (B := 0) vf _ _ hN (Num.nil _) (by rw [HFL.out]; omega) (by rw [nd_zero]; simp)).mono fun _ _ h => h.ok (by rw [Nat.add_zero, HFL.out]; omega)).mono ?_
      rintro e w4 ⟨vx, rfl, hx, hg⟩
      have hN := hN.gr hg
      have hG := hG.step hg
      clear hg
      go_wp2_with fail
      refine ((mul_any (A := F) (B := 2) vf _ _ (hN.gr (Gr.alloc (Gr.refl _) _)) (num_lit' 2 2 _ (by omega) (by omega) (by omega)) (by rw [HFL.out]; omega) (lit_len (x := 2) (by omega) (by omega))).mono fun _ _ h => Res.err h HE2.out).mono ?_
      rintro e w5 ⟨rfl, hg⟩
      have hN := (hN.gr (Gr.alloc (Gr.refl _) _)).gr hg
      have hx := (hx.gr (Gr.alloc (Gr.refl _) _)).gr hg
      have hG := (Gr.alloc hG _).step hg
      clear hg
      go_wp2_with fail
      refine (sub_any (A := F) (B := d + 1) vf _ _ (hN.gr (Gr.alloc (Gr.refl _) _)) (num_lit' (1 + (d : Int)) (d + 1) _ (by omega) (by omega) (by omega)) (by rw [HFL.out]; omega) (lit_len (x := (d + 1)) (by omega) (by omega))).mono ?_
      rintro e w6 ⟨vs, er, rfl, ⟨-, rfl, hs⟩ | ⟨hlt, -⟩, hg⟩
      · have hN := (hN.gr (Gr.alloc (Gr.refl _) _)).gr hg
        have hx := (hx.gr (Gr.alloc (Gr.refl _) _)).gr hg
        have hG := (Gr.alloc hG _).step hg
        obtain ⟨sa, sc, rfl⟩ := num_len hs
        rw [HS2.out]
        clear hg hs
        go_wp2_with fail
        refine ((pow_int (A := 2) _ P _ _ HPP.out (num_lit' 2 2 _ (by omega) (by omega) (by omega)) (by omega) (lit_len (x := 2) (by omega) (by omega)) kP).mono fun _ _ h => h.ok (by rw [HP.out]; omega)).mono ?_
        rintro e w7 ⟨vp, rfl, hp, hg⟩
        have hN := (hN.gr (Gr.alloc (Gr.refl _) _)).gr hg
        have hx := (hx.gr (Gr.alloc (Gr.refl _) _)).gr hg
        have hG := (Gr.alloc hG _).step hg
        obtain ⟨pa, pc, rfl⟩ := num_len hp
        rw [HP.out]
        clear hg hp
        go_wp2_with fail
        refine ((pow_int (A := 2) _ Q _ _ HQQ.out (num_lit' 2 2 _ (by omega) (by omega) (by omega)) (by omega) (lit_len (x := 2) (by omega) (by omega)) kQ).mono fun _ _ h => Res.err h HQ.out).mono ?_
        rintro e w8 ⟨rfl, hg⟩
        have hN := (hN.gr (Gr.alloc (Gr.refl _) _)).gr hg
        have hx := (hx.gr (Gr.alloc (Gr.refl _) _)).gr hg
        have hG := (Gr.alloc hG _).step hg
        clear hg
        go_wp2_with fail
        refine (num_same (A := F + 0) (B := F) vx vf _ hx hN (Nat.add_zero F) (by rw [Nat.add_zero, HFL.out]; omega)).mono ?_
        rintro e w9 ⟨rfl, hg⟩
        go_wp2_with fail
        go_ret
        exact ⟨rfl, hG.step hg⟩
      · exact absurd hlt (Nat.not_lt.2 HS.out)
end Go.Proofs.Ytgfgfgmdcicdcaa
