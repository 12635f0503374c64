/- Several texts in one. -/
import Derived.Test.YtjpjnbgfodlkcaaGreatDoorHdM
import Derived.Test.YtjpjnbgfodlkcaaGreatDoorGAQ
import Derived.Test.YtjpjnbgfodlkcaaGreatDoorGAR
import Derived.Test.YtjpjnbgfodlkcaaGreatDoorEsM
import Derived.WalkKit
import Derived.WalkSpells
import Derived.WalkLawsBesides
import Derived.WalkSmall
import Derived.Handy
import Derived.BigQuiet
import Derived.Deep.QuietTactic
import Derived.Deep.RegionHeld3
import Derived.Deep.DeepFit
import Derived.Below
import Derived.Lib.Hide
import Derived.Lib.QuietBelow
import Derived.Test.YtjpjnbgfodlkcaaGreatDoorGAO
import Derived.Laws.BytesArg
/- The document's Floor, Ceil, Compare of fractions. -/
namespace Go.Proofs.YtjpjnbgfodlkcaaGreatDoor
open Go Go.RowKit Go.Sort
set_option maxRecDepth 100000
set_option linter.unusedVariables false
set_option maxHeartbeats 2000000 in
theorem rffloor_any {r : Rat} (v : Value) (w : World) (h : Fra w v r) :
    Calls Tryz.prog 19 #[v] w (FlRes w r.floor) := by
  obtain ⟨x, va, vb, A, B, rfl, hA, hB, hB0, hx, lA, lB, rfl⟩ := h
  have HFF := Lib.hid (floor_rnd (x := x) (N := A) hB0)
  have HA := Lib.hid hA
  have HB := Lib.hid hB
  have HB0 := Lib.hid hB0
  obtain ⟨aa, ca, rfl⟩ := num_slice hA
  obtain ⟨ab, cb, rfl⟩ := num_slice hB
  have lq : (nd (A / B)).length ≤ 64 := nd_le_len' lA (Nat.div_le_self _ _)
  clear hA hB hB0 hx
  have hX := C3.new w (.bool x) (.slice aa (nd A).length ca) (.slice ab (nd B).length cb) 26 w.heap.size rfl
  have hG : Gr w (w.alloc (.cells #[.bool x, .slice aa (nd A).length ca, .slice ab (nd B).length cb] 26)) := Gr.alloc (Gr.refl _) _
  obtain ⟨xc0, xc1, xc2, -, -, -, -, -⟩ := id hX
  cases x
  · have HF : Hid ((rat false A B).floor = sgn false (A / B)) := Lib.hid (by rw [HFF.out]; rfl)
    go_enter Tryz.func19, Tryz.ntmps19
    go_wp2_with fail
    generalize w.alloc (.cells #[.bool false, .slice aa (nd A).length ca, .slice ab (nd B).length cb] 26) = W0 at *
    refine (split_any _ _ _ (HA.out.gr hG) (HB.out.gr hG) HB0.out (by omega) (by omega)).mono ?_
    rintro e w2 ⟨vq, vr, rfl, hq, hr, hg⟩
    obtain ⟨ar, cr, rfl⟩ := num_slice hr
    obtain ⟨aq, cq, rfl⟩ := num_slice hq.any
    have HQ := Lib.hid hq.any
    replace hX := hX.gr hg
    replace hG := hG.step hg
    clear xc0 xc1 xc2 hq hr hg
    obtain ⟨xc0, xc1, xc2, -, -, -, -, -⟩ := id hX
    go_wp2_with fail
    refine (rint_any _ _ HQ.out (by omega)).mono ?_
    rintro e w4 ⟨z, er, rfl, hz, hz0, hz1, hg⟩
    replace hX := hX.gr hg
    replace hG := hG.step hg
    clear xc0 xc1 xc2 hg
    obtain ⟨xc0, xc1, xc2, -, -, -, -, -⟩ := id hX
    rcases hz with ⟨hle, rfl, rfl⟩ | ⟨hle, rfl, rfl⟩
    · have HLE := Lib.hid hle
      clear hle
      go_wp2_with fail
      go_ret2
      refine ⟨_, _, rfl, .inl ⟨?_, ?_, rfl⟩, hG⟩
      · rw [HF.out, sgn_abs]; exact HLE.out
      · rw [HF.out]; unfold sgn; simp
    · have HLE := Lib.hid hle
      clear hle
      go_wp2_with fail
      go_ret2
      refine ⟨_, _, rfl, .inr ⟨?_, rfl, rfl⟩, hG⟩
      rw [HF.out, sgn_abs]; exact HLE.out
  · by_cases h0 : 0 < A % B
    · have HF : Hid ((rat true A B).floor = sgn true (A / B + 1)) := Lib.hid (by rw [HFF.out]; unfold rnd; rw [decide_eq_true h0]; rfl)
      have hrl : 0 < (nd (A % B)).length := by rw [nd_pos h0]; simp
      have dR : decide (0 < (nd (A % B)).length) = true := by simpa using hrl
      clear h0 hrl
      go_enter Tryz.func19, Tryz.ntmps19
      go_wp2_with fail
      generalize w.alloc (.cells #[.bool true, .slice aa (nd A).length ca, .slice ab (nd B).length cb] 26) = W0 at *
      refine (split_any _ _ _ (HA.out.gr hG) (HB.out.gr hG) HB0.out (by omega) (by omega)).mono ?_
      rintro e w2 ⟨vq, vr, rfl, hq, hr, hg⟩
      obtain ⟨ar, cr, rfl⟩ := num_slice hr
      obtain ⟨aq, cq, rfl⟩ := num_slice hq.any
      have HQ := Lib.hid hq.any
      replace hX := hX.gr hg
      replace hG := hG.step hg
      clear xc0 xc1 xc2 hq hr hg
      obtain ⟨xc0, xc1, xc2, -, -, -, -, -⟩ := id hX
      go_wp2_with fail
      have HO := Lib.hid (num_litb w2 w2.heap.size (x := 1) (by omega) (by omega) rfl)
      refine (plus_any _ _ _ (HQ.out.gr (Gr.alloc (Gr.refl _) _)) HO.out (by omega) (by rw [nd_one (by omega) (by omega)]; simp)).mono ?_
      rintro e w3 ⟨vs, rfl, hs, hg⟩
      obtain ⟨as', cs', rfl⟩ := num_slice hs
      have hg3 := (Gr.alloc (Gr.refl w2) (.cells #[.int .i64 1] 3)).step hg
      replace hX := hX.gr hg3
      replace hG := hG.step hg3
      clear xc0 xc1 xc2 hg hg3
      obtain ⟨xc0, xc1, xc2, -, -, -, -, -⟩ := id hX
      have HSS := Lib.hid hs
      clear hs
      go_wp2_with fail
      refine (rint_any _ _ HSS.out (by have := nd_add' (A := A / B) (B := 1) (k := 64) (by omega) len_one'; omega)).mono ?_
      rintro e w4 ⟨z, er, rfl, hz, hz0, hz1, hg⟩
      replace hX := hX.gr hg
      replace hG := hG.step hg
      clear xc0 xc1 xc2 hg
      obtain ⟨xc0, xc1, xc2, -, -, -, -, -⟩ := id hX
      rcases hz with ⟨hle, rfl, rfl⟩ | ⟨hle, rfl, rfl⟩
      · have HLE := Lib.hid hle
        clear hle
        go_wp2_with fail
        go_ret2
        refine ⟨_, _, rfl, .inl ⟨?_, ?_, rfl⟩, hG⟩
        · rw [HF.out, sgn_abs]; exact HLE.out
        · rw [HF.out]; unfold sgn; simp
      · have HLE := Lib.hid hle
        clear hle
        go_wp2_with fail
        go_ret2
        refine ⟨_, _, rfl, .inr ⟨?_, rfl, rfl⟩, hG⟩
        rw [HF.out, sgn_abs]; exact HLE.out
    · have HF : Hid ((rat true A B).floor = sgn true (A / B)) := Lib.hid (by rw [HFF.out]; unfold rnd; rw [decide_eq_false h0]; rfl)
      have dR : decide (0 < (nd (A % B)).length) = false := by rw [show A % B = 0 by omega, nd_zero]; rfl
      clear h0
      go_enter Tryz.func19, Tryz.ntmps19
      go_wp2_with fail
      generalize w.alloc (.cells #[.bool true, .slice aa (nd A).length ca, .slice ab (nd B).length cb] 26) = W0 at *
      refine (split_any _ _ _ (HA.out.gr hG) (HB.out.gr hG) HB0.out (by omega) (by omega)).mono ?_
      rintro e w2 ⟨vq, vr, rfl, hq, hr, hg⟩
      obtain ⟨ar, cr, rfl⟩ := num_slice hr
      obtain ⟨aq, cq, rfl⟩ := num_slice hq.any
      have HQ := Lib.hid hq.any
      replace hX := hX.gr hg
      replace hG := hG.step hg
      clear xc0 xc1 xc2 hq hr hg
      obtain ⟨xc0, xc1, xc2, -, -, -, -, -⟩ := id hX
      go_wp2_with fail
      refine (rint_any _ _ HQ.out (by omega)).mono ?_
      rintro e w4 ⟨z, er, rfl, hz, hz0, hz1, hg⟩
      replace hX := hX.gr hg
      replace hG := hG.step hg
      clear xc0 xc1 xc2 hg
      obtain ⟨xc0, xc1, xc2, -, -, -, -, -⟩ := id hX
      rcases hz with ⟨hle, rfl, rfl⟩ | ⟨hle, rfl, rfl⟩
      · have HLE := Lib.hid hle
        clear hle
        go_wp2_with fail
        go_ret2
        refine ⟨_, _, rfl, .inl ⟨?_, ?_, rfl⟩, hG⟩
        · rw [HF.out, sgn_abs]; exact HLE.out
        · rw [HF.out]; unfold sgn; simp
      · have HLE := Lib.hid hle
        clear hle
        go_wp2_with fail
        go_ret2
        refine ⟨_, _, rfl, .inr ⟨?_, rfl, rfl⟩, hG⟩
        rw [HF.out, sgn_abs]; exact HLE.out
set_option maxHeartbeats 2000000 in
theorem rfceil_any {r : Rat} (v : Value) (w : World) (h : Fra w v r) :
    Calls Tryz.prog 21 #[v] w (FlRes w (ceil r)) := by
  have HF := Lib.hid h
  obtain ⟨x, va, vb, A, B, rfl, hA, hB, -⟩ := id h
  obtain ⟨aa, ca, rfl⟩ := num_slice hA
  obtain ⟨ab, cb, rfl⟩ := num_slice hB
  clear h hA hB
  have hX := C3.new w (.bool x) (.slice aa (nd A).length ca) (.slice ab (nd B).length cb) 26 w.heap.size rfl
  have hG : Gr w (w.alloc (.cells #[.bool x, .slice aa (nd A).length ca, .slice ab (nd B).length cb] 26)) := Gr.alloc (Gr.refl _) _
  obtain ⟨xc0, xc1, xc2, -, -, -, -, -⟩ := id hX
  go_enter Tryz.func21, Tryz.ntmps21
  go_wp2_with fail
  refine (ropp_any _ _ (HF.out.gr hG)).mono ?_
  rintro e w2 ⟨bo, o1, o2, l1, l2, j1, j2, rfl, ho, hg⟩
  have HO := Lib.hid ho
  have HG := Lib.hid (hG.step hg)
  clear ho hg hG hX xc0 xc1 xc2
  go_wp2_with fail
  refine (rffloor_any _ _ HO.out).mono ?_
  rintro e w3 ⟨z, er, rfl, hz, hg⟩
  have HG3 := Lib.hid (HG.out.step hg)
  have hzb : -4611686018427387904 ≤ z ∧ z ≤ 4611686018427387904 := by
    rcases hz with ⟨h1, rfl, -⟩ | ⟨-, rfl, -⟩ <;> omega
  have HZ := Lib.hid hz
  clear hz hg
  have z0 := hzb.1
  have z1 := hzb.2
  clear hzb
  go_wp2_with fail
  go_ret2
  refine ⟨_, _, rfl, ?_, HG3.out⟩
  unfold ceil
  rcases HZ.out with ⟨h1, h2, h3⟩ | ⟨h1, h2, h3⟩
  · exact .inl ⟨by omega, by rw [h2], h3⟩
  · exact .inr ⟨by omega, by rw [h2]; rfl, h3⟩
theorem sub_zero_iff (a b : Rat) : (a - b).num.natAbs = 0 ↔ a = b := by
  constructor
  · intro h
    rcases rat_tri a b with h1 | h1 | h1
    · have := (lt_iff_sub a b).1 h1; omega
    · exact h1
    · have h2 := (lt_iff_sub b a).1 h1
      have h3 : b - a = -(a - b) := by grind
      rw [h3, Rat.neg_num] at h2
      omega
  · rintro rfl
    have h3 : a - a = 0 := by grind
    rw [h3]; rfl
theorem rcmp_sub (a b : Rat) : rcmp a b = if (a - b).num < 0 then -1 else if (nd (a - b).num.natAbs).length = 0 then 0 else 1 := by
  unfold rcmp
  by_cases h1 : a < b
  · rw [if_pos h1, if_pos ((lt_iff_sub a b).1 h1)]
  · rw [if_neg h1, if_neg (fun h => h1 ((lt_iff_sub a b).2 h))]
    by_cases h2 : b < a
    · rw [if_pos h2]
      have hne : a ≠ b := fun e => by rw [e] at h2; exact Rat.lt_irrefl h2
      have : 0 < (a - b).num.natAbs := Nat.pos_of_ne_zero fun h => hne ((sub_zero_iff a b).1 h)
      rw [if_neg (by rw [nd_pos this]; simp)]
    · rw [if_neg h2]
      have he : a = b := by
        rcases rat_tri a b with h | h | h
        · exact absurd h h1
        · exact h
        · exact absurd h h2
      have : (a - b).num.natAbs = 0 := (sub_zero_iff a b).2 he
      rw [this, nd_zero]; rfl
end Go.Proofs.YtjpjnbgfodlkcaaGreatDoor
/- The document's Decimal, at any number. -/
namespace Go.Proofs.YtjpjnbgfodlkcaaGreatDoor
open Go Go.RowKit Go.Sort
set_option maxRecDepth 100000
set_option linter.unusedVariables false
theorem conv_dg (k : Nat) (w : World) : (convert 22 9 (.slice (some ⟨w.heap.size, 0, none⟩) 1 1)).run Tryz.prog (w.alloc (.cells #[.int .u8 (48 + (k : Int) % 10)] 5)) = .ok (.string (str [dgc (k % 10)])) (w.alloc (.cells #[.int .u8 (48 + (k : Int) % 10)] 5)) := by
  have h := run_convert_bytes_arg (P := Tryz.prog) (w.alloc (.cells #[.int .u8 (48 + (k : Int) % 10)] 5)) 22 5 Tryz.underlying22 Tryz.underlying5 w.heap.size 0 1 1 [48 + (k : Int) % 10] rfl (by
    intro i hi
    obtain rfl : i = 0 := by omega
    simp) 9 Tryz.underlying9
  rw [h]
  have e : strOfNums [48 + (k : Int) % 10] = str [dgc (k % 10)] := by
    have : (48 + (k : Int) % 10).toNat = 48 + k % 10 := by omega
    simp [strOfNums, str, this, dgc]
  rw [e]
theorem dd_size {k : Nat} (h : k ≤ 4611686018427387904) : (Lib.decDigits k).length ≤ 19 := by
  rw [Lib.decDigits_length]
  exact (pd_digits 19 k (Nat.lt_of_le_of_lt h (by decide)) (by decide)).1
set_option maxHeartbeats 1000000 in
theorem rdec_all (k : Nat) : k ≤ 4611686018427387904 → ∀ w,
    Calls Tryz.prog 89 #[.int .i64 k] w fun e w' => e = .returned (.string (str (Lib.decDigits k))) ∧ Gr w w' := by
  induction k using Nat.strongRecOn with
  | _ k ih =>
    intro hk w
    have C := conv_dg k w
    by_cases h10 : k < 10
    · have E := dd_one h10
      rw [Nat.mod_eq_of_lt h10, ← E] at C
      have h0 : (0 : Int) ≤ k := by omega
      have h1 : (k : Int) < 10 := by omega
      have h2 : ¬ (10 : Int) ≤ k := by omega
      generalize Lib.decDigits k = d at *
      clear E ih
      go_enter Tryz.func89, Tryz.ntmps89
      go_wp2
      go_ret
      exact ⟨rfl, (by repeat' (first | (with_reducible exact Gr.refl _) | (with_reducible assumption) | (with_reducible refine Gr.drewN ?_ _) | (with_reducible refine Gr.drew ?_) | (with_reducible refine Gr.alloc ?_ _) | (with_reducible refine Gr.setCell ?_ ?_ _) | (with_reducible refine Gr.grow ?_ _ _) | (refine Gr.step ?_ (by with_reducible assumption)) | go_size))⟩
    · have E := dd_step h10
      have IH := Lib.hid (ih (k / 10) (by omega) (by omega))
      have hl := dd_size (k := k / 10) (by omega)
      have S := add_str (Lib.decDigits (k / 10)) [dgc (k % 10)] (by rw [List.length_singleton]; omega)
      rw [← E] at S
      rw [show ((k / 10 : Nat) : Int) = (k : Int) / 10 by omega] at IH
      have h0 : (0 : Int) ≤ k := by omega
      have h1 : (k : Int) ≤ 4611686018427387904 := by omega
      have h2 : (10 : Int) ≤ k := by omega
      generalize Lib.decDigits k = d at *
      generalize Lib.decDigits (k / 10) = d1 at *
      generalize [dgc (k % 10)] = d2 at *
      clear E ih hl
      go_enter Tryz.func89, Tryz.ntmps89
      go_wp2_with (go_at_call 89; refine (IH.out _).mono ?_; rintro e w1 ⟨rfl, hg1⟩)
      go_ret
      exact ⟨rfl, (by repeat' (first | (with_reducible exact Gr.refl _) | (with_reducible assumption) | (with_reducible refine Gr.drewN ?_ _) | (with_reducible refine Gr.drew ?_) | (with_reducible refine Gr.alloc ?_ _) | (with_reducible refine Gr.setCell ?_ ?_ _) | (with_reducible refine Gr.grow ?_ _ _) | (refine Gr.step ?_ (by with_reducible assumption)) | go_size))⟩
end Go.Proofs.YtjpjnbgfodlkcaaGreatDoor
