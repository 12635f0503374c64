/- Int; Floor and Ceil. -/
import Derived.Test.YtoaboflepfmkpaaGreatDoorFo
import Derived.Test.YtoaboflepfmkpaaGreatDoorNg
import Derived.WalkKit
import Derived.WalkSpells
import Derived.WalkLawsBesides
import Derived.WalkSmall
import Derived.Handy
import Derived.BigQuiet
import Derived.Deep.QuietTactic
import Derived.Deep.RegionHeld3
import Derived.Deep.DeepFit
import Derived.Below
import Derived.Lib.Hide
import Derived.Lib.QuietBelow
import Derived.Deep.DeepCutAuto
namespace Go.Proofs.YtoaboflepfmkpaaGreatDoor
open Go Go.RowKit Go.Sort
set_option maxRecDepth 100000
set_option linter.unusedVariables false
theorem lit_three (w : World) : Num (w.alloc (.cells #[.int .i64 0, .int .i64 0, .int .i64 4] 3)) (.slice (some ⟨w.heap.size, 0, none⟩) 3 3) 4611686018427387904 := by
  unfold Num
  have e : nd 4611686018427387904 = [0, 0, 4] := by
    rw [nd_pos (by omega), nd_pos (by omega), nd_pos (by omega), show 4611686018427387904 / 1073741824 / 1073741824 / 1073741824 = 0 from rfl, nd_zero]
  rw [e]
  refine ⟨_, 3, rfl, Nat.le_refl _, by omega, fun i hi => ⟨w.heap.size, 0, rfl, trivial, ?_⟩⟩
  have : i = 0 ∨ i = 1 ∨ i = 2 := by simp at hi; omega
  rcases this with rfl | rfl | rfl <;> simp
theorem shl_at (x y z : Int) (hy : 0 ≤ y) (h : IntKind.i64.wrap (x * 2 ^ min y.toNat 64) = z) (w : World) : (Op.shift .shl .i64 x .i64 y).run Tryz.prog w = .ok (.int .i64 z) w := by
  unfold Op.shift
  rw [if_neg (by omega), show IntKind.i64.bits = 64 from rfl]
  show Result.ok _ _ = _
  rw [h]
/-- an int, or ErrRange -/
def IntRes (w : World) (N : Nat) (e : Ending) (w' : World) : Prop :=
  ∃ z er : Int, e = .returned (.tuple #[.int .i64 z, .int .i64 er]) ∧ ((N ≤ 4611686018427387904 ∧ z = N ∧ er = 0) ∨ (4611686018427387904 < N ∧ z = 0 ∧ er = 1)) ∧ 0 ≤ z ∧ z ≤ 4611686018427387904 ∧ Gr w w'
set_option maxHeartbeats 2000000 in
theorem int_any {N : Nat} (v : Value) (w : World) (h : Num w v N) (hN : (nd N).length ≤ 256) :
    Calls Tryz.prog 66 #[v] w (IntRes w N) := by
  have HV := Lib.hid (num_valid h hN)
  have HC := Lib.hid (cmp_any (A := N) (B := 4611686018427387904) v _ _ (h.gr (Gr.alloc (Gr.refl _) _)) (lit_three w) (by omega))
  have HN := Lib.hid h
  obtain ⟨a, c, rfl⟩ := num_slice h
  clear h
  by_cases hle : N ≤ 4611686018427387904
  · have hl3 : (nd N).length ≤ 3 := (nd_len N 3).2 (by omega)
    have HC1 : Hid (ncmp N 4611686018427387904 ≤ 0) := Lib.hid (by rcases Nat.eq_or_lt_of_le hle with h | h; rw [h, ncmp_eq]; omega; rw [ncmp_lt h]; omega)
    have HLE := Lib.hid hle
    clear hle
    go_enter Tryz.func66, Tryz.ntmps66
    go_wp2_with fail
    refine HV.out.mono ?_
    rintro e w' ⟨rfl, rfl⟩
    go_wp2_with fail
    refine HC.out.mono ?_
    rintro e w1 ⟨rfl, hg⟩
    have d : decide (0 < ncmp N 4611686018427387904) = false := by have := HC1.out; simpa using this
    have hG : Gr w w1 := (Gr.alloc (Gr.refl w) _).step hg
    have HN1 := Lib.hid (HN.out.gr hG)
    clear hg
    go_wp2_with fail
    go_loopw [5, 17] (fun sv s wr => ∃ k : Nat, s = .int .i64 k ∧ sv = .int .i64 (nv ((nd N).take k) : Nat) ∧ k ≤ (nd N).length ∧ Gr w1 wr) (fun _ s _ => (nd N).length - (intOf s).toNat)
    case atStart => exact ⟨0, rfl, by simp [nv], Nat.zero_le _, Gr.refl _⟩
    case round =>
      obtain ⟨k, rfl, rfl, hk, hgr⟩ := hrel
      by_cases hlt : k < (nd N).length
      · have d1 : decide (k < (nd N).length) = true := by simpa using hlt
        obtain ⟨b, off, rfl, -, hc⟩ := (HN1.out.gr hgr).at' hlt
        have hx := lim_getD (lim_nd N) k
        have hts := take_split' (nd N) k
        have hub : nv ((nd N).take (k + 1)) ≤ N := by
          have := nv_take_drop (nd N) (k + 1) (by omega)
          rw [nv_nd] at this; omega
        rw [hts] at hub
        have HTS := Lib.hid hts
        have hle := HLE.out
        have hsb := nv_lt (lim_take (lim_nd N) k)
        rw [List.length_take, Nat.min_eq_left (Nat.le_of_lt hlt)] at hsb
        generalize (nd N).getD k 0 = x at *
        generalize nv ((nd N).take k) = s at *
        have HSB := Lib.hid hsb
        have hk3 : k = 0 ∨ k = 1 ∨ k = 2 := by omega
        have k1 : (k : Int) < ((nd N).length : Int) := by omega
        have HUB : Hid (s + 1073741824 ^ k * x ≤ 4611686018427387904) := Lib.hid (Nat.le_trans hub hle)
        have x1 : (x : Int) < 1073741824 := by omega
        clear hts hub hle hsb
        rcases hk3 with rfl | rfl | rfl
        · have hsh := shl_at (x : Int) 0 (x) (by omega) (by show IntKind.i64.wrap _ = _; rw [show (2 : Int) ^ min (Int.toNat 0) 64 = 1 from rfl]; rw [IntWalk.i64_in _ (by omega)]; omega)
          have sb : (s : Int) < 1 := by have h := HSB.out; simp only [Nat.reducePow, Nat.pow_zero, Nat.pow_one] at h; omega
          have s0 : (0 : Int) ≤ (s : Int) := by omega
          clear HC1 d hl3 hk hN
          rw [show ((0 : Nat) : Int) = 0 from rfl] at k1 ⊢
          rw [Nat.add_zero] at hc
          go_wp2_with fail
          exact ⟨⟨1, rfl, by rw [HTS.out, Nat.pow_zero, Nat.one_mul]; simp, by omega, hgr⟩, by simp only [intOf]; omega⟩
        · have hsh := shl_at (x : Int) 30 (x * 1073741824) (by omega) (by show IntKind.i64.wrap _ = _; rw [show (2 : Int) ^ min (Int.toNat 30) 64 = 1073741824 from rfl]; rw [IntWalk.i64_in _ (by omega)])
          have sb : (s : Int) < 1073741824 := by have h := HSB.out; simp only [Nat.reducePow, Nat.pow_zero, Nat.pow_one] at h; omega
          have s0 : (0 : Int) ≤ (s : Int) := by omega
          clear HC1 d hl3 hk hN
          rw [show ((1 : Nat) : Int) = 1 from rfl] at k1 ⊢
          go_wp2_with fail
          exact ⟨⟨2, rfl, by rw [HTS.out, Nat.pow_one]; exact iv (by omega), by omega, hgr⟩, by simp only [intOf]; omega⟩
        · have x4 : (x : Int) ≤ 4 := by have h := HUB.out; simp only [Nat.reducePow] at h; omega
          have hsh := shl_at (x : Int) 60 (x * 1152921504606846976) (by omega) (by show IntKind.i64.wrap _ = _; rw [show (2 : Int) ^ min (Int.toNat 60) 64 = 1152921504606846976 from rfl]; rw [IntWalk.i64_in _ (by omega)])
          have sb : (s : Int) < 1152921504606846976 := by have h := HSB.out; simp only [Nat.reducePow, Nat.pow_zero, Nat.pow_one] at h; omega
          have x4 : (x : Int) ≤ 4 := by have h := HUB.out; simp only [Nat.reducePow] at h; omega
          have s0 : (0 : Int) ≤ (s : Int) := by omega
          clear HC1 d hl3 hk hN
          rw [show ((2 : Nat) : Int) = 2 from rfl] at k1 ⊢
          go_wp2_with fail
          exact ⟨⟨3, rfl, by rw [HTS.out, show 1073741824 ^ 2 = 1152921504606846976 from rfl]; exact iv (by omega), by omega, hgr⟩, by simp only [intOf]; omega⟩
      · obtain rfl : k = (nd N).length := by omega
        have hs : nv ((nd N).take (nd N).length) = N := by rw [List.take_of_length_le (Nat.le_refl _), nv_nd]
        rw [hs]
        go_wp2_with fail
        go_ret2
        exact ⟨_, _, rfl, .inl ⟨HLE.out, rfl, rfl⟩, by omega, by have := HLE.out; omega, hG.step hgr⟩
  · have HC1 : Hid (ncmp N 4611686018427387904 = 1) := Lib.hid (ncmp_gt (by omega))
    have HLE : Hid (4611686018427387904 < N) := Lib.hid (by omega)
    clear hle
    go_enter Tryz.func66, Tryz.ntmps66
    go_wp2_with fail
    refine HV.out.mono ?_
    rintro e w' ⟨rfl, rfl⟩
    go_wp2_with fail
    refine HC.out.mono ?_
    rintro e w1 ⟨rfl, hg⟩
    rw [HC1.out]
    have hG : Gr w w1 := (Gr.alloc (Gr.refl w) _).step hg
    go_wp2_with fail
    go_ret2
    exact ⟨_, _, rfl, .inr ⟨HLE.out, rfl, rfl⟩, by omega, by omega, hG⟩
/-- an int with the sign x, or ErrRange -/
def RndRes (w : World) (x : Bool) (M : Nat) (e : Ending) (w' : World) : Prop :=
  ∃ z er : Int, e = .returned (.tuple #[.int .i64 z, .int .i64 er]) ∧ ((M ≤ 4611686018427387904 ∧ z = sgn x M ∧ er = 0) ∨ (4611686018427387904 < M ∧ z = 0 ∧ er = 1)) ∧ Gr w w'
theorem len_one' : (nd 1).length ≤ 64 := by rw [nd_one (x := 1) (by omega) (by omega)]; simp
set_option maxHeartbeats 2000000 in
theorem rounded_any {A B : Nat} (x aw : Bool) (va vb : Value) (w : World) (hA : Num w va A) (hB : Num w vb B) (hB0 : 0 < B) (hx : x = true → 0 < A) (lA : (nd A).length ≤ 64) (lB : (nd B).length ≤ 64) :
    Calls Tryz.prog 74 #[.agg #[.bool x, va, vb], .bool aw] w (RndRes w x (rnd aw A B)) := by
  have HA := Lib.hid hA
  have HB := Lib.hid hB
  have HB0 := Lib.hid hB0
  have HX : Hid (x = true → 0 < A) := Lib.hid hx
  obtain ⟨aa, ca, rfl⟩ := num_slice hA
  obtain ⟨ab, cb, rfl⟩ := num_slice hB
  have lq : (nd (A / B)).length ≤ 64 := nd_le_len' lA (Nat.div_le_self _ _)
  clear hA hB hB0 hx
  have hX0 := C3.new w (.bool x) (.slice aa (nd A).length ca) (.slice ab (nd B).length cb) 29 w.heap.size rfl
  have hG0 : Gr w (w.alloc (.cells #[.bool x, .slice aa (nd A).length ca, .slice ab (nd B).length cb] 29)) := Gr.alloc (Gr.refl _) _
  cases aw
  · have HM : Hid (rnd false A B = A / B) := Lib.hid rfl
    cases x
    · skip
      go_enter Tryz.func74, Tryz.ntmps74
      go_wp2_with fail
      generalize w.alloc (.cells #[.bool false, .slice aa (nd A).length ca, .slice ab (nd B).length cb] 29) = W0 at *
      refine (fvalid_yes false _ _ _ (HA.out.gr hG0) (HB.out.gr hG0) HB0.out (fun h => by cases h) lA lB).mono ?_
      rintro e w1 ⟨rfl, hg⟩
      have hX := hX0.gr hg
      have hG := hG0.step hg
      obtain ⟨xc0, xc1, xc2, -, -, -, -, -⟩ := id hX
      clear hX0 hG0 hg
      go_wp2_with fail
      refine (divmod_any _ _ _ (HA.out.gr hG) (HB.out.gr hG) HB0.out (by omega) (by omega)).mono ?_
      rintro e w2 ⟨vq, vr, rfl, hq, hr, hg⟩
      obtain ⟨ar, cr, rfl⟩ := num_slice hr
      have HQ := Lib.hid hq
      replace hX := hX.gr hg
      replace hG := hG.step hg
      clear xc0 xc1 xc2 hq hr hg
      obtain ⟨xc0, xc1, xc2, -, -, -, -, -⟩ := id hX
      go_wp2_with fail
      refine (int_any _ _ HQ.out (by omega)).mono ?_
      rintro e w4 ⟨z, er, rfl, hz, hz0, hz1, hg⟩
      replace hX := hX.gr hg
      replace hG := hG.step hg
      clear xc0 xc1 xc2 hg
      obtain ⟨xc0, xc1, xc2, -, -, -, -, -⟩ := id hX
      have HZ := Lib.hid hz
      clear hz
      go_wp2_with fail
      go_ret2
      refine ⟨_, _, rfl, ?_, hG⟩
      have hz := HZ.out
      unfold sgn
      simp only [if_true, if_false, Bool.false_eq_true]
      rw [HM.out]
      generalize A / B = q at hz ⊢
      omega
    · skip
      go_enter Tryz.func74, Tryz.ntmps74
      go_wp2_with fail
      generalize w.alloc (.cells #[.bool true, .slice aa (nd A).length ca, .slice ab (nd B).length cb] 29) = W0 at *
      refine (fvalid_yes true _ _ _ (HA.out.gr hG0) (HB.out.gr hG0) HB0.out (fun _ => HX.out trivial) lA lB).mono ?_
      rintro e w1 ⟨rfl, hg⟩
      have hX := hX0.gr hg
      have hG := hG0.step hg
      obtain ⟨xc0, xc1, xc2, -, -, -, -, -⟩ := id hX
      clear hX0 hG0 hg
      go_wp2_with fail
      refine (divmod_any _ _ _ (HA.out.gr hG) (HB.out.gr hG) HB0.out (by omega) (by omega)).mono ?_
      rintro e w2 ⟨vq, vr, rfl, hq, hr, hg⟩
      obtain ⟨ar, cr, rfl⟩ := num_slice hr
      have HQ := Lib.hid hq
      replace hX := hX.gr hg
      replace hG := hG.step hg
      clear xc0 xc1 xc2 hq hr hg
      obtain ⟨xc0, xc1, xc2, -, -, -, -, -⟩ := id hX
      go_wp2_with fail
      refine (int_any _ _ HQ.out (by omega)).mono ?_
      rintro e w4 ⟨z, er, rfl, hz, hz0, hz1, hg⟩
      replace hX := hX.gr hg
      replace hG := hG.step hg
      clear xc0 xc1 xc2 hg
      obtain ⟨xc0, xc1, xc2, -, -, -, -, -⟩ := id hX
      have HZ := Lib.hid hz
      clear hz
      go_wp2_with fail
      go_ret2
      refine ⟨_, _, rfl, ?_, hG⟩
      have hz := HZ.out
      unfold sgn
      simp only [if_true, if_false, Bool.false_eq_true]
      rw [HM.out]
      generalize A / B = q at hz ⊢
      omega
  · by_cases h0 : 0 < A % B
    · have HM : Hid (rnd true A B = A / B + 1) := Lib.hid (by unfold rnd; rw [decide_eq_true h0]; rfl)
      have hrl : 0 < (nd (A % B)).length := by rw [nd_pos h0]; simp
      have dR : decide (0 < (nd (A % B)).length) = true := by simpa using hrl
      clear h0 hrl
      cases x
      · skip
        go_enter Tryz.func74, Tryz.ntmps74
        go_wp2_with fail
        generalize w.alloc (.cells #[.bool false, .slice aa (nd A).length ca, .slice ab (nd B).length cb] 29) = W0 at *
        refine (fvalid_yes false _ _ _ (HA.out.gr hG0) (HB.out.gr hG0) HB0.out (fun h => by cases h) lA lB).mono ?_
        rintro e w1 ⟨rfl, hg⟩
        have hX := hX0.gr hg
        have hG := hG0.step hg
        obtain ⟨xc0, xc1, xc2, -, -, -, -, -⟩ := id hX
        clear hX0 hG0 hg
        go_wp2_with fail
        refine (divmod_any _ _ _ (HA.out.gr hG) (HB.out.gr hG) HB0.out (by omega) (by omega)).mono ?_
        rintro e w2 ⟨vq, vr, rfl, hq, hr, hg⟩
        obtain ⟨ar, cr, rfl⟩ := num_slice hr
        have HQ := Lib.hid hq
        replace hX := hX.gr hg
        replace hG := hG.step hg
        clear xc0 xc1 xc2 hq hr hg
        obtain ⟨xc0, xc1, xc2, -, -, -, -, -⟩ := id hX
        go_wp2_with fail
        have HO := Lib.hid (num_lit w2 1 1 rfl (by omega) (by omega))
        refine (add_129 _ _ _ (HQ.out.gr (Gr.alloc (Gr.refl _) _)) HO.out (by omega) (by rw [nd_one (by omega) (by omega)]; simp)).mono ?_
        rintro e w3 ⟨vs, rfl, hs, hg⟩
        have hg3 := (Gr.alloc (Gr.refl w2) (.cells #[.int .i64 1] 3)).step hg
        replace hX := hX.gr hg3
        replace hG := hG.step hg3
        clear xc0 xc1 xc2 hg hg3
        obtain ⟨xc0, xc1, xc2, -, -, -, -, -⟩ := id hX
        go_wp2_with fail
        refine (int_any _ _ hs (by have := nd_add' (A := A / B) (B := 1) (k := 64) (by omega) len_one'; omega)).mono ?_
        rintro e w4 ⟨z, er, rfl, hz, hz0, hz1, hg⟩
        replace hX := hX.gr hg
        replace hG := hG.step hg
        clear xc0 xc1 xc2 hg
        obtain ⟨xc0, xc1, xc2, -, -, -, -, -⟩ := id hX
        have HZ := Lib.hid hz
        clear hz
        go_wp2_with fail
        go_ret2
        refine ⟨_, _, rfl, ?_, hG⟩
        have hz := HZ.out
        unfold sgn
        simp only [if_true, if_false, Bool.false_eq_true]
        rw [HM.out]
        generalize A / B = q at hz ⊢
        omega
      · skip
        go_enter Tryz.func74, Tryz.ntmps74
        go_wp2_with fail
        generalize w.alloc (.cells #[.bool true, .slice aa (nd A).length ca, .slice ab (nd B).length cb] 29) = W0 at *
        refine (fvalid_yes true _ _ _ (HA.out.gr hG0) (HB.out.gr hG0) HB0.out (fun _ => HX.out trivial) lA lB).mono ?_
        rintro e w1 ⟨rfl, hg⟩
        have hX := hX0.gr hg
        have hG := hG0.step hg
        obtain ⟨xc0, xc1, xc2, -, -, -, -, -⟩ := id hX
        clear hX0 hG0 hg
        go_wp2_with fail
        refine (divmod_any _ _ _ (HA.out.gr hG) (HB.out.gr hG) HB0.out (by omega) (by omega)).mono ?_
        rintro e w2 ⟨vq, vr, rfl, hq, hr, hg⟩
        obtain ⟨ar, cr, rfl⟩ := num_slice hr
        have HQ := Lib.hid hq
        replace hX := hX.gr hg
        replace hG := hG.step hg
        clear xc0 xc1 xc2 hq hr hg
        obtain ⟨xc0, xc1, xc2, -, -, -, -, -⟩ := id hX
        go_wp2_with fail
        have HO := Lib.hid (num_lit w2 1 1 rfl (by omega) (by omega))
        refine (add_129 _ _ _ (HQ.out.gr (Gr.alloc (Gr.refl _) _)) HO.out (by omega) (by rw [nd_one (by omega) (by omega)]; simp)).mono ?_
        rintro e w3 ⟨vs, rfl, hs, hg⟩
        have hg3 := (Gr.alloc (Gr.refl w2) (.cells #[.int .i64 1] 3)).step hg
        replace hX := hX.gr hg3
        replace hG := hG.step hg3
        clear xc0 xc1 xc2 hg hg3
        obtain ⟨xc0, xc1, xc2, -, -, -, -, -⟩ := id hX
        go_wp2_with fail
        refine (int_any _ _ hs (by have := nd_add' (A := A / B) (B := 1) (k := 64) (by omega) len_one'; omega)).mono ?_
        rintro e w4 ⟨z, er, rfl, hz, hz0, hz1, hg⟩
        replace hX := hX.gr hg
        replace hG := hG.step hg
        clear xc0 xc1 xc2 hg
        obtain ⟨xc0, xc1, xc2, -, -, -, -, -⟩ := id hX
        have HZ := Lib.hid hz
        clear hz
        go_wp2_with fail
        go_ret2
        refine ⟨_, _, rfl, ?_, hG⟩
        have hz := HZ.out
        unfold sgn
        simp only [if_true, if_false, Bool.false_eq_true]
        rw [HM.out]
        generalize A / B = q at hz ⊢
        omega
    · have HM : Hid (rnd true A B = A / B) := Lib.hid (by unfold rnd; rw [decide_eq_false h0]; rfl)
      have dR : decide (0 < (nd (A % B)).length) = false := by rw [show A % B = 0 by omega, nd_zero]; rfl
      clear h0
      cases x
      · skip
        go_enter Tryz.func74, Tryz.ntmps74
        go_wp2_with fail
        generalize w.alloc (.cells #[.bool false, .slice aa (nd A).length ca, .slice ab (nd B).length cb] 29) = W0 at *
        refine (fvalid_yes false _ _ _ (HA.out.gr hG0) (HB.out.gr hG0) HB0.out (fun h => by cases h) lA lB).mono ?_
        rintro e w1 ⟨rfl, hg⟩
        have hX := hX0.gr hg
        have hG := hG0.step hg
        obtain ⟨xc0, xc1, xc2, -, -, -, -, -⟩ := id hX
        clear hX0 hG0 hg
        go_wp2_with fail
        refine (divmod_any _ _ _ (HA.out.gr hG) (HB.out.gr hG) HB0.out (by omega) (by omega)).mono ?_
        rintro e w2 ⟨vq, vr, rfl, hq, hr, hg⟩
        obtain ⟨ar, cr, rfl⟩ := num_slice hr
        have HQ := Lib.hid hq
        replace hX := hX.gr hg
        replace hG := hG.step hg
        clear xc0 xc1 xc2 hq hr hg
        obtain ⟨xc0, xc1, xc2, -, -, -, -, -⟩ := id hX
        go_wp2_with fail
        refine (int_any _ _ HQ.out (by omega)).mono ?_
        rintro e w4 ⟨z, er, rfl, hz, hz0, hz1, hg⟩
        replace hX := hX.gr hg
        replace hG := hG.step hg
        clear xc0 xc1 xc2 hg
        obtain ⟨xc0, xc1, xc2, -, -, -, -, -⟩ := id hX
        have HZ := Lib.hid hz
        clear hz
        go_wp2_with fail
        go_ret2
        refine ⟨_, _, rfl, ?_, hG⟩
        have hz := HZ.out
        unfold sgn
        simp only [if_true, if_false, Bool.false_eq_true]
        rw [HM.out]
        generalize A / B = q at hz ⊢
        omega
      · skip
        go_enter Tryz.func74, Tryz.ntmps74
        go_wp2_with fail
        generalize w.alloc (.cells #[.bool true, .slice aa (nd A).length ca, .slice ab (nd B).length cb] 29) = W0 at *
        refine (fvalid_yes true _ _ _ (HA.out.gr hG0) (HB.out.gr hG0) HB0.out (fun _ => HX.out trivial) lA lB).mono ?_
        rintro e w1 ⟨rfl, hg⟩
        have hX := hX0.gr hg
        have hG := hG0.step hg
        obtain ⟨xc0, xc1, xc2, -, -, -, -, -⟩ := id hX
        clear hX0 hG0 hg
        go_wp2_with fail
        refine (divmod_any _ _ _ (HA.out.gr hG) (HB.out.gr hG) HB0.out (by omega) (by omega)).mono ?_
        rintro e w2 ⟨vq, vr, rfl, hq, hr, hg⟩
        obtain ⟨ar, cr, rfl⟩ := num_slice hr
        have HQ := Lib.hid hq
        replace hX := hX.gr hg
        replace hG := hG.step hg
        clear xc0 xc1 xc2 hq hr hg
        obtain ⟨xc0, xc1, xc2, -, -, -, -, -⟩ := id hX
        go_wp2_with fail
        refine (int_any _ _ HQ.out (by omega)).mono ?_
        rintro e w4 ⟨z, er, rfl, hz, hz0, hz1, hg⟩
        replace hX := hX.gr hg
        replace hG := hG.step hg
        clear xc0 xc1 xc2 hg
        obtain ⟨xc0, xc1, xc2, -, -, -, -, -⟩ := id hX
        have HZ := Lib.hid hz
        clear hz
        go_wp2_with fail
        go_ret2
        refine ⟨_, _, rfl, ?_, hG⟩
        have hz := HZ.out
        unfold sgn
        simp only [if_true, if_false, Bool.false_eq_true]
        rw [HM.out]
        generalize A / B = q at hz ⊢
        omega
end Go.Proofs.YtoaboflepfmkpaaGreatDoor
