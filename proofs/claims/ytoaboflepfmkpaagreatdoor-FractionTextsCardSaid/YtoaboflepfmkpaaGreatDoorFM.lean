/- Several texts in one. -/
import Derived.Test.YtoaboflepfmkpaaGreatDoorFo
import Derived.Test.YtoaboflepfmkpaaGreatDoorNg
import Derived.WalkKit
import Derived.WalkSpells
import Derived.WalkLawsBesides
import Derived.WalkSmall
import Derived.Handy
import Derived.BigQuiet
import Derived.Deep.QuietTactic
import Derived.Deep.RegionHeld3
import Derived.Deep.DeepFit
import Derived.Below
import Derived.Lib.Hide
import Derived.Lib.QuietBelow
import Derived.Test.YtoaboflepfmkpaaGreatDoorFs
import Derived.Deep.DeepCutAuto
import Derived.Test.YtoaboflepfmkpaaGreatDoorFt
/- Results with and without an error; whole numbers as fractions. -/
namespace Go.Proofs.YtoaboflepfmkpaaGreatDoor
open Go Go.RowKit Go.Sort
set_option maxRecDepth 100000
set_option linter.unusedVariables false
theorem whole_num (N : Nat) : (rat false N 1).num.natAbs = N ∧ (rat false N 1).den = 1 := by
  rw [rat_num_abs (by omega), rat_den (by omega), Nat.gcd_one_right]
  exact ⟨Nat.div_one _, rfl⟩
theorem whole_neg (N : Nat) : decide ((rat false N 1).num < 0) = false := by rw [rat_neg (by omega)]; rfl
theorem whole_add (M N : Nat) : rat false M 1 + rat false N 1 = rat false (M + N) 1 := by rw [rat_add (by omega) (by omega), rat_same]; simp
theorem whole_mul (M N : Nat) : rat false M 1 * rat false N 1 = rat false (M * N) 1 := by rw [rat_mul]; rfl
theorem whole_sub {M N : Nat} (h : N ≤ M) : rat false M 1 - rat false N 1 = rat false (M - N) 1 := by
  have := whole_add (M - N) N
  rw [Nat.sub_add_cancel h] at this
  rw [← this, Rat.add_sub_cancel]
theorem whole_div {M : Nat} (h : 0 < M) : rat false M 1 / rat false M 1 = rat false 1 1 := by
  rw [Rat.div_def, Rat.mul_inv_cancel _ (fun e => by have := (rat_eq_zero (x := false) (A := M) (B := 1) (by omega)).1 e; omega)]
  rfl
theorem len_one : (nd 1).length ≤ 64 := by rw [nd_one (x := 1) (by omega) (by omega)]; simp
theorem whole_bd {N : Nat} : Bd 64 (rat false N 1) ↔ (nd N).length ≤ 64 := by
  unfold Bd
  rw [(whole_num N).1, (whole_num N).2]
  exact ⟨fun h => h.1, fun h => ⟨h, len_one⟩⟩
theorem whole_fra {w : World} {vn vd : Value} {N : Nat} (hn : Num w vn N) (hd : Num w vd 1) (hl : (nd N).length ≤ 64) : Fra w (.agg #[.bool false, vn, vd]) (rat false N 1) :=
  ⟨false, vn, vd, N, 1, rfl, hn, hd, by omega, (fun h => by cases h), hl, len_one, rfl⟩
theorem whole_red {w : World} {vn vd : Value} {N : Nat} (hn : Num w vn N) (hd : Num w vd 1) : Red w (.agg #[.bool false, vn, vd]) (rat false N 1) :=
  ⟨vn, vd, by rw [whole_neg], by rw [(whole_num N).1]; exact hn, by rw [(whole_num N).2]; exact hd⟩
theorem FRes.no {w w' : World} {r : Rat} {e : Ending} (h : FRes w r e w') (hb : ¬ Bd 64 r) : e = .returned (.tuple #[.agg #[.bool false, .slice none 0 0, .slice none 0 0], .int .i64 5]) ∧ Gr w w' := by
  obtain ⟨v, er, rfl, ⟨h1, -⟩ | ⟨-, rfl, rfl⟩, hg⟩ := h
  · exact absurd h1 hb
  · exact ⟨rfl, hg⟩
theorem FRes.yes {w w' : World} {r : Rat} {e : Ending} (h : FRes w r e w') (hb : Bd 64 r) : ∃ (b : Bool) (a1 a2 : Option Addr) (n1 n2 c1 c2 : Nat), e = .returned (.tuple #[.agg #[.bool b, .slice a1 n1 c1, .slice a2 n2 c2], .int .i64 0]) ∧ Red w' (.agg #[.bool b, .slice a1 n1 c1, .slice a2 n2 c2]) r ∧ Gr w w' := by
  obtain ⟨b, a1, a2, n1, n2, c1, c2, er, rfl, h, hg⟩ := h.form
  rcases h with ⟨-, rfl, h3⟩ | ⟨h1, -⟩
  · exact ⟨b, a1, a2, n1, n2, c1, c2, rfl, h3, hg⟩
  · exact absurd hb h1
end Go.Proofs.YtoaboflepfmkpaaGreatDoor
/- From. -/
namespace Go.Proofs.YtoaboflepfmkpaaGreatDoor
open Go Go.RowKit Go.Sort
set_option maxRecDepth 100000
set_option linter.unusedVariables false
/-- what the loop of From keeps -/
def FmRel (w : World) (X : Nat) (s v : Value) (wr : World) : Prop :=
  ∃ (r : Nat) (l : List Nat), s = .int .i64 r ∧ r ≤ X ∧ nd X = l ++ nd r ∧ Own wr w.heap.size v l ∧ Gr w wr
set_option maxHeartbeats 1000000 in
theorem natfrom_any (X : Nat) (w : World) (hX : X < 9223372036854775808) :
    Calls Tryz.prog 64 #[.int .i64 (X : Nat)] w fun e w' => ∃ v, e = .returned (.tuple #[v, .int .i64 0]) ∧ Num w' v X ∧ Gr w w' := by
  have hXl : (nd X).length ≤ 3 := (nd_len X 3).2 (by omega)
  go_enter Tryz.func64, Tryz.ntmps64
  go_wp2_with fail
  go_loopw [0, 4] (fun s v wr => FmRel w X s v wr) (fun s _ _ => (intOf s).toNat)
  case atStart => exact ⟨X, [], rfl, Nat.le_refl _, rfl, Own.nil _ _, Gr.refl _⟩
  case round =>
    obtain ⟨r, l, rfl, hr, hnd, hown, hgr⟩ := hrel
    by_cases h0 : 0 < r
    · have hnd2 := hnd
      rw [nd_pos h0] at hnd2
      have hll : l.length ≤ 3 := by rw [hnd] at hXl; simp at hXl; omega
      have r0 : (0 : Int) < (r : Int) := by omega
      have d0 : decide (0 < r) = true := by simpa using h0
      have r1 : (r : Int) < 9223372036854775808 := by omega
      obtain ⟨d, hd⟩ : ∃ d : Nat, d = r % 1073741824 := ⟨_, rfl⟩
      obtain ⟨q, hq⟩ : ∃ q : Nat, q = r / 1073741824 := ⟨_, rfl⟩
      rw [← hd, ← hq] at hnd2
      have e0 : bits .and .i64 (r : Int) 1073741823 = (d : Int) := by rw [and30]; omega
      have e2 : (r : Int) / 1073741824 = (q : Int) := by omega
      have d1 : (d : Int) < 1073741824 := by omega
      have q1 : q < r := by omega
      have HND := Lib.hid hnd2
      have HR0 := Lib.hid hr
      have hown0 := Lib.hid hown
      obtain ⟨ti, hi1, hi2, hi3, hi4⟩ := intInfo
      unfold Own at hown
      clear hnd hnd2 hd hq hr
      go_wp2_with (at_builtin; refine wpList_append_own_at _ rfl _ _ 27 rfl w.heap.size 3 ti (.int .i64 0) 1 8 Tryz.underlying27 hi1 hi2 hi3 hi4 rfl (by decide) _ _ _ rfl (hown.alloc _) ⟨wr.heap.size, 0, none⟩ 1 1 [.int .i64 d] rfl rfl (cell_one_new _ _ _) (by simp [Value.oneCell']) (by unfold maxLen; omega) (by omega) (by have := Gr.size hgr; simp; omega) ?_; intro v' w2 hown2 hgrow hnil hloc)
      clear hnil hloc
      refine ⟨⟨q, l ++ [d], rfl, by have := HR0.out; omega, by rw [HND.out]; simp, ?_, ?_⟩, ?_⟩
      · unfold Own
        rw [List.length_append, List.map_append]
        exact hown2
      · exact Gr.grown (by repeat' (first | (with_reducible exact Gr.refl _) | (with_reducible assumption) | (with_reducible refine Gr.drewN ?_ _) | (with_reducible refine Gr.drew ?_) | (with_reducible refine Gr.alloc ?_ _) | (with_reducible refine Gr.setCell ?_ ?_ _) | (with_reducible refine Gr.grow ?_ _ _) | (refine Gr.step ?_ (by with_reducible assumption)) | go_size)) hgrow (fun k hk => (hown.lt k hk).1)
      · simp only [intOf]; omega
    · obtain rfl : r = 0 := by omega
      rw [nd_zero, List.append_nil] at hnd
      have HN := Lib.hid hnd
      have HO := Lib.hid hown
      clear hnd hown
      go_wp2_with fail
      go_ret2
      exact ⟨_, rfl, HO.out.num HN.out.symm, hgr⟩
theorem natfrom_int (x : Int) (X : Nat) (w : World) (hx : x = X) (hX : X < 9223372036854775808) :
    Calls Tryz.prog 64 #[.int .i64 x] w fun e w' => ∃ v, e = .returned (.tuple #[v, .int .i64 0]) ∧ Num w' v X ∧ Gr w w' := by
  subst hx; exact natfrom_any X w hX
theorem magnitude_any (n : Int) (w : World) (h0 : -9223372036854775808 ≤ n) (h1 : n ≤ 9223372036854775807) :
    Calls Tryz.prog 75 #[.int .i64 n] w fun e w' => ∃ v, e = .returned v ∧ Num w' v n.natAbs ∧ Gr w w' := by
  by_cases hn : 0 ≤ n
  · have d0 : decide (0 ≤ n) = true := by simpa using hn
    have HC := Lib.hid (natfrom_int n n.natAbs w (by omega) (by omega))
    go_enter Tryz.func75, Tryz.ntmps75
    go_wp2_with fail
    refine HC.out.mono ?_
    rintro e w1 ⟨v, rfl, hv, hg⟩
    go_wp2_with fail
    go_ret
    exact ⟨v, rfl, hv, hg⟩
  · have d0 : decide (0 ≤ n) = false := by simpa using hn
    have m1 : IntKind.i64.wrap (n + 1) = n + 1 := IntWalk.i64_in _ (by omega)
    have m2 : IntKind.i64.wrap (-(n + 1)) = -(n + 1) := IntWalk.i64_in _ (by omega)
    have HC := Lib.hid (natfrom_int (-(n + 1)) (n.natAbs - 1) w (by omega) (by omega))
    have hl1 : (nd (n.natAbs - 1)).length ≤ 3 := (nd_len _ 3).2 (by omega)
    have HE : Hid (n.natAbs - 1 + 1 = n.natAbs) := Lib.hid (by omega)
    go_enter Tryz.func75, Tryz.ntmps75
    go_wp2_with fail
    refine HC.out.mono ?_
    rintro e w1 ⟨v, rfl, hv, hg⟩
    have HV := Lib.hid (hv.gr (Gr.alloc (Gr.refl w1) (.cells #[.int .i64 1] 3)))
    have HO := Lib.hid (num_lit w1 1 1 rfl (by omega) (by omega))
    clear hv
    go_wp2_with fail
    refine (add_129 _ _ _ HV.out HO.out (by omega) (by rw [nd_one (by omega) (by omega)]; simp)).mono ?_
    rintro e w2 ⟨u, rfl, hu, hg2⟩
    rw [HE.out] at hu
    go_wp2_with fail
    go_ret
    exact ⟨u, rfl, hu, (hg.alloc _).step hg2⟩
/-- the value of a quotient of two ints -/
def quot (n d : Int) : Rat := rat (decide (n < 0) != decide (d < 0)) n.natAbs d.natAbs
end Go.Proofs.YtoaboflepfmkpaaGreatDoor
/- From of two ints; the sanity check. -/
namespace Go.Proofs.YtoaboflepfmkpaaGreatDoor
open Go Go.RowKit Go.Sort
set_option maxRecDepth 100000
set_option linter.unusedVariables false
set_option maxHeartbeats 1000000 in
theorem ffrom_any (n d : Int) (w : World) (n0 : -9223372036854775808 ≤ n) (n1 : n ≤ 9223372036854775807) (d0 : -9223372036854775808 ≤ d) (d1 : d ≤ 9223372036854775807) (hd : d ≠ 0) :
    Calls Tryz.prog 21 #[.int .i64 n, .int .i64 d] w (FRes w (quot n d)) := by
  unfold quot
  rw [bne_bool]
  have dz : (d == 0) = false := by rw [beq_eq_false_iff_ne]; exact hd
  have lN : (nd n.natAbs).length ≤ 256 := by have := (nd_len n.natAbs 3).2 (by omega); omega
  have lD : (nd d.natAbs).length ≤ 256 := by have := (nd_len d.natAbs 3).2 (by omega); omega
  have hD : 0 < d.natAbs := by omega
  have HD := Lib.hid hD
  clear hD hd
  have hR0 := C3.new w (.bool false) (.slice none 0 0) (.slice none 0 0) 29 w.heap.size rfl
  have hG0 : Gr w (w.alloc (.cells #[.bool false, .slice none 0 0, .slice none 0 0] 29)) := Gr.alloc (Gr.refl _) _
  go_enter Tryz.func21, Tryz.ntmps21
  go_wp2_with fail
  generalize w.alloc (.cells #[.bool false, .slice none 0 0, .slice none 0 0] 29) = W0 at *
  refine (magnitude_any n _ n0 n1).mono ?_
  rintro e w1 ⟨v, rfl, hv, hg⟩
  have hR := hR0.gr hg
  have hG := hG0.step hg
  clear hR0 hG0 hg
  go_wp2_with fail
  refine (magnitude_any d _ d0 d1).mono ?_
  rintro e w2 ⟨u, rfl, hu, hg⟩
  replace hv := hv.gr hg
  replace hR := hR.gr hg
  replace hG := hG.step hg
  clear hg
  go_wp2_with fail
  refine (lowest_any _ _ _ _ hv hu HD.out lN lD).mono ?_
  intro e w3 hres
  obtain ⟨b, a1, a2, n1, n2, c1, c2, er, rfl, hres, hg⟩ := hres.form
  have HRES := Lib.hid hres
  replace hR := hR.gr hg
  replace hG := hG.step hg
  have hfl := hR.fill b a1 a2 n1 n2 c1 c2
  obtain ⟨sc0, sc1, sc2, -, -, -, -, -⟩ := hfl.1
  obtain ⟨rc0, rc1, rc2, rf0, rf1, rf2, rlt, -⟩ := id hR
  clear hres hg
  go_wp2_with fail
  refine bodyPost_ret (v := .tuple #[.agg #[.bool b, .slice a1 n1 c1, .slice a2 n2 c2], .int .i64 er]) (by simp [results, Tryz.results21, go_sem, sc0, sc1, sc2]) rfl ?_
  exact ⟨_, er, rfl, HRES.out.imp (fun h => ⟨h.1, h.2.1, hR.red b a1 a2 n1 n2 c1 c2 h.2.2⟩) id, C3.three hG (by omega) _ _ _⟩
theorem quot_64 : (quot (-6) (-4)).num = 3 ∧ (quot (-6) (-4)).den = 2 := by decide +kernel
theorem ftext_32 : ftext (quot (-6) (-4)) = [51, 47, 50] := by
  unfold ftext
  rw [quot_64.1, quot_64.2, dd_one (by omega), dd_one (by omega)]
  rfl
theorem bd_64 : Bd 64 (quot (-6) (-4)) := by
  unfold Bd
  rw [quot_64.1, quot_64.2]
  rw [nd_one (by omega) (by omega), nd_one (by omega) (by omega)]
  simp
set_option maxHeartbeats 1000000 in
theorem fawake_any (w : World) (ht : Tab w) : Calls Tryz.prog 9 #[] w fun e w' => e = .returned (.bool true) ∧ Gr w w' := by
  go_enter Tryz.func9, Tryz.ntmps9
  go_wp2_with fail
  refine (ffrom_any (-6) (-4) w (by omega) (by omega) (by omega) (by omega) (by omega)).mono ?_
  intro e w1 hres
  obtain ⟨b, a1, a2, n1, n2, c1, c2, er, rfl, hres, hg⟩ := hres.form
  obtain ⟨-, rfl, hred⟩ := hres.resolve_right (fun h => h.1 bd_64)
  have HF := Lib.hid ((hred.gr (Gr.alloc (Gr.refl w1) (.cells #[.bool b, .slice a1 n1 c1, .slice a2 n2 c2] 29))).fra bd_64)
  have hG := hg.alloc (.cells #[.bool b, .slice a1 n1 c1, .slice a2 n2 c2] 29)
  have HTX := Lib.hid (ftext_any _ _ HF.out (ht.gr hG))
  clear hres hred hg ht
  go_wp2_with fail
  refine HTX.out.mono ?_
  rintro e w2 ⟨rfl, hg⟩
  rw [ftext_32]
  go_wp2_with fail
  go_ret
  exact ⟨ret_bool (by rw [Lib.toList_data, str_data]; rfl), hG.step hg⟩
end Go.Proofs.YtoaboflepfmkpaaGreatDoor
/- Compare. -/
namespace Go.Proofs.YtoaboflepfmkpaaGreatDoor
open Go Go.RowKit Go.Sort
set_option maxRecDepth 100000
set_option linter.unusedVariables false
set_option maxHeartbeats 2000000 in
theorem fcompare_any {a b : Rat} (v u : Value) (w : World) (ha : Fra w v a) (hb : Fra w u b) :
    Calls Tryz.prog 18 #[v, u] w fun e w' => e = .returned (.tuple #[.int .i64 (rcmp a b), .int .i64 0]) ∧ Gr w w' := by
  obtain ⟨x, va, vb, A, B, rfl, hA, hB, hB0, hx, lA, lB, rfl⟩ := ha
  obtain ⟨y, vc, vd, C, D, rfl, hC, hD, hD0, hy, lC, lD, rfl⟩ := hb
  have lp : (nd (A * D)).length ≤ 1000000 := by have := nd_mul' lA lD; omega
  have lq : (nd (C * B)).length ≤ 1000000 := by have := nd_mul' lC lB; omega
  cases x
  · cases y
    · skip
      have HV : Hid (rcmp (rat false A B) (rat false C D) = fcmp false false (A * D) (C * B)) := Lib.hid (rat_fcmp hB0 hD0 hx hy)
      have HA := Lib.hid hA
      have HB := Lib.hid hB
      have HC := Lib.hid hC
      have HD := Lib.hid hD
      obtain ⟨aa, ca, rfl⟩ := num_slice hA
      obtain ⟨ab, cb, rfl⟩ := num_slice hB
      obtain ⟨ac, cc, rfl⟩ := num_slice hC
      obtain ⟨ad, cd, rfl⟩ := num_slice hD
      clear hA hB hC hD
      have hX0 := C3.new w (.bool false) (.slice aa (nd A).length ca) (.slice ab (nd B).length cb) 29 w.heap.size rfl
      have hX1 := hX0.gr (Gr.alloc (Gr.refl _) (.cells #[.bool false, .slice ac (nd C).length cc, .slice ad (nd D).length cd] 29))
      have hY1 := C3.new (w.alloc (.cells #[.bool false, .slice aa (nd A).length ca, .slice ab (nd B).length cb] 29)) (.bool false) (.slice ac (nd C).length cc) (.slice ad (nd D).length cd) 29 (w.heap.size + 1) (by simp)
      have hG1 : Gr w ((w.alloc (.cells #[.bool false, .slice aa (nd A).length ca, .slice ab (nd B).length cb] 29)).alloc (.cells #[.bool false, .slice ac (nd C).length cc, .slice ad (nd D).length cd] 29)) := (Gr.alloc (Gr.refl _) _).alloc _
      go_enter Tryz.func18, Tryz.ntmps18
      go_wp2_with fail
      clear hX0
      generalize (w.alloc (.cells #[.bool false, .slice aa (nd A).length ca, .slice ab (nd B).length cb] 29)).alloc (.cells #[.bool false, .slice ac (nd C).length cc, .slice ad (nd D).length cd] 29) = W0 at *
      have hX := hX1
      have hY := hY1
      have hG := hG1
      clear hX1 hY1 hG1
      obtain ⟨xc0, xc1, xc2, -, -, -, -, -⟩ := id hX
      obtain ⟨yc0, yc1, yc2, -, -, -, -, -⟩ := id hY
      refine (crossed_any false false _ _ _ _ _ (HA.out.gr hG) (HB.out.gr hG) (HC.out.gr hG) (HD.out.gr hG) lA lB lC lD).mono ?_
      rintro e w3 ⟨vl, vr, rfl, hl, hr, hg⟩
      replace hX := hX.gr hg
      replace hY := hY.gr hg
      replace hG := hG.step hg
      clear xc0 xc1 xc2 yc0 yc1 yc2 hg
      obtain ⟨xc0, xc1, xc2, -, -, -, -, -⟩ := id hX
      obtain ⟨yc0, yc1, yc2, -, -, -, -, -⟩ := id hY
      go_wp2_with fail
      refine (cmp_any (A := A * D) (B := C * B) _ _ _ hl hr lp).mono ?_
      rintro e w4 ⟨rfl, hg⟩
      go_wp2_with fail
      go_ret2
      exact ⟨by rw [HV.out]; rfl, hG.step hg⟩
    · skip
      have HV : Hid (rcmp (rat false A B) (rat true C D) = fcmp false true (A * D) (C * B)) := Lib.hid (rat_fcmp hB0 hD0 hx hy)
      have HA := Lib.hid hA
      have HB := Lib.hid hB
      have HC := Lib.hid hC
      have HD := Lib.hid hD
      obtain ⟨aa, ca, rfl⟩ := num_slice hA
      obtain ⟨ab, cb, rfl⟩ := num_slice hB
      obtain ⟨ac, cc, rfl⟩ := num_slice hC
      obtain ⟨ad, cd, rfl⟩ := num_slice hD
      clear hA hB hC hD
      have hX0 := C3.new w (.bool false) (.slice aa (nd A).length ca) (.slice ab (nd B).length cb) 29 w.heap.size rfl
      have hX1 := hX0.gr (Gr.alloc (Gr.refl _) (.cells #[.bool true, .slice ac (nd C).length cc, .slice ad (nd D).length cd] 29))
      have hY1 := C3.new (w.alloc (.cells #[.bool false, .slice aa (nd A).length ca, .slice ab (nd B).length cb] 29)) (.bool true) (.slice ac (nd C).length cc) (.slice ad (nd D).length cd) 29 (w.heap.size + 1) (by simp)
      have hG1 : Gr w ((w.alloc (.cells #[.bool false, .slice aa (nd A).length ca, .slice ab (nd B).length cb] 29)).alloc (.cells #[.bool true, .slice ac (nd C).length cc, .slice ad (nd D).length cd] 29)) := (Gr.alloc (Gr.refl _) _).alloc _
      go_enter Tryz.func18, Tryz.ntmps18
      go_wp2_with fail
      clear hX0
      generalize (w.alloc (.cells #[.bool false, .slice aa (nd A).length ca, .slice ab (nd B).length cb] 29)).alloc (.cells #[.bool true, .slice ac (nd C).length cc, .slice ad (nd D).length cd] 29) = W0 at *
      have hX := hX1
      have hY := hY1
      have hG := hG1
      clear hX1 hY1 hG1
      obtain ⟨xc0, xc1, xc2, -, -, -, -, -⟩ := id hX
      obtain ⟨yc0, yc1, yc2, -, -, -, -, -⟩ := id hY
      refine (crossed_any false true _ _ _ _ _ (HA.out.gr hG) (HB.out.gr hG) (HC.out.gr hG) (HD.out.gr hG) lA lB lC lD).mono ?_
      rintro e w3 ⟨vl, vr, rfl, hl, hr, hg⟩
      replace hX := hX.gr hg
      replace hY := hY.gr hg
      replace hG := hG.step hg
      clear xc0 xc1 xc2 yc0 yc1 yc2 hg
      obtain ⟨xc0, xc1, xc2, -, -, -, -, -⟩ := id hX
      obtain ⟨yc0, yc1, yc2, -, -, -, -, -⟩ := id hY
      go_wp2_with fail
      go_ret2
      exact ⟨by rw [HV.out]; rfl, hG⟩
  · cases y
    · skip
      have HV : Hid (rcmp (rat true A B) (rat false C D) = fcmp true false (A * D) (C * B)) := Lib.hid (rat_fcmp hB0 hD0 hx hy)
      have HA := Lib.hid hA
      have HB := Lib.hid hB
      have HC := Lib.hid hC
      have HD := Lib.hid hD
      obtain ⟨aa, ca, rfl⟩ := num_slice hA
      obtain ⟨ab, cb, rfl⟩ := num_slice hB
      obtain ⟨ac, cc, rfl⟩ := num_slice hC
      obtain ⟨ad, cd, rfl⟩ := num_slice hD
      clear hA hB hC hD
      have hX0 := C3.new w (.bool true) (.slice aa (nd A).length ca) (.slice ab (nd B).length cb) 29 w.heap.size rfl
      have hX1 := hX0.gr (Gr.alloc (Gr.refl _) (.cells #[.bool false, .slice ac (nd C).length cc, .slice ad (nd D).length cd] 29))
      have hY1 := C3.new (w.alloc (.cells #[.bool true, .slice aa (nd A).length ca, .slice ab (nd B).length cb] 29)) (.bool false) (.slice ac (nd C).length cc) (.slice ad (nd D).length cd) 29 (w.heap.size + 1) (by simp)
      have hG1 : Gr w ((w.alloc (.cells #[.bool true, .slice aa (nd A).length ca, .slice ab (nd B).length cb] 29)).alloc (.cells #[.bool false, .slice ac (nd C).length cc, .slice ad (nd D).length cd] 29)) := (Gr.alloc (Gr.refl _) _).alloc _
      go_enter Tryz.func18, Tryz.ntmps18
      go_wp2_with fail
      clear hX0
      generalize (w.alloc (.cells #[.bool true, .slice aa (nd A).length ca, .slice ab (nd B).length cb] 29)).alloc (.cells #[.bool false, .slice ac (nd C).length cc, .slice ad (nd D).length cd] 29) = W0 at *
      have hX := hX1
      have hY := hY1
      have hG := hG1
      clear hX1 hY1 hG1
      obtain ⟨xc0, xc1, xc2, -, -, -, -, -⟩ := id hX
      obtain ⟨yc0, yc1, yc2, -, -, -, -, -⟩ := id hY
      refine (crossed_any true false _ _ _ _ _ (HA.out.gr hG) (HB.out.gr hG) (HC.out.gr hG) (HD.out.gr hG) lA lB lC lD).mono ?_
      rintro e w3 ⟨vl, vr, rfl, hl, hr, hg⟩
      replace hX := hX.gr hg
      replace hY := hY.gr hg
      replace hG := hG.step hg
      clear xc0 xc1 xc2 yc0 yc1 yc2 hg
      obtain ⟨xc0, xc1, xc2, -, -, -, -, -⟩ := id hX
      obtain ⟨yc0, yc1, yc2, -, -, -, -, -⟩ := id hY
      go_wp2_with fail
      go_ret2
      exact ⟨by rw [HV.out]; rfl, hG⟩
    · skip
      have HV : Hid (rcmp (rat true A B) (rat true C D) = fcmp true true (A * D) (C * B)) := Lib.hid (rat_fcmp hB0 hD0 hx hy)
      have HA := Lib.hid hA
      have HB := Lib.hid hB
      have HC := Lib.hid hC
      have HD := Lib.hid hD
      obtain ⟨aa, ca, rfl⟩ := num_slice hA
      obtain ⟨ab, cb, rfl⟩ := num_slice hB
      obtain ⟨ac, cc, rfl⟩ := num_slice hC
      obtain ⟨ad, cd, rfl⟩ := num_slice hD
      clear hA hB hC hD
      have hX0 := C3.new w (.bool true) (.slice aa (nd A).length ca) (.slice ab (nd B).length cb) 29 w.heap.size rfl
      have hX1 := hX0.gr (Gr.alloc (Gr.refl _) (.cells #[.bool true, .slice ac (nd C).length cc, .slice ad (nd D).length cd] 29))
      have hY1 := C3.new (w.alloc (.cells #[.bool true, .slice aa (nd A).length ca, .slice ab (nd B).length cb] 29)) (.bool true) (.slice ac (nd C).length cc) (.slice ad (nd D).length cd) 29 (w.heap.size + 1) (by simp)
      have hG1 : Gr w ((w.alloc (.cells #[.bool true, .slice aa (nd A).length ca, .slice ab (nd B).length cb] 29)).alloc (.cells #[.bool true, .slice ac (nd C).length cc, .slice ad (nd D).length cd] 29)) := (Gr.alloc (Gr.refl _) _).alloc _
      go_enter Tryz.func18, Tryz.ntmps18
      go_wp2_with fail
      clear hX0
      generalize (w.alloc (.cells #[.bool true, .slice aa (nd A).length ca, .slice ab (nd B).length cb] 29)).alloc (.cells #[.bool true, .slice ac (nd C).length cc, .slice ad (nd D).length cd] 29) = W0 at *
      have hX := hX1
      have hY := hY1
      have hG := hG1
      clear hX1 hY1 hG1
      obtain ⟨xc0, xc1, xc2, -, -, -, -, -⟩ := id hX
      obtain ⟨yc0, yc1, yc2, -, -, -, -, -⟩ := id hY
      refine (crossed_any true true _ _ _ _ _ (HA.out.gr hG) (HB.out.gr hG) (HC.out.gr hG) (HD.out.gr hG) lA lB lC lD).mono ?_
      rintro e w3 ⟨vl, vr, rfl, hl, hr, hg⟩
      replace hX := hX.gr hg
      replace hY := hY.gr hg
      replace hG := hG.step hg
      clear xc0 xc1 xc2 yc0 yc1 yc2 hg
      obtain ⟨xc0, xc1, xc2, -, -, -, -, -⟩ := id hX
      obtain ⟨yc0, yc1, yc2, -, -, -, -, -⟩ := id hY
      go_wp2_with fail
      refine (cmp_any (A := C * B) (B := A * D) _ _ _ hr hl lq).mono ?_
      rintro e w4 ⟨rfl, hg⟩
      go_wp2_with fail
      go_ret2
      exact ⟨by rw [HV.out]; rfl, hG.step hg⟩
theorem rcmp_lt {a b : Rat} (h : a < b) : rcmp a b = -1 := by unfold rcmp; rw [if_pos h]
theorem rcmp_gt {a b : Rat} (h : b < a) : rcmp a b = 1 := by unfold rcmp; rw [if_neg (fun h2 => Rat.lt_irrefl (Std.lt_trans h h2)), if_pos h]
theorem rcmp_self (a : Rat) : rcmp a a = 0 := by unfold rcmp; rw [if_neg Rat.lt_irrefl, if_neg Rat.lt_irrefl]
theorem rat_tri (a b : Rat) : a < b ∨ a = b ∨ b < a := by
  by_cases h1 : a < b
  · exact .inl h1
  · by_cases h2 : b < a
    · exact .inr (.inr h2)
    · exact .inr (.inl (Rat.le_antisymm (Rat.not_lt.1 h2) (Rat.not_lt.1 h1)))
theorem rcmp_facts (X Y Z : Rat) :
    rcmp X Y = -rcmp Y X ∧ (decide (rcmp X Y < 0) = decide ((X - Y).num < 0)) ∧ (rcmp X Y = 0 ↔ X - Y = 0) ∧ (0 < rcmp X Y ∨ 0 < rcmp Y Z ∨ rcmp X Z ≤ 0) ∧ rcmp (X + Z) (Y + Z) = rcmp X Y := by
  have hsub : ∀ a b : Rat, a - b = 0 ↔ a = b := fun a b => by
    constructor
    · intro h; have := Rat.sub_add_cancel (a := a) (b := b); rw [h, Rat.zero_add] at this; exact this.symm
    · rintro rfl; exact Rat.sub_self
  have hnum : ∀ a b : Rat, (a - b).num < 0 ↔ a < b := fun a b => (lt_iff_sub a b).symm
  refine ⟨?_, ?_, ?_, ?_, ?_⟩
  · rcases rat_tri X Y with h | h | h
    · rw [rcmp_lt h, rcmp_gt h]
    · rw [h, rcmp_self]; rfl
    · rw [rcmp_gt h, rcmp_lt h]; rfl
  · rw [decide_eq_decide, hnum]
    rcases rat_tri X Y with h | h | h
    · rw [rcmp_lt h]; exact ⟨fun _ => h, fun _ => by omega⟩
    · rw [h, rcmp_self]; exact ⟨fun h => by omega, fun h => absurd h Rat.lt_irrefl⟩
    · rw [rcmp_gt h]; exact ⟨fun h => by omega, fun h2 => absurd (Std.lt_trans h h2) Rat.lt_irrefl⟩
  · rw [hsub]
    rcases rat_tri X Y with h | h | h
    · rw [rcmp_lt h]; exact ⟨fun h => by omega, fun h2 => absurd (h2 ▸ h) Rat.lt_irrefl⟩
    · exact ⟨fun _ => h, fun _ => by rw [h, rcmp_self]⟩
    · rw [rcmp_gt h]; exact ⟨fun h => by omega, fun h2 => absurd (h2 ▸ h) Rat.lt_irrefl⟩
  · rcases rat_tri X Y with h | h | h
    · rcases rat_tri Y Z with k | k | k
      · refine .inr (.inr ?_); rw [rcmp_lt (Std.lt_trans h k)]; omega
      · refine .inr (.inr ?_); rw [← k, rcmp_lt h]; omega
      · refine .inr (.inl ?_); rw [rcmp_gt k]; omega
    · rcases rat_tri Y Z with k | k | k
      · refine .inr (.inr ?_); rw [h, rcmp_lt k]; omega
      · refine .inr (.inr ?_); rw [h, k, rcmp_self]; omega
      · refine .inr (.inl ?_); rw [rcmp_gt k]; omega
    · refine .inl ?_; rw [rcmp_gt h]; omega
  · unfold rcmp
    simp only [Rat.add_lt_add_right]
end Go.Proofs.YtoaboflepfmkpaaGreatDoor
