/- Several texts in one. -/
import Derived.Test.YtikkobmccagdlaaGreatDoorFA
import Derived.Test.YtikkobmccagdlaaGreatDoorNg
import Derived.WalkKit
import Derived.WalkSpells
import Derived.WalkLawsBesides
import Derived.WalkSmall
import Derived.Handy
import Derived.BigQuiet
import Derived.Deep.QuietTactic
import Derived.Deep.RegionHeld3
import Derived.Deep.DeepFit
import Derived.Below
import Derived.Lib.Hide
import Derived.Lib.QuietBelow
import Derived.Deep.DeepCutAuto
import Derived.Test.YtikkobmccagdlaaGreatDoorRs
import Derived.Test.YtikkobmccagdlaaGreatDoorRg
import Derived.Test.YtikkobmccagdlaaGreatDoorNdr
import Derived.Test.YtikkobmccagdlaaGreatDoorBr
/- Results with and without an error; whole numbers as fractions. -/
namespace Go.Proofs.YtikkobmccagdlaaGreatDoor
open Go Go.RowKit Go.Sort
set_option maxRecDepth 100000
set_option linter.unusedVariables false
theorem whole_num (N : Nat) : (rat false N 1).num.natAbs = N ∧ (rat false N 1).den = 1 := by
  rw [rat_num_abs (by omega), rat_den (by omega), Nat.gcd_one_right]
  exact ⟨Nat.div_one _, rfl⟩
theorem whole_neg (N : Nat) : decide ((rat false N 1).num < 0) = false := by rw [rat_neg (by omega)]; rfl
theorem whole_add (M N : Nat) : rat false M 1 + rat false N 1 = rat false (M + N) 1 := by rw [rat_add (by omega) (by omega), rat_same]; simp
theorem whole_mul (M N : Nat) : rat false M 1 * rat false N 1 = rat false (M * N) 1 := by rw [rat_mul]; rfl
theorem whole_sub {M N : Nat} (h : N ≤ M) : rat false M 1 - rat false N 1 = rat false (M - N) 1 := by
  have := whole_add (M - N) N
  rw [Nat.sub_add_cancel h] at this
  rw [← this, Rat.add_sub_cancel]
theorem whole_div {M : Nat} (h : 0 < M) : rat false M 1 / rat false M 1 = rat false 1 1 := by
  rw [Rat.div_def, Rat.mul_inv_cancel _ (fun e => by have := (rat_eq_zero (x := false) (A := M) (B := 1) (by omega)).1 e; omega)]
  rfl
theorem len_one : (nd 1).length ≤ 64 := by rw [nd_one (x := 1) (by omega) (by omega)]; simp
theorem whole_bd {N : Nat} : Bd 64 (rat false N 1) ↔ (nd N).length ≤ 64 := by
  unfold Bd
  rw [(whole_num N).1, (whole_num N).2]
  exact ⟨fun h => h.1, fun h => ⟨h, len_one⟩⟩
theorem whole_fra {w : World} {vn vd : Value} {N : Nat} (hn : Num w vn N) (hd : Num w vd 1) (hl : (nd N).length ≤ 64) : Fra w (.agg #[.bool false, vn, vd]) (rat false N 1) :=
  ⟨false, vn, vd, N, 1, rfl, hn, hd, by omega, (fun h => by cases h), hl, len_one, rfl⟩
theorem whole_red {w : World} {vn vd : Value} {N : Nat} (hn : Num w vn N) (hd : Num w vd 1) : Red w (.agg #[.bool false, vn, vd]) (rat false N 1) :=
  ⟨vn, vd, by rw [whole_neg], by rw [(whole_num N).1]; exact hn, by rw [(whole_num N).2]; exact hd⟩
theorem FRes.no {w w' : World} {r : Rat} {e : Ending} (h : FRes w r e w') (hb : ¬ Bd 64 r) : e = .returned (.tuple #[.agg #[.bool false, .slice none 0 0, .slice none 0 0], .int .i64 5]) ∧ Gr w w' := by
  obtain ⟨v, er, rfl, ⟨h1, -⟩ | ⟨-, rfl, rfl⟩, hg⟩ := h
  · exact absurd h1 hb
  · exact ⟨rfl, hg⟩
theorem FRes.yes {w w' : World} {r : Rat} {e : Ending} (h : FRes w r e w') (hb : Bd 64 r) : ∃ (b : Bool) (a1 a2 : Option Addr) (n1 n2 c1 c2 : Nat), e = .returned (.tuple #[.agg #[.bool b, .slice a1 n1 c1, .slice a2 n2 c2], .int .i64 0]) ∧ Red w' (.agg #[.bool b, .slice a1 n1 c1, .slice a2 n2 c2]) r ∧ Gr w w' := by
  obtain ⟨b, a1, a2, n1, n2, c1, c2, er, rfl, h, hg⟩ := h.form
  rcases h with ⟨-, rfl, h3⟩ | ⟨h1, -⟩
  · exact ⟨b, a1, a2, n1, n2, c1, c2, rfl, h3, hg⟩
  · exact absurd hb h1
end Go.Proofs.YtikkobmccagdlaaGreatDoor
/- From. -/
namespace Go.Proofs.YtikkobmccagdlaaGreatDoor
open Go Go.RowKit Go.Sort
set_option maxRecDepth 100000
set_option linter.unusedVariables false
/-- what the loop of From keeps -/
def FmRel (w : World) (X : Nat) (s v : Value) (wr : World) : Prop :=
  ∃ (r : Nat) (l : List Nat), s = .int .i64 r ∧ r ≤ X ∧ nd X = l ++ nd r ∧ Own wr w.heap.size v l ∧ Gr w wr
set_option maxHeartbeats 1000000 in
theorem natfrom_any (X : Nat) (w : World) (hX : X < 9223372036854775808) :
    Calls Tryz.prog 29 #[.int .i64 (X : Nat)] w fun e w' => ∃ v, e = .returned (.tuple #[v, .int .i64 0]) ∧ Num w' v X ∧ Gr w w' := by
  have hXl : (nd X).length ≤ 3 := (nd_len X 3).2 (by omega)
  go_enter Tryz.func29, Tryz.ntmps29
  go_wp2_with fail
  go_loopw [0, 4] (fun s v wr => FmRel w X s v wr) (fun s _ _ => (intOf s).toNat)
  case atStart => exact ⟨X, [], rfl, Nat.le_refl _, rfl, Own.nil _ _, Gr.refl _⟩
  case round =>
    obtain ⟨r, l, rfl, hr, hnd, hown, hgr⟩ := hrel
    by_cases h0 : 0 < r
    · have hnd2 := hnd
      rw [nd_pos h0] at hnd2
      have hll : l.length ≤ 3 := by rw [hnd] at hXl; simp at hXl; omega
      have r0 : (0 : Int) < (r : Int) := by omega
      have d0 : decide (0 < r) = true := by simpa using h0
      have r1 : (r : Int) < 9223372036854775808 := by omega
      obtain ⟨d, hd⟩ : ∃ d : Nat, d = r % 1073741824 := ⟨_, rfl⟩
      obtain ⟨q, hq⟩ : ∃ q : Nat, q = r / 1073741824 := ⟨_, rfl⟩
      rw [← hd, ← hq] at hnd2
      have e0 : bits .and .i64 (r : Int) 1073741823 = (d : Int) := by rw [and30]; omega
      have e2 : (r : Int) / 1073741824 = (q : Int) := by omega
      have d1 : (d : Int) < 1073741824 := by omega
      have q1 : q < r := by omega
      have HND := Lib.hid hnd2
      have HR0 := Lib.hid hr
      have hown0 := Lib.hid hown
      obtain ⟨ti, hi1, hi2, hi3, hi4⟩ := intInfo
      unfold Own at hown
      clear hnd hnd2 hd hq hr
      go_wp2_with (at_builtin; refine wpList_append_own_at _ rfl _ _ 24 rfl w.heap.size 3 ti (.int .i64 0) 1 8 Tryz.underlying24 hi1 hi2 hi3 hi4 rfl (by decide) _ _ _ rfl (hown.alloc _) ⟨wr.heap.size, 0, none⟩ 1 1 [.int .i64 d] rfl rfl (cell_one_new _ _ _) (by simp [Value.oneCell']) (by unfold maxLen; omega) (by omega) (by have := Gr.size hgr; simp; omega) ?_; intro v' w2 hown2 hgrow hnil hloc)
      clear hnil hloc
      refine ⟨⟨q, l ++ [d], rfl, by have := HR0.out; omega, by rw [HND.out]; simp, ?_, ?_⟩, ?_⟩
      · unfold Own
        rw [List.length_append, List.map_append]
        exact hown2
      · exact Gr.grown (by repeat' (first | (with_reducible exact Gr.refl _) | (with_reducible assumption) | (with_reducible refine Gr.drewN ?_ _) | (with_reducible refine Gr.drew ?_) | (with_reducible refine Gr.alloc ?_ _) | (with_reducible refine Gr.setCell ?_ ?_ _) | (with_reducible refine Gr.grow ?_ _ _) | (refine Gr.step ?_ (by with_reducible assumption)) | go_size)) hgrow (fun k hk => (hown.lt k hk).1)
      · simp only [intOf]; omega
    · obtain rfl : r = 0 := by omega
      rw [nd_zero, List.append_nil] at hnd
      have HN := Lib.hid hnd
      have HO := Lib.hid hown
      clear hnd hown
      go_wp2_with fail
      go_ret2
      exact ⟨_, rfl, HO.out.num HN.out.symm, hgr⟩
theorem natfrom_int (x : Int) (X : Nat) (w : World) (hx : x = X) (hX : X < 9223372036854775808) :
    Calls Tryz.prog 29 #[.int .i64 x] w fun e w' => ∃ v, e = .returned (.tuple #[v, .int .i64 0]) ∧ Num w' v X ∧ Gr w w' := by
  subst hx; exact natfrom_any X w hX
theorem magnitude_any (n : Int) (w : World) (h0 : -9223372036854775808 ≤ n) (h1 : n ≤ 9223372036854775807) :
    Calls Tryz.prog 101 #[.int .i64 n] w fun e w' => ∃ v, e = .returned v ∧ Num w' v n.natAbs ∧ Gr w w' := by
  by_cases hn : 0 ≤ n
  · have d0 : decide (0 ≤ n) = true := by simpa using hn
    have HC := Lib.hid (natfrom_int n n.natAbs w (by omega) (by omega))
    go_enter Tryz.func101, Tryz.ntmps101
    go_wp2_with fail
    refine HC.out.mono ?_
    rintro e w1 ⟨v, rfl, hv, hg⟩
    go_wp2_with fail
    go_ret
    exact ⟨v, rfl, hv, hg⟩
  · have d0 : decide (0 ≤ n) = false := by simpa using hn
    have m1 : IntKind.i64.wrap (n + 1) = n + 1 := IntWalk.i64_in _ (by omega)
    have m2 : IntKind.i64.wrap (-(n + 1)) = -(n + 1) := IntWalk.i64_in _ (by omega)
    have HC := Lib.hid (natfrom_int (-(n + 1)) (n.natAbs - 1) w (by omega) (by omega))
    have hl1 : (nd (n.natAbs - 1)).length ≤ 3 := (nd_len _ 3).2 (by omega)
    have HE : Hid (n.natAbs - 1 + 1 = n.natAbs) := Lib.hid (by omega)
    go_enter Tryz.func101, Tryz.ntmps101
    go_wp2_with fail
    refine HC.out.mono ?_
    rintro e w1 ⟨v, rfl, hv, hg⟩
    have HV := Lib.hid (hv.gr (Gr.alloc (Gr.refl w1) (.cells #[.int .i64 1] 3)))
    have HO := Lib.hid (num_lit w1 1 1 rfl (by omega) (by omega))
    clear hv
    go_wp2_with fail
    refine (add_129 _ _ _ HV.out HO.out (by omega) (by rw [nd_one (by omega) (by omega)]; simp)).mono ?_
    rintro e w2 ⟨u, rfl, hu, hg2⟩
    rw [HE.out] at hu
    go_wp2_with fail
    go_ret
    exact ⟨u, rfl, hu, (hg.alloc _).step hg2⟩
/-- the value of a quotient of two ints -/
def quot (n d : Int) : Rat := rat (decide (n < 0) != decide (d < 0)) n.natAbs d.natAbs
end Go.Proofs.YtikkobmccagdlaaGreatDoor
/- Int; Floor and Ceil. -/
namespace Go.Proofs.YtikkobmccagdlaaGreatDoor
open Go Go.RowKit Go.Sort
set_option maxRecDepth 100000
set_option linter.unusedVariables false
theorem lit_three (w : World) : Num (w.alloc (.cells #[.int .i64 0, .int .i64 0, .int .i64 4] 3)) (.slice (some ⟨w.heap.size, 0, none⟩) 3 3) 4611686018427387904 := by
  unfold Num
  have e : nd 4611686018427387904 = [0, 0, 4] := by
    rw [nd_pos (by omega), nd_pos (by omega), nd_pos (by omega), show 4611686018427387904 / 1073741824 / 1073741824 / 1073741824 = 0 from rfl, nd_zero]
  rw [e]
  refine ⟨_, 3, rfl, Nat.le_refl _, by omega, fun i hi => ⟨w.heap.size, 0, rfl, trivial, ?_⟩⟩
  have : i = 0 ∨ i = 1 ∨ i = 2 := by simp at hi; omega
  rcases this with rfl | rfl | rfl <;> simp
theorem shl_at (x y z : Int) (hy : 0 ≤ y) (h : IntKind.i64.wrap (x * 2 ^ min y.toNat 64) = z) (w : World) : (Op.shift .shl .i64 x .i64 y).run Tryz.prog w = .ok (.int .i64 z) w := by
  unfold Op.shift
  rw [if_neg (by omega), show IntKind.i64.bits = 64 from rfl]
  show Result.ok _ _ = _
  rw [h]
/-- an int, or ErrRange -/
def IntRes (w : World) (N : Nat) (e : Ending) (w' : World) : Prop :=
  ∃ z er : Int, e = .returned (.tuple #[.int .i64 z, .int .i64 er]) ∧ ((N ≤ 4611686018427387904 ∧ z = N ∧ er = 0) ∨ (4611686018427387904 < N ∧ z = 0 ∧ er = 1)) ∧ 0 ≤ z ∧ z ≤ 4611686018427387904 ∧ Gr w w'
set_option maxHeartbeats 2000000 in
theorem int_any {N : Nat} (v : Value) (w : World) (h : Num w v N) (hN : (nd N).length ≤ 256) :
    Calls Tryz.prog 31 #[v] w (IntRes w N) := by
  have HV := Lib.hid (num_valid h hN)
  have HC := Lib.hid (cmp_any (A := N) (B := 4611686018427387904) v _ _ (h.gr (Gr.alloc (Gr.refl _) _)) (lit_three w) (by omega))
  have HN := Lib.hid h
  obtain ⟨a, c, rfl⟩ := num_slice h
  clear h
  by_cases hle : N ≤ 4611686018427387904
  · have hl3 : (nd N).length ≤ 3 := (nd_len N 3).2 (by omega)
    have HC1 : Hid (ncmp N 4611686018427387904 ≤ 0) := Lib.hid (by rcases Nat.eq_or_lt_of_le hle with h | h; rw [h, ncmp_eq]; omega; rw [ncmp_lt h]; omega)
    have HLE := Lib.hid hle
    clear hle
    go_enter Tryz.func31, Tryz.ntmps31
    go_wp2_with fail
    refine HV.out.mono ?_
    rintro e w' ⟨rfl, rfl⟩
    go_wp2_with fail
    refine HC.out.mono ?_
    rintro e w1 ⟨rfl, hg⟩
    have d : decide (0 < ncmp N 4611686018427387904) = false := by have := HC1.out; simpa using this
    have hG : Gr w w1 := (Gr.alloc (Gr.refl w) _).step hg
    have HN1 := Lib.hid (HN.out.gr hG)
    clear hg
    go_wp2_with fail
    go_loopw [5, 17] (fun sv s wr => ∃ k : Nat, s = .int .i64 k ∧ sv = .int .i64 (nv ((nd N).take k) : Nat) ∧ k ≤ (nd N).length ∧ Gr w1 wr) (fun _ s _ => (nd N).length - (intOf s).toNat)
    case atStart => exact ⟨0, rfl, by simp [nv], Nat.zero_le _, Gr.refl _⟩
    case round =>
      obtain ⟨k, rfl, rfl, hk, hgr⟩ := hrel
      by_cases hlt : k < (nd N).length
      · have d1 : decide (k < (nd N).length) = true := by simpa using hlt
        obtain ⟨b, off, rfl, -, hc⟩ := (HN1.out.gr hgr).at' hlt
        have hx := lim_getD (lim_nd N) k
        have hts := take_split' (nd N) k
        have hub : nv ((nd N).take (k + 1)) ≤ N := by
          have := nv_take_drop (nd N) (k + 1) (by omega)
          rw [nv_nd] at this; omega
        rw [hts] at hub
        have HTS := Lib.hid hts
        have hle := HLE.out
        have hsb := nv_lt (lim_take (lim_nd N) k)
        rw [List.length_take, Nat.min_eq_left (Nat.le_of_lt hlt)] at hsb
        generalize (nd N).getD k 0 = x at *
        generalize nv ((nd N).take k) = s at *
        have HSB := Lib.hid hsb
        have hk3 : k = 0 ∨ k = 1 ∨ k = 2 := by omega
        have k1 : (k : Int) < ((nd N).length : Int) := by omega
        have HUB : Hid (s + 1073741824 ^ k * x ≤ 4611686018427387904) := Lib.hid (Nat.le_trans hub hle)
        have x1 : (x : Int) < 1073741824 := by omega
        clear hts hub hle hsb
        rcases hk3 with rfl | rfl | rfl
        · have hsh := shl_at (x : Int) 0 (x) (by omega) (by show IntKind.i64.wrap _ = _; rw [show (2 : Int) ^ min (Int.toNat 0) 64 = 1 from rfl]; rw [IntWalk.i64_in _ (by omega)]; omega)
          have sb : (s : Int) < 1 := by have h := HSB.out; simp only [Nat.reducePow, Nat.pow_zero, Nat.pow_one] at h; omega
          have s0 : (0 : Int) ≤ (s : Int) := by omega
          clear HC1 d hl3 hk hN
          rw [show ((0 : Nat) : Int) = 0 from rfl] at k1 ⊢
          rw [Nat.add_zero] at hc
          go_wp2_with fail
          exact ⟨⟨1, rfl, by rw [HTS.out, Nat.pow_zero, Nat.one_mul]; simp, by omega, hgr⟩, by simp only [intOf]; omega⟩
        · have hsh := shl_at (x : Int) 30 (x * 1073741824) (by omega) (by show IntKind.i64.wrap _ = _; rw [show (2 : Int) ^ min (Int.toNat 30) 64 = 1073741824 from rfl]; rw [IntWalk.i64_in _ (by omega)])
          have sb : (s : Int) < 1073741824 := by have h := HSB.out; simp only [Nat.reducePow, Nat.pow_zero, Nat.pow_one] at h; omega
          have s0 : (0 : Int) ≤ (s : Int) := by omega
          clear HC1 d hl3 hk hN
          rw [show ((1 : Nat) : Int) = 1 from rfl] at k1 ⊢
          go_wp2_with fail
          exact ⟨⟨2, rfl, by rw [HTS.out, Nat.pow_one]; exact iv (by omega), by omega, hgr⟩, by simp only [intOf]; omega⟩
        · have x4 : (x : Int) ≤ 4 := by have h := HUB.out; simp only [Nat.reducePow] at h; omega
          have hsh := shl_at (x : Int) 60 (x * 1152921504606846976) (by omega) (by show IntKind.i64.wrap _ = _; rw [show (2 : Int) ^ min (Int.toNat 60) 64 = 1152921504606846976 from rfl]; rw [IntWalk.i64_in _ (by omega)])
          have sb : (s : Int) < 1152921504606846976 := by have h := HSB.out; simp only [Nat.reducePow, Nat.pow_zero, Nat.pow_one] at h; omega
          have x4 : (x : Int) ≤ 4 := by have h := HUB.out; simp only [Nat.reducePow] at h; omega
          have s0 : (0 : Int) ≤ (s : Int) := by omega
          clear HC1 d hl3 hk hN
          rw [show ((2 : Nat) : Int) = 2 from rfl] at k1 ⊢
          go_wp2_with fail
          exact ⟨⟨3, rfl, by rw [HTS.out, show 1073741824 ^ 2 = 1152921504606846976 from rfl]; exact iv (by omega), by omega, hgr⟩, by simp only [intOf]; omega⟩
      · obtain rfl : k = (nd N).length := by omega
        have hs : nv ((nd N).take (nd N).length) = N := by rw [List.take_of_length_le (Nat.le_refl _), nv_nd]
        rw [hs]
        go_wp2_with fail
        go_ret2
        exact ⟨_, _, rfl, .inl ⟨HLE.out, rfl, rfl⟩, by omega, by have := HLE.out; omega, hG.step hgr⟩
  · have HC1 : Hid (ncmp N 4611686018427387904 = 1) := Lib.hid (ncmp_gt (by omega))
    have HLE : Hid (4611686018427387904 < N) := Lib.hid (by omega)
    clear hle
    go_enter Tryz.func31, Tryz.ntmps31
    go_wp2_with fail
    refine HV.out.mono ?_
    rintro e w' ⟨rfl, rfl⟩
    go_wp2_with fail
    refine HC.out.mono ?_
    rintro e w1 ⟨rfl, hg⟩
    rw [HC1.out]
    have hG : Gr w w1 := (Gr.alloc (Gr.refl w) _).step hg
    go_wp2_with fail
    go_ret2
    exact ⟨_, _, rfl, .inr ⟨HLE.out, rfl, rfl⟩, by omega, by omega, hG⟩
/-- an int with the sign x, or ErrRange -/
def RndRes (w : World) (x : Bool) (M : Nat) (e : Ending) (w' : World) : Prop :=
  ∃ z er : Int, e = .returned (.tuple #[.int .i64 z, .int .i64 er]) ∧ ((M ≤ 4611686018427387904 ∧ z = sgn x M ∧ er = 0) ∨ (4611686018427387904 < M ∧ z = 0 ∧ er = 1)) ∧ Gr w w'
theorem len_one' : (nd 1).length ≤ 64 := by rw [nd_one (x := 1) (by omega) (by omega)]; simp
set_option maxHeartbeats 2000000 in
theorem rounded_any {A B : Nat} (x aw : Bool) (va vb : Value) (w : World) (hA : Num w va A) (hB : Num w vb B) (hB0 : 0 < B) (hx : x = true → 0 < A) (lA : (nd A).length ≤ 64) (lB : (nd B).length ≤ 64) :
    Calls Tryz.prog 103 #[.agg #[.bool x, va, vb], .bool aw] w (RndRes w x (rnd aw A B)) := by
  have HA := Lib.hid hA
  have HB := Lib.hid hB
  have HB0 := Lib.hid hB0
  have HX : Hid (x = true → 0 < A) := Lib.hid hx
  obtain ⟨aa, ca, rfl⟩ := num_slice hA
  obtain ⟨ab, cb, rfl⟩ := num_slice hB
  have lq : (nd (A / B)).length ≤ 64 := nd_le_len' lA (Nat.div_le_self _ _)
  clear hA hB hB0 hx
  have hX0 := C3.new w (.bool x) (.slice aa (nd A).length ca) (.slice ab (nd B).length cb) 49 w.heap.size rfl
  have hG0 : Gr w (w.alloc (.cells #[.bool x, .slice aa (nd A).length ca, .slice ab (nd B).length cb] 49)) := Gr.alloc (Gr.refl _) _
  cases aw
  · have HM : Hid (rnd false A B = A / B) := Lib.hid rfl
    cases x
    · skip
      go_enter Tryz.func103, Tryz.ntmps103
      go_wp2_with fail
      generalize w.alloc (.cells #[.bool false, .slice aa (nd A).length ca, .slice ab (nd B).length cb] 49) = W0 at *
      refine (fvalid_yes false _ _ _ (HA.out.gr hG0) (HB.out.gr hG0) HB0.out (fun h => by cases h) lA lB).mono ?_
      rintro e w1 ⟨rfl, hg⟩
      have hX := hX0.gr hg
      have hG := hG0.step hg
      obtain ⟨xc0, xc1, xc2, -, -, -, -, -⟩ := id hX
      clear hX0 hG0 hg
      go_wp2_with fail
      refine (divmod_any _ _ _ (HA.out.gr hG) (HB.out.gr hG) HB0.out (by omega) (by omega)).mono ?_
      rintro e w2 ⟨vq, vr, rfl, hq, hr, hg⟩
      obtain ⟨ar, cr, rfl⟩ := num_slice hr
      have HQ := Lib.hid hq
      replace hX := hX.gr hg
      replace hG := hG.step hg
      clear xc0 xc1 xc2 hq hr hg
      obtain ⟨xc0, xc1, xc2, -, -, -, -, -⟩ := id hX
      go_wp2_with fail
      refine (int_any _ _ HQ.out (by omega)).mono ?_
      rintro e w4 ⟨z, er, rfl, hz, hz0, hz1, hg⟩
      replace hX := hX.gr hg
      replace hG := hG.step hg
      clear xc0 xc1 xc2 hg
      obtain ⟨xc0, xc1, xc2, -, -, -, -, -⟩ := id hX
      have HZ := Lib.hid hz
      clear hz
      go_wp2_with fail
      go_ret2
      refine ⟨_, _, rfl, ?_, hG⟩
      have hz := HZ.out
      unfold sgn
      simp only [if_true, if_false, Bool.false_eq_true]
      rw [HM.out]
      generalize A / B = q at hz ⊢
      omega
    · skip
      go_enter Tryz.func103, Tryz.ntmps103
      go_wp2_with fail
      generalize w.alloc (.cells #[.bool true, .slice aa (nd A).length ca, .slice ab (nd B).length cb] 49) = W0 at *
      refine (fvalid_yes true _ _ _ (HA.out.gr hG0) (HB.out.gr hG0) HB0.out (fun _ => HX.out trivial) lA lB).mono ?_
      rintro e w1 ⟨rfl, hg⟩
      have hX := hX0.gr hg
      have hG := hG0.step hg
      obtain ⟨xc0, xc1, xc2, -, -, -, -, -⟩ := id hX
      clear hX0 hG0 hg
      go_wp2_with fail
      refine (divmod_any _ _ _ (HA.out.gr hG) (HB.out.gr hG) HB0.out (by omega) (by omega)).mono ?_
      rintro e w2 ⟨vq, vr, rfl, hq, hr, hg⟩
      obtain ⟨ar, cr, rfl⟩ := num_slice hr
      have HQ := Lib.hid hq
      replace hX := hX.gr hg
      replace hG := hG.step hg
      clear xc0 xc1 xc2 hq hr hg
      obtain ⟨xc0, xc1, xc2, -, -, -, -, -⟩ := id hX
      go_wp2_with fail
      refine (int_any _ _ HQ.out (by omega)).mono ?_
      rintro e w4 ⟨z, er, rfl, hz, hz0, hz1, hg⟩
      replace hX := hX.gr hg
      replace hG := hG.step hg
      clear xc0 xc1 xc2 hg
      obtain ⟨xc0, xc1, xc2, -, -, -, -, -⟩ := id hX
      have HZ := Lib.hid hz
      clear hz
      go_wp2_with fail
      go_ret2
      refine ⟨_, _, rfl, ?_, hG⟩
      have hz := HZ.out
      unfold sgn
      simp only [if_true, if_false, Bool.false_eq_true]
      rw [HM.out]
      generalize A / B = q at hz ⊢
      omega
  · by_cases h0 : 0 < A % B
    · have HM : Hid (rnd true A B = A / B + 1) := Lib.hid (by unfold rnd; rw [decide_eq_true h0]; rfl)
      have hrl : 0 < (nd (A % B)).length := by rw [nd_pos h0]; simp
      have dR : decide (0 < (nd (A % B)).length) = true := by simpa using hrl
      clear h0 hrl
      cases x
      · skip
        go_enter Tryz.func103, Tryz.ntmps103
        go_wp2_with fail
        generalize w.alloc (.cells #[.bool false, .slice aa (nd A).length ca, .slice ab (nd B).length cb] 49) = W0 at *
        refine (fvalid_yes false _ _ _ (HA.out.gr hG0) (HB.out.gr hG0) HB0.out (fun h => by cases h) lA lB).mono ?_
        rintro e w1 ⟨rfl, hg⟩
        have hX := hX0.gr hg
        have hG := hG0.step hg
        obtain ⟨xc0, xc1, xc2, -, -, -, -, -⟩ := id hX
        clear hX0 hG0 hg
        go_wp2_with fail
        refine (divmod_any _ _ _ (HA.out.gr hG) (HB.out.gr hG) HB0.out (by omega) (by omega)).mono ?_
        rintro e w2 ⟨vq, vr, rfl, hq, hr, hg⟩
        obtain ⟨ar, cr, rfl⟩ := num_slice hr
        have HQ := Lib.hid hq
        replace hX := hX.gr hg
        replace hG := hG.step hg
        clear xc0 xc1 xc2 hq hr hg
        obtain ⟨xc0, xc1, xc2, -, -, -, -, -⟩ := id hX
        go_wp2_with fail
        have HO := Lib.hid (num_lit w2 1 1 rfl (by omega) (by omega))
        refine (add_129 _ _ _ (HQ.out.gr (Gr.alloc (Gr.refl _) _)) HO.out (by omega) (by rw [nd_one (by omega) (by omega)]; simp)).mono ?_
        rintro e w3 ⟨vs, rfl, hs, hg⟩
        have hg3 := (Gr.alloc (Gr.refl w2) (.cells #[.int .i64 1] 3)).step hg
        replace hX := hX.gr hg3
        replace hG := hG.step hg3
        clear xc0 xc1 xc2 hg hg3
        obtain ⟨xc0, xc1, xc2, -, -, -, -, -⟩ := id hX
        go_wp2_with fail
        refine (int_any _ _ hs (by have := nd_add' (A := A / B) (B := 1) (k := 64) (by omega) len_one'; omega)).mono ?_
        rintro e w4 ⟨z, er, rfl, hz, hz0, hz1, hg⟩
        replace hX := hX.gr hg
        replace hG := hG.step hg
        clear xc0 xc1 xc2 hg
        obtain ⟨xc0, xc1, xc2, -, -, -, -, -⟩ := id hX
        have HZ := Lib.hid hz
        clear hz
        go_wp2_with fail
        go_ret2
        refine ⟨_, _, rfl, ?_, hG⟩
        have hz := HZ.out
        unfold sgn
        simp only [if_true, if_false, Bool.false_eq_true]
        rw [HM.out]
        generalize A / B = q at hz ⊢
        omega
      · skip
        go_enter Tryz.func103, Tryz.ntmps103
        go_wp2_with fail
        generalize w.alloc (.cells #[.bool true, .slice aa (nd A).length ca, .slice ab (nd B).length cb] 49) = W0 at *
        refine (fvalid_yes true _ _ _ (HA.out.gr hG0) (HB.out.gr hG0) HB0.out (fun _ => HX.out trivial) lA lB).mono ?_
        rintro e w1 ⟨rfl, hg⟩
        have hX := hX0.gr hg
        have hG := hG0.step hg
        obtain ⟨xc0, xc1, xc2, -, -, -, -, -⟩ := id hX
        clear hX0 hG0 hg
        go_wp2_with fail
        refine (divmod_any _ _ _ (HA.out.gr hG) (HB.out.gr hG) HB0.out (by omega) (by omega)).mono ?_
        rintro e w2 ⟨vq, vr, rfl, hq, hr, hg⟩
        obtain ⟨ar, cr, rfl⟩ := num_slice hr
        have HQ := Lib.hid hq
        replace hX := hX.gr hg
        replace hG := hG.step hg
        clear xc0 xc1 xc2 hq hr hg
        obtain ⟨xc0, xc1, xc2, -, -, -, -, -⟩ := id hX
        go_wp2_with fail
        have HO := Lib.hid (num_lit w2 1 1 rfl (by omega) (by omega))
        refine (add_129 _ _ _ (HQ.out.gr (Gr.alloc (Gr.refl _) _)) HO.out (by omega) (by rw [nd_one (by omega) (by omega)]; simp)).mono ?_
        rintro e w3 ⟨vs, rfl, hs, hg⟩
        have hg3 := (Gr.alloc (Gr.refl w2) (.cells #[.int .i64 1] 3)).step hg
        replace hX := hX.gr hg3
        replace hG := hG.step hg3
        clear xc0 xc1 xc2 hg hg3
        obtain ⟨xc0, xc1, xc2, -, -, -, -, -⟩ := id hX
        go_wp2_with fail
        refine (int_any _ _ hs (by have := nd_add' (A := A / B) (B := 1) (k := 64) (by omega) len_one'; omega)).mono ?_
        rintro e w4 ⟨z, er, rfl, hz, hz0, hz1, hg⟩
        replace hX := hX.gr hg
        replace hG := hG.step hg
        clear xc0 xc1 xc2 hg
        obtain ⟨xc0, xc1, xc2, -, -, -, -, -⟩ := id hX
        have HZ := Lib.hid hz
        clear hz
        go_wp2_with fail
        go_ret2
        refine ⟨_, _, rfl, ?_, hG⟩
        have hz := HZ.out
        unfold sgn
        simp only [if_true, if_false, Bool.false_eq_true]
        rw [HM.out]
        generalize A / B = q at hz ⊢
        omega
    · have HM : Hid (rnd true A B = A / B) := Lib.hid (by unfold rnd; rw [decide_eq_false h0]; rfl)
      have dR : decide (0 < (nd (A % B)).length) = false := by rw [show A % B = 0 by omega, nd_zero]; rfl
      clear h0
      cases x
      · skip
        go_enter Tryz.func103, Tryz.ntmps103
        go_wp2_with fail
        generalize w.alloc (.cells #[.bool false, .slice aa (nd A).length ca, .slice ab (nd B).length cb] 49) = W0 at *
        refine (fvalid_yes false _ _ _ (HA.out.gr hG0) (HB.out.gr hG0) HB0.out (fun h => by cases h) lA lB).mono ?_
        rintro e w1 ⟨rfl, hg⟩
        have hX := hX0.gr hg
        have hG := hG0.step hg
        obtain ⟨xc0, xc1, xc2, -, -, -, -, -⟩ := id hX
        clear hX0 hG0 hg
        go_wp2_with fail
        refine (divmod_any _ _ _ (HA.out.gr hG) (HB.out.gr hG) HB0.out (by omega) (by omega)).mono ?_
        rintro e w2 ⟨vq, vr, rfl, hq, hr, hg⟩
        obtain ⟨ar, cr, rfl⟩ := num_slice hr
        have HQ := Lib.hid hq
        replace hX := hX.gr hg
        replace hG := hG.step hg
        clear xc0 xc1 xc2 hq hr hg
        obtain ⟨xc0, xc1, xc2, -, -, -, -, -⟩ := id hX
        go_wp2_with fail
        refine (int_any _ _ HQ.out (by omega)).mono ?_
        rintro e w4 ⟨z, er, rfl, hz, hz0, hz1, hg⟩
        replace hX := hX.gr hg
        replace hG := hG.step hg
        clear xc0 xc1 xc2 hg
        obtain ⟨xc0, xc1, xc2, -, -, -, -, -⟩ := id hX
        have HZ := Lib.hid hz
        clear hz
        go_wp2_with fail
        go_ret2
        refine ⟨_, _, rfl, ?_, hG⟩
        have hz := HZ.out
        unfold sgn
        simp only [if_true, if_false, Bool.false_eq_true]
        rw [HM.out]
        generalize A / B = q at hz ⊢
        omega
      · skip
        go_enter Tryz.func103, Tryz.ntmps103
        go_wp2_with fail
        generalize w.alloc (.cells #[.bool true, .slice aa (nd A).length ca, .slice ab (nd B).length cb] 49) = W0 at *
        refine (fvalid_yes true _ _ _ (HA.out.gr hG0) (HB.out.gr hG0) HB0.out (fun _ => HX.out trivial) lA lB).mono ?_
        rintro e w1 ⟨rfl, hg⟩
        have hX := hX0.gr hg
        have hG := hG0.step hg
        obtain ⟨xc0, xc1, xc2, -, -, -, -, -⟩ := id hX
        clear hX0 hG0 hg
        go_wp2_with fail
        refine (divmod_any _ _ _ (HA.out.gr hG) (HB.out.gr hG) HB0.out (by omega) (by omega)).mono ?_
        rintro e w2 ⟨vq, vr, rfl, hq, hr, hg⟩
        obtain ⟨ar, cr, rfl⟩ := num_slice hr
        have HQ := Lib.hid hq
        replace hX := hX.gr hg
        replace hG := hG.step hg
        clear xc0 xc1 xc2 hq hr hg
        obtain ⟨xc0, xc1, xc2, -, -, -, -, -⟩ := id hX
        go_wp2_with fail
        refine (int_any _ _ HQ.out (by omega)).mono ?_
        rintro e w4 ⟨z, er, rfl, hz, hz0, hz1, hg⟩
        replace hX := hX.gr hg
        replace hG := hG.step hg
        clear xc0 xc1 xc2 hg
        obtain ⟨xc0, xc1, xc2, -, -, -, -, -⟩ := id hX
        have HZ := Lib.hid hz
        clear hz
        go_wp2_with fail
        go_ret2
        refine ⟨_, _, rfl, ?_, hG⟩
        have hz := HZ.out
        unfold sgn
        simp only [if_true, if_false, Bool.false_eq_true]
        rw [HM.out]
        generalize A / B = q at hz ⊢
        omega
end Go.Proofs.YtikkobmccagdlaaGreatDoor
/- The document's fractions: reduced, Reduce. -/
namespace Go.Proofs.YtikkobmccagdlaaGreatDoor
open Go Go.RowKit Go.Sort
set_option maxRecDepth 100000
set_option linter.unusedVariables false
/-- the reduced fraction with this value, in blocks of which p is true -/
def RedP (p : Nat → Prop) (w : World) (v : Value) (r : Rat) : Prop :=
  ∃ vn vd : Value, v = .agg #[.bool (decide (r.num < 0)), vn, vd] ∧ Rd p w vn (nd r.num.natAbs) ∧ Rd p w vd (nd r.den)
theorem RedP.red {p : Nat → Prop} {w : World} {v : Value} {r : Rat} (h : RedP p w v r) : Red w v r := by
  obtain ⟨vn, vd, e, h1, h2⟩ := h
  exact ⟨vn, vd, e, h1.any, h2.any⟩
theorem RedP.gr {p : Nat → Prop} {w w' : World} {v : Value} {r : Rat} (h : RedP p w v r) (g : Gr w w') : RedP p w' v r := by
  obtain ⟨vn, vd, e, h1, h2⟩ := h
  exact ⟨vn, vd, e, h1.gr g, h2.gr g⟩
theorem RedP.imp {p q : Nat → Prop} {w : World} {v : Value} {r : Rat} (h : RedP p w v r) (hpq : ∀ b, p b → q b) : RedP q w v r := by
  obtain ⟨vn, vd, e, h1, h2⟩ := h
  exact ⟨vn, vd, e, h1.imp fun b _ => hpq b, h2.imp fun b _ => hpq b⟩
theorem Rd.exp {p : Nat → Prop} {r : Nat} {w w' : World} {v : Value} {l : List Nat} (h : Rd p w v l) (hp : ∀ c, p c → c ≠ r) (g : Ex r w w') : Rd p w' v l := by
  obtain ⟨a, cap, e, hl, hc, H⟩ := h
  exact ⟨a, cap, e, hl, hc, fun i hi => by
    obtain ⟨b, off, ea, hb, hcell⟩ := H i hi
    exact ⟨b, off, ea, hb, by rw [g.cell _ _ (hp _ hb) (World.block_lt_of_cell? _ _ hcell)]; exact hcell⟩⟩
theorem C3.offp {p : Nat → Prop} {w : World} {r : Nat} {b : Bool} {a1 a2 : Option Addr} {n1 n2 k1 k2 : Nat} (c : C3 w r (.bool b) (.slice a1 n1 k1) (.slice a2 n2 k2)) {v : Value} {l : List Nat} (h : Rd p w v l) : Rd (fun k => p k ∧ k ≠ r) w v l := by
  obtain ⟨a, cap, e, hl, hc, H⟩ := h
  refine ⟨a, cap, e, hl, hc, fun i hi => ?_⟩
  obtain ⟨q, off, ea, hp, hcell⟩ := H i hi
  refine ⟨q, off, ea, ⟨hp, ?_⟩, hcell⟩
  rintro rfl
  generalize off + i = o at hcell
  match o, hcell with
  | 0, hcell => rw [c.c0] at hcell; cases hcell
  | 1, hcell => rw [c.c1] at hcell; cases hcell
  | 2, hcell => rw [c.c2] at hcell; cases hcell
  | o + 3, hcell => rw [c.no _ (by omega)] at hcell; cases hcell
theorem C3.rdp {p : Nat → Prop} {w : World} {r o : Nat} {b : Bool} {a1 a2 : Option Addr} {n1 n2 k1 k2 : Nat} (c : C3 w r (.bool b) (.slice a1 n1 k1) (.slice a2 n2 k2)) {v : Value} {l : List Nat} (h : Rd p w v l) (x : Value) : Rd p (w.setCell ⟨r, o, none⟩ x) v l :=
  (Rd.exp (c.offp h) (fun _ h => h.2) (Ex.set (Ex.refl r w) o x)).imp fun _ _ h => h.1
theorem C3.fillp {p : Nat → Prop} {w : World} {r : Nat} {b : Bool} {a1 a2 : Option Addr} {n1 n2 k1 k2 : Nat} (c : C3 w r (.bool b) (.slice a1 n1 k1) (.slice a2 n2 k2)) (b' : Bool) (p1 p2 : Option Addr) (m1 m2 j1 j2 : Nat) {v : Value} {l : List Nat} (h : Rd p w v l) :
    Rd p (((w.setCell ⟨r, 0, none⟩ (.bool b')).setCell ⟨r, 1, none⟩ (.slice p1 m1 j1)).setCell ⟨r, 2, none⟩ (.slice p2 m2 j2)) v l := by
  have h0 := c.set0 (.bool b')
  have h1 := h0.set1 (.slice p1 m1 j1)
  exact h1.rdp (h0.rdp (c.rdp h _) _) _
theorem C3.redp {p : Nat → Prop} {w : World} {q : Nat} {b : Bool} {a1 a2 : Option Addr} {n1 n2 k1 k2 : Nat} (c : C3 w q (.bool b) (.slice a1 n1 k1) (.slice a2 n2 k2)) (b' : Bool) (p1 p2 : Option Addr) (m1 m2 j1 j2 : Nat) {v : Value} {r : Rat} (h : RedP p w v r) :
    RedP p (((w.setCell ⟨q, 0, none⟩ (.bool b')).setCell ⟨q, 1, none⟩ (.slice p1 m1 j1)).setCell ⟨q, 2, none⟩ (.slice p2 m2 j2)) v r := by
  obtain ⟨vn, vd, e, h1, h2⟩ := h
  exact ⟨vn, vd, e, c.fillp b' p1 p2 m1 m2 j1 j2 h1, c.fillp b' p1 p2 m1 m2 j1 j2 h2⟩
/-- a reduced fraction, in memory of the call's own -/
def RRed (w : World) (r : Rat) (e : Ending) (w' : World) : Prop := ∃ (b : Bool) (a1 a2 : Option Addr) (n1 n2 c1 c2 : Nat), e = .returned (.agg #[.bool b, .slice a1 n1 c1, .slice a2 n2 c2]) ∧ RedP (fun c => w.heap.size ≤ c) w' (.agg #[.bool b, .slice a1 n1 c1, .slice a2 n2 c2]) r ∧ Gr w w'
theorem red_zero {p : Nat → Prop} {x : Bool} {D : Nat} {w : World} {vn vd : Value} (hn : Rd p w vn (nd 0)) (hd : Rd p w vd (nd 1)) : RedP p w (.agg #[.bool false, vn, vd]) (rat x 0 D) := by
  rw [rat_zero]
  exact ⟨vn, vd, rfl, hn, hd⟩
theorem red_pos {p : Nat → Prop} {N D : Nat} {x : Bool} {w : World} {vq vp : Value} (hD0 : 0 < D) (hN : 0 < N) (hq : Rd p w vq (nd (N / N.gcd D))) (hp : Rd p w vp (nd (D / N.gcd D))) : RedP p w (.agg #[.bool x, vq, vp]) (rat x N D) := by
  refine ⟨vq, vp, ?_, by rw [rat_num_abs hD0]; exact hq, by rw [rat_den hD0]; exact hp⟩
  rw [rat_neg hD0, decide_eq_true hN, Bool.and_true]
set_option maxHeartbeats 2000000 in
theorem reduced_any {N D : Nat} (x : Bool) (vn vd : Value) (w : World) (hN : Num w vn N) (hD : Num w vd D) (hD0 : 0 < D) (hn : (nd N).length ≤ 4000) (hd : (nd D).length ≤ 4000) :
    Calls Tryz.prog 100 #[.bool x, vn, vd] w (RRed w (rat x N D)) := by
  have HN := Lib.hid hN
  have HD := Lib.hid hD
  obtain ⟨an, cn, rfl⟩ := num_slice hN
  obtain ⟨ad, cd, rfl⟩ := num_slice hD
  have HD0 := Lib.hid hD0
  clear hN hD hD0
  have hR0 := C3.new w (.bool false) (.slice none 0 0) (.slice none 0 0) 49 w.heap.size rfl
  have hG0 : Gr w (w.alloc (.cells #[.bool false, .slice none 0 0, .slice none 0 0] 49)) := Gr.alloc (Gr.refl _) _
  have hs0 : (w.alloc (.cells #[.bool false, .slice none 0 0, .slice none 0 0] 49)).heap.size = w.heap.size + 1 := by simp
  by_cases h0 : 0 < N
  · have hnl : 0 < (nd N).length := by rw [nd_pos h0]; simp
    have dN : (((nd N).length : Int) == 0) = false := by rw [beq_eq_false_iff_ne]; omega
    have HN0 := Lib.hid h0
    have HG0 : Hid (0 < N.gcd D) := Lib.hid (Nat.gcd_pos_of_pos_left _ h0)
    have hgl : (nd (N.gcd D)).length ≤ 4000 := nd_le_len' hn (Nat.gcd_le_left _ h0)
    clear h0 hnl
    go_enter Tryz.func100, Tryz.ntmps100
    go_wp2_with fail
    generalize w.alloc (.cells #[.bool false, .slice none 0 0, .slice none 0 0] 49) = W0 at *
    refine (rgcd_any _ _ _ (HN.out.gr hG0) (HD.out.gr hG0) (by omega) (by omega)).mono ?_
    rintro e w1 ⟨vg, rfl, hg, hg1⟩
    have HG := Lib.hid hg
    have hR := hR0.gr hg1
    have hG := hG0.step hg1
    clear hg hg1 hR0 hG0 hs0
    go_wp2_with fail
    refine (split_any _ _ _ (HN.out.gr hG) HG.out HG0.out hn hgl).mono ?_
    rintro e w2 ⟨vq, vr, rfl, hq, -, hg2⟩
    obtain ⟨aq, cq, rfl⟩ := num_slice hq.any
    have HQ := Lib.hid (hq.imp (q := fun c => w.heap.size ≤ c) fun _ _ hc => Nat.le_trans (Gr.size hG) hc)
    have hR := hR.gr hg2
    have hG := hG.step hg2
    have HG := Lib.hid (HG.out.gr hg2)
    clear hq hg2
    go_wp2_with fail
    refine (split_any _ _ _ (HD.out.gr hG) HG.out HG0.out hd hgl).mono ?_
    rintro e w3 ⟨vp, vs, rfl, hp, -, hg3⟩
    obtain ⟨ap, cp, rfl⟩ := num_slice hp.any
    have hR := hR.gr hg3
    have hG2 := hG
    have hG := hG.step hg3
    have HQ := Lib.hid (HQ.out.gr hg3)
    have HP := Lib.hid (hp.imp (q := fun c => w.heap.size ≤ c) fun _ _ hc => Nat.le_trans (Gr.size hG2) hc)
    have hfl := hR.fill x aq ap (nd (N / N.gcd D)).length (nd (D / N.gcd D)).length cq cp
    obtain ⟨sc0, sc1, sc2, -, -, -, -, -⟩ := hfl.1
    obtain ⟨rc0, rc1, rc2, rf0, rf1, rf2, rlt, -⟩ := id hR
    clear hp hg3
    go_wp2_with fail
    refine bodyPost_ret (v := .agg #[.bool x, .slice aq (nd (N / N.gcd D)).length cq, .slice ap (nd (D / N.gcd D)).length cp]) (by simp [results, Tryz.results100, go_sem, sc0, sc1, sc2]) rfl ?_
    exact ⟨_, _, _, _, _, _, _, rfl, red_pos HD0.out HN0.out (hR.fillp x aq ap (nd (N / N.gcd D)).length (nd (D / N.gcd D)).length cq cp HQ.out) (hR.fillp x aq ap (nd (N / N.gcd D)).length (nd (D / N.gcd D)).length cq cp HP.out), C3.three hG (Nat.le_refl _) _ _ _⟩
  · have hN0 : N = 0 := by omega
    have dN : (((nd N).length : Int) == 0) = true := by rw [hN0, nd_zero]; rfl
    have HN0 := Lib.hid hN0
    clear h0 hN0
    go_enter Tryz.func100, Tryz.ntmps100
    have hl1 := num_lit (w.alloc (.cells #[.bool false, .slice none 0 0, .slice (some ⟨w.heap.size + 1, 0, none⟩) 1 1] 49)) 1 1 rfl (by omega) (by omega)
    have hF := (C3.new w (.bool false) (.slice none 0 0) (.slice (some ⟨w.heap.size + 1, 0, none⟩) 1 1) 49 w.heap.size rfl).gr (Gr.alloc (Gr.refl _) (.cells #[.int .i64 1] 3))
    have hG1 : Gr w ((w.alloc (.cells #[.bool false, .slice none 0 0, .slice (some ⟨w.heap.size + 1, 0, none⟩) 1 1] 49)).alloc (.cells #[.int .i64 1] 3)) := (Gr.alloc (Gr.refl _) _).alloc _
    obtain ⟨sc0, sc1, sc2, -, -, -, -, -⟩ := hF
    simp only [World.size_alloc] at hl1
    have HL1 : Hid (Rd (fun c => w.heap.size ≤ c) ((w.alloc (.cells #[.bool false, .slice none 0 0, .slice (some ⟨w.heap.size + 1, 0, none⟩) 1 1] 49)).alloc (.cells #[.int .i64 1] 3)) (.slice (some ⟨w.heap.size + 1, 0, none⟩) 1 1) (nd 1)) := Lib.hid (by
      obtain ⟨a, c, e, h1, h2, H⟩ := hl1
      refine ⟨a, c, e, h1, h2, fun i hi => ?_⟩
      obtain ⟨b, off, ea, -, hc⟩ := H i hi
      refine ⟨b, off, ea, ?_, hc⟩
      rw [ea] at e
      simp only [Value.slice.injEq, Option.some.injEq, Addr.mk.injEq] at e
      omega)
    clear hR0 hG0 hs0 hl1
    go_wp2_with fail
    refine bodyPost_ret (v := .agg #[.bool false, .slice none 0 0, .slice (some ⟨w.heap.size + 1, 0, none⟩) 1 1]) (by simp [results, Tryz.results100, go_sem, sc0, sc1, sc2]) rfl ?_
    refine ⟨_, _, _, _, _, _, _, rfl, ?_, hG1⟩
    rw [HN0.out]
    exact red_zero (by rw [nd_zero]; exact Rd.nil _ _) HL1.out
set_option maxHeartbeats 1000000 in
theorem rreduce_any {r : Rat} (v : Value) (w : World) (h : Fra w v r) :
    Calls Tryz.prog 58 #[v] w (RRed w r) := by
  obtain ⟨x, va, vb, A, B, rfl, hA, hB, hB0, hx, lA, lB, rfl⟩ := h
  have HA := Lib.hid hA
  have HB := Lib.hid hB
  have HB0 := Lib.hid hB0
  obtain ⟨aa, ca, rfl⟩ := num_slice hA
  obtain ⟨ab, cb, rfl⟩ := num_slice hB
  have hG1 : Gr w ((w.alloc (.cells #[.bool x, .slice aa (nd A).length ca, .slice ab (nd B).length cb] 49)).alloc (.cells #[.bool false, .slice none 0 0, .slice none 0 0] 49)) := (Gr.alloc (Gr.refl _) _).alloc _
  have hR1 := C3.new (w.alloc (.cells #[.bool x, .slice aa (nd A).length ca, .slice ab (nd B).length cb] 49)) (.bool false) (.slice none 0 0) (.slice none 0 0) 49 (w.heap.size + 1) (by simp)
  clear hA hB hB0 hx
  go_enter Tryz.func58, Tryz.ntmps58
  go_wp2_with fail
  generalize (w.alloc (.cells #[.bool x, .slice aa (nd A).length ca, .slice ab (nd B).length cb] 49)).alloc (.cells #[.bool false, .slice none 0 0, .slice none 0 0] 49) = W0 at *
  refine (reduced_any x _ _ _ (HA.out.gr hG1) (HB.out.gr hG1) HB0.out (by omega) (by omega)).mono ?_
  rintro e w2 ⟨b, a1, a2, n1, n2, c1, c2, rfl, hred, hg⟩
  have hR := hR1.gr hg
  have hG := hG1.step hg
  have HRED := Lib.hid (hred.imp (q := fun c => w.heap.size ≤ c) fun _ hc => Nat.le_trans (Gr.size hG1) hc)
  have hfl := hR.fill b a1 a2 n1 n2 c1 c2
  obtain ⟨sc0, sc1, sc2, -, -, -, -, -⟩ := hfl.1
  obtain ⟨rc0, rc1, rc2, rf0, rf1, rf2, rlt, -⟩ := id hR
  clear hred hg
  go_wp2_with fail
  refine bodyPost_ret (v := .agg #[.bool b, .slice a1 n1 c1, .slice a2 n2 c2]) (by simp [results, Tryz.results58, go_sem, sc0, sc1, sc2]) rfl ?_
  exact ⟨_, _, _, _, _, _, _, rfl, hR.redp b a1 a2 n1 n2 c1 c2 HRED.out, C3.three hG (by omega) _ _ _⟩
end Go.Proofs.YtikkobmccagdlaaGreatDoor
/- Draws of fractions. -/
namespace Go.Proofs.YtikkobmccagdlaaGreatDoor
open Go Go.RowKit Go.Sort
set_option maxRecDepth 100000
set_option linter.unusedVariables false
theorem C3.ex {w w' : World} {r b : Nat} {x y z : Value} (h : C3 w r x y z) (g : Ex b w w') (hr : r ≠ b) : C3 w' r x y z :=
  h.same (fun o => g.cell r o hr h.lt) (fun o => g.frozen r o hr h.lt) (Nat.lt_of_lt_of_le h.lt g.size)
/-- a valid fraction with this value and parts of at most n limbs, in blocks of which p is true -/
def FraN (n : Nat) (p : Nat → Prop) (w : World) (v : Value) (r : Rat) : Prop :=
  ∃ (x : Bool) (vn vd : Value) (N D : Nat), v = .agg #[.bool x, vn, vd] ∧ Rd p w vn (nd N) ∧ Rd p w vd (nd D) ∧ 0 < D ∧ (x = true → 0 < N) ∧ (nd N).length ≤ n ∧ (nd D).length ≤ n ∧ r = rat x N D
abbrev FraP (p : Nat → Prop) (w : World) (v : Value) (r : Rat) : Prop := FraN 64 p w v r
theorem FraN.mono {i j : Nat} {p : Nat → Prop} {w : World} {v : Value} {r : Rat} (h : FraN i p w v r) (hij : i ≤ j) : FraN j p w v r := by
  obtain ⟨x, vn, vd, N, D, e, h1, h2, h3, h4, h5, h6, h7⟩ := h
  exact ⟨x, vn, vd, N, D, e, h1, h2, h3, h4, Nat.le_trans h5 hij, Nat.le_trans h6 hij, h7⟩
theorem FraP.fra {p : Nat → Prop} {w : World} {v : Value} {r : Rat} (h : FraP p w v r) : Fra w v r := by
  obtain ⟨x, vn, vd, N, D, e, h1, h2, h3⟩ := h
  exact ⟨x, vn, vd, N, D, e, h1.any, h2.any, h3⟩
theorem FraN.ex {n b : Nat} {w w' : World} {v : Value} {r : Rat} (h : FraN n (· ≠ b) w v r) (g : Ex b w w') : FraN n (· ≠ b) w' v r := by
  obtain ⟨x, vn, vd, N, D, e, h1, h2, h3⟩ := h
  exact ⟨x, vn, vd, N, D, e, h1.ex g, h2.ex g, h3⟩
theorem FraP.ex {b : Nat} {w w' : World} {v : Value} {r : Rat} (h : FraP (· ≠ b) w v r) (g : Ex b w w') : FraP (· ≠ b) w' v r := FraN.ex h g
theorem RedP.fran {n : Nat} {p : Nat → Prop} {w : World} {v : Value} {r : Rat} (h : RedP p w v r) (hb : Bd n r) : FraN n p w v r := by
  obtain ⟨vn, vd, h1, h2, h3⟩ := h
  refine ⟨_, vn, vd, _, _, h1, h2, h3, r.den_pos, fun hx => ?_, hb.1, hb.2, (rat_self r).symm⟩
  have := of_decide_eq_true hx
  omega
/-- a drawn fraction; its parts have at most m limbs -/
def FrPostN (m B b n : Nat) (w : World) (e : Ending) (w' : World) : Prop :=
  ∃ (x : Bool) (a1 a2 : Option Addr) (n1 n2 c1 c2 : Nat) (r : Rat), e = .returned (.agg #[.bool x, .slice a1 n1 c1, .slice a2 n2 c2]) ∧ FraN m (· ≠ b) w' (.agg #[.bool x, .slice a1 n1 c1, .slice a2 n2 c2]) r ∧ Bd n r ∧ Cod B w' b ∧ Ex b w w'
abbrev FrPost (B b n : Nat) (w : World) (e : Ending) (w' : World) : Prop := FrPostN 64 B b n w e w'
set_option maxHeartbeats 4000000 in
theorem frac_n {B : Nat} (b n : Nat) (w : World) (h : Cod B w b) (hBw : B ≤ w.heap.size) (hn0 : 1 ≤ n) (hn : n ≤ 60) :
    Calls Tryz.prog 38 #[.pointer (some ⟨b, 0, none⟩), .int .i64 n] w (FrPostN n B b n w) := by
  have hlt := h.lt
  have hR0 := C3.new w (.bool false) (.slice none 0 0) (.slice none 0 0) 49 w.heap.size rfl
  have hc0 := h.gr (Gr.alloc (Gr.refl _) (.cells #[.bool false, .slice none 0 0, .slice none 0 0] 49))
  have he0 : Ex b w (w.alloc (.cells #[.bool false, .slice none 0 0, .slice none 0 0] 49)) := Ex.ofGr (Gr.alloc (Gr.refl _) _)
  have hs0 : (w.alloc (.cells #[.bool false, .slice none 0 0, .slice none 0 0] 49)).heap.size = w.heap.size + 1 := by simp
  go_enter Tryz.func38, Tryz.ntmps38
  go_wp2_with fail
  generalize w.alloc (.cells #[.bool false, .slice none 0 0, .slice none 0 0] 49) = W0 at *
  refine (next_any b 2 _ (by omega) (by omega) hc0).mono ?_
  rintro e w1 ⟨x, rfl, x0, x1, hc1, he1⟩
  go_wp2_with fail
  refine (nat_any b n _ hc1 (by have := he1.size; omega) hn).mono ?_
  rintro e w2 ⟨vN, N, rfl, hN, lN, hc2, he2⟩
  go_wp2_with fail
  refine (nat_any b n _ hc2 (by have := he1.size; have := he2.size; omega) hn).mono ?_
  rintro e w3 ⟨vD, D, rfl, hD, lD, hc3, he3⟩
  have hE3 := ((he0.trans he1).trans he2).trans he3
  have hR3 := ((hR0.ex he1 (by omega)).ex he2 (by omega)).ex he3 (by omega)
  have hN3 := hN.ex he3
  obtain ⟨aN, cN, rfl⟩ := num_slice hN3.any
  obtain ⟨aD, cD, rfl⟩ := num_slice hD.any
  have hsz : w.heap.size + 1 ≤ w3.heap.size := by have := he1.size; have := he2.size; have := he3.size; omega
  clear hR0 hc0 he0 hs0 hc1 he1 hN hc2 he2 he3
  obtain ⟨bf, hbf⟩ : ∃ bf, bf = w3.heap.size := ⟨_, rfl⟩
  have hbfs : w.heap.size + 1 ≤ bf := by omega
  have HBF := Lib.hid hbf
  clear hbf
  have hlD : (nd D).length ≤ n := lD
  have hx : x = 0 ∨ x = 1 := by omega
  clear x0 x1
  rcases hx with rfl | rfl
  · skip
    by_cases hD0 : 0 < D
    · have hdl : 0 < (nd D).length := by rw [nd_pos hD0]; simp
      have dD : (((nd D).length : Int) == 0) = false := by rw [beq_eq_false_iff_ne]; omega
      have HDP := Lib.hid hD0
      have hF5 := C3.new w3 (.bool false) (.slice aN (nd N).length cN) (.slice aD (nd D).length cD) 49 bf HBF.out
      have hR5 := hR3.gr (Gr.alloc (Gr.refl _) (.cells #[.bool false, .slice aN (nd N).length cN, .slice aD (nd D).length cD] 49))
      have hc5 := hc3.gr (Gr.alloc (Gr.refl _) (.cells #[.bool false, .slice aN (nd N).length cN, .slice aD (nd D).length cD] 49))
      have he5 := hE3.trans (Ex.ofGr (Gr.alloc (Gr.refl _) (.cells #[.bool false, .slice aN (nd N).length cN, .slice aD (nd D).length cD] 49)))
      have HN5 := Lib.hid (hN3.gr (Gr.alloc (Gr.refl _) (.cells #[.bool false, .slice aN (nd N).length cN, .slice aD (nd D).length cD] 49)))
      have HD5 := Lib.hid (hD.gr (Gr.alloc (Gr.refl _) (.cells #[.bool false, .slice aN (nd N).length cN, .slice aD (nd D).length cD] 49)))
      clear hD0 hdl hR3 hc3 hE3 hN3 hD
      go_wp2_with fail
      rw [← HBF.out]
      generalize w3.alloc (.cells #[.bool false, .slice aN (nd N).length cN, .slice aD (nd D).length cD] 49) = w5 at *
      refine (next_any b 2 _ (by omega) (by omega) hc5).mono ?_
      rintro e w6 ⟨z, rfl, z0, z1, hc6, he6⟩
      have hF := hF5.ex he6 (by omega)
      have hR := hR5.ex he6 (by omega)
      have hE := he5.trans he6
      have HN := Lib.hid (HN5.out.ex he6)
      have HDD := Lib.hid (HD5.out.ex he6)
      have hbs : b < w6.heap.size := hc6.lt
      clear hc5 he5 he6 hF5 hR5 HN5 HD5
      obtain ⟨fc0, fc1, fc2, ff0, ff1, ff2, flt, -⟩ := id hF
      by_cases hz : z = 1
      · subst hz
        go_wp2_with fail
        have hfr : Fra w6 (.agg #[.bool false, .slice aN (nd N).length cN, .slice aD (nd D).length cD]) (rat false N D) := ⟨false, _, _, N, D, rfl, HN.out.any, HDD.out.any, HDP.out, (fun h => by cases h), by omega, by omega, rfl⟩
        refine (rreduce_any _ _ hfr).mono ?_
        rintro e w7 ⟨b7, a1, a2, n1, n2, k1, k2, rfl, hred, hg7⟩
        have hF7 := hF.gr hg7
        have hR7 := hR.gr hg7
        have hred7 := hred.imp (q := (· ≠ b)) fun c hc => by omega
        have hF8 := hF7.fill b7 a1 a2 n1 n2 k1 k2
        have HRED := Lib.hid (hF7.redp b7 a1 a2 n1 n2 k1 k2 hred7)
        have hR8 := ((hR7.other (o := 0) (s := bf) (.bool b7) (by omega)).other (o := 1) (s := bf) (.slice a1 n1 k1) (by omega)).other (o := 2) (s := bf) (.slice a2 n2 k2) (by omega)
        have hc8 := (((hc6.gr hg7).set bf 0 (by omega) (by omega) (.bool b7)).set bf 1 (by omega) (by omega) (.slice a1 n1 k1)).set bf 2 (by omega) (by omega) (.slice a2 n2 k2)
        have he8 := (((hE.trans (Ex.ofGr hg7)).setNew (p := ⟨bf, 0, none⟩) (by simp; omega) (.bool b7)).setNew (p := ⟨bf, 1, none⟩) (by simp; omega) (.slice a1 n1 k1)).setNew (p := ⟨bf, 2, none⟩) (by simp; omega) (.slice a2 n2 k2)
        clear fc0 fc1 fc2 ff0 ff1 ff2 flt
        obtain ⟨fc0, fc1, fc2, ff0, ff1, ff2, flt, -⟩ := id hF7
        obtain ⟨ec0, ec1, ec2, ef0, ef1, ef2, elt, -⟩ := id hF8.1
        clear hF hR hred hred7 hfr hc6 hE hg7 hF7 hR7
        have hfl := hR8.fill b7 a1 a2 n1 n2 k1 k2
        obtain ⟨sc0, sc1, sc2, -, -, -, -, -⟩ := hfl.1
        obtain ⟨rc0, rc1, rc2, rf0, rf1, rf2, rlt, -⟩ := id hR8
        have HRED9 := Lib.hid (hR8.redp b7 a1 a2 n1 n2 k1 k2 HRED.out)
        have hbd : Bd n (rat false N D) := bd_rat HDP.out lN hlD
        have HBD := Lib.hid hbd
        have hc9 := ((hc8.set w.heap.size 0 (by omega) (by omega) (.bool b7)).set w.heap.size 1 (by omega) (by omega) (.slice a1 n1 k1)).set w.heap.size 2 (by omega) (by omega) (.slice a2 n2 k2)
        have he9 := ((he8.setNew (p := ⟨w.heap.size, 0, none⟩) (Nat.le_refl _) (.bool b7)).setNew (p := ⟨w.heap.size, 1, none⟩) (Nat.le_refl _) (.slice a1 n1 k1)).setNew (p := ⟨w.heap.size, 2, none⟩) (Nat.le_refl _) (.slice a2 n2 k2)
        clear hbd
        go_wp2_with (fail)
        refine bodyPost_ret (v := .agg #[.bool b7, .slice a1 n1 k1, .slice a2 n2 k2]) (by simp [results, Tryz.results38, go_sem, sc0, sc1, sc2]) rfl ?_
        exact ⟨_, _, _, _, _, _, _, _, rfl, HRED9.out.fran HBD.out, HBD.out, hc9, he9⟩
      · have hz0 : z = 0 := by omega
        subst hz0
        have hfl := hR.fill false aN aD (nd N).length (nd D).length cN cD
        obtain ⟨sc0, sc1, sc2, -, -, -, -, -⟩ := hfl.1
        obtain ⟨rc0, rc1, rc2, rf0, rf1, rf2, rlt, -⟩ := id hR
        have hbd : Bd n (rat false N D) := bd_rat HDP.out lN hlD
        have HBD := Lib.hid hbd
        have hN9 := Lib.hid (hR.fillp false aN aD (nd N).length (nd D).length cN cD HN.out)
        have hD9 := Lib.hid (hR.fillp false aN aD (nd N).length (nd D).length cN cD HDD.out)
        have hc9 := ((hc6.set w.heap.size 0 (by omega) (by omega) (.bool false)).set w.heap.size 1 (by omega) (by omega) (.slice aN (nd N).length cN)).set w.heap.size 2 (by omega) (by omega) (.slice aD (nd D).length cD)
        have he9 := ((hE.setNew (p := ⟨w.heap.size, 0, none⟩) (Nat.le_refl _) (.bool false)).setNew (p := ⟨w.heap.size, 1, none⟩) (Nat.le_refl _) (.slice aN (nd N).length cN)).setNew (p := ⟨w.heap.size, 2, none⟩) (Nat.le_refl _) (.slice aD (nd D).length cD)
        clear hbd
        go_wp2_with fail
        refine bodyPost_ret (v := .agg #[.bool false, .slice aN (nd N).length cN, .slice aD (nd D).length cD]) (by simp [results, Tryz.results38, go_sem, sc0, sc1, sc2]) rfl ?_
        exact ⟨_, _, _, _, _, _, _, _, rfl, ⟨false, _, _, N, D, rfl, hN9.out, hD9.out, HDP.out, (fun h => by cases h), by omega, by omega, rfl⟩, HBD.out, hc9, he9⟩
    · have dD : (((nd D).length : Int) == 0) = true := by rw [show D = 0 by omega, nd_zero]; rfl
      have hF4 := C3.new w3 (.bool false) (.slice aN (nd N).length cN) (.slice aD (nd D).length cD) 49 bf HBF.out
      have hR4 := hR3.gr (Gr.alloc (Gr.refl _) (.cells #[.bool false, .slice aN (nd N).length cN, .slice aD (nd D).length cD] 49))
      have hc4 := hc3.gr (Gr.alloc (Gr.refl _) (.cells #[.bool false, .slice aN (nd N).length cN, .slice aD (nd D).length cD] 49))
      have he4 := hE3.trans (Ex.ofGr (Gr.alloc (Gr.refl _) (.cells #[.bool false, .slice aN (nd N).length cN, .slice aD (nd D).length cD] 49)))
      have HN4 := Lib.hid (hN3.gr (Gr.alloc (Gr.refl _) (.cells #[.bool false, .slice aN (nd N).length cN, .slice aD (nd D).length cD] 49)))
      clear hD0 hR3 hc3 hE3 hN3 hD
      go_wp2_with fail
      rw [← HBF.out]
      generalize w3.alloc (.cells #[.bool false, .slice aN (nd N).length cN, .slice aD (nd D).length cD] 49) = w4 at *
      refine (next_any b 12 _ (by omega) (by omega) hc4).mono ?_
      rintro e w5 ⟨y, rfl, y0, y1, hc5, he5⟩
      obtain ⟨y, rfl⟩ := Int.eq_ofNat_of_zero_le y0
      have hF5 := hF4.ex he5 (by omega)
      have hR5 := hR4.ex he5 (by omega)
      have hE5 := he4.trans he5
      have hN5 := HN4.out.ex he5
      have hbl5 : b < w5.heap.size := hc5.lt
      have hlit := num_lit w5 (1 + y) (1 + (y : Int)) (by omega) (by omega) (by omega)
      have hD5 : Rd (· ≠ b) (w5.alloc (.cells #[.int .i64 (1 + (y : Int))] 3)) (.slice (some ⟨w5.heap.size, 0, none⟩) 1 1) (nd (1 + y)) := by
        obtain ⟨a, c, e, h1, h2, H⟩ := hlit
        refine ⟨a, c, e, h1, h2, fun i hi => ?_⟩
        obtain ⟨k, off, ea, -, hc⟩ := H i hi
        refine ⟨k, off, ea, ?_, hc⟩
        rw [ea] at e
        simp only [Value.slice.injEq, Option.some.injEq, Addr.mk.injEq] at e
        omega
      have hF6 := hF5.gr (Gr.alloc (Gr.refl _) (.cells #[.int .i64 (1 + (y : Int))] 3))
      have hR6 := hR5.gr (Gr.alloc (Gr.refl _) (.cells #[.int .i64 (1 + (y : Int))] 3))
      have hc6 := hc5.gr (Gr.alloc (Gr.refl _) (.cells #[.int .i64 (1 + (y : Int))] 3))
      have he6 := hE5.alloc (.cells #[.int .i64 (1 + (y : Int))] 3)
      have hN6 := hN5.gr (Gr.alloc (Gr.refl _) (.cells #[.int .i64 (1 + (y : Int))] 3))
      have hs6 : (w5.alloc (.cells #[.int .i64 (1 + (y : Int))] 3)).heap.size = w5.heap.size + 1 := by simp
      have hF7 := hF6.set2 (.slice (some ⟨w5.heap.size, 0, none⟩) 1 1)
      have hR7 := hR6.other (o := 2) (s := bf) (.slice (some ⟨w5.heap.size, 0, none⟩) 1 1) (by omega)
      have hc7 := hc6.set bf 2 (by omega) (by omega) (.slice (some ⟨w5.heap.size, 0, none⟩) 1 1)
      have he7 := he6.setNew (p := ⟨bf, 2, none⟩) (by simp; omega) (.slice (some ⟨w5.heap.size, 0, none⟩) 1 1)
      have hN7 := hF6.rdp (o := 2) hN6 (.slice (some ⟨w5.heap.size, 0, none⟩) 1 1)
      have hD7 := hF6.rdp (o := 2) hD5 (.slice (some ⟨w5.heap.size, 0, none⟩) 1 1)
      have hF8 := hF7.set0 (.bool false)
      have hR8 := hR7.other (o := 0) (s := bf) (.bool false) (by omega)
      have hc8 := hc7.set bf 0 (by omega) (by omega) (.bool false)
      have he8 := he7.setNew (p := ⟨bf, 0, none⟩) (by simp; omega) (.bool false)
      have HN8 := Lib.hid (hF7.rdp (o := 0) hN7 (.bool false))
      have HD8 := Lib.hid (hF7.rdp (o := 0) hD7 (.bool false))
      have hlD : (nd (1 + y)).length ≤ n := by have := (nd_len (1 + y) 1).2 (by omega); omega
      have HDP : Hid (0 < 1 + y) := Lib.hid (by omega)
      obtain ⟨fc0, fc1, fc2, ff0, ff1, ff2, flt, -⟩ := id hF6
      obtain ⟨gc0, gc1, gc2, gf0, gf1, gf2, glt, -⟩ := id hF7
      clear hlit hD5 hN6 hN7 hD7 hN5 hE5 hF5 hR5 hc5 he5 hR4 hc4 he4 hF4 HN4 hR6 hc6 he6 hR7 hc7 he7 hF6 hF7
      go_wp2_with fail
      clear fc0 fc1 fc2 ff0 ff1 ff2 flt gc0 gc1 gc2 gf0 gf1 gf2 glt
      have hF5 := hF8
      have hR5 := hR8
      have hc5 := hc8
      have he5 := he8
      have HN5 := HN8
      have HD5 := HD8
      clear hF8 hR8 hc8 he8 HN8 HD8
      generalize w5.heap.size = aL at *
      generalize ((w5.alloc (.cells #[.int .i64 (1 + (y : Int))] 3)).setCell ⟨bf, 2, none⟩ (.slice (some ⟨aL, 0, none⟩) 1 1)).setCell ⟨bf, 0, none⟩ (.bool false) = w6 at *
      refine (next_any b 2 _ (by omega) (by omega) hc5).mono ?_
      rintro e w6 ⟨z, rfl, z0, z1, hc6, he6⟩
      have hF := hF5.ex he6 (by omega)
      have hR := hR5.ex he6 (by omega)
      have hE := he5.trans he6
      have HN := Lib.hid (HN5.out.ex he6)
      have HDD := Lib.hid (HD5.out.ex he6)
      have hbs : b < w6.heap.size := hc6.lt
      clear hc5 he5 he6 hF5 hR5 HN5 HD5
      obtain ⟨fc0, fc1, fc2, ff0, ff1, ff2, flt, -⟩ := id hF
      by_cases hz : z = 1
      · subst hz
        go_wp2_with fail
        have hfr : Fra w6 (.agg #[.bool false, .slice aN (nd N).length cN, .slice (some ⟨aL, 0, none⟩) 1 1]) (rat false N (1 + y)) := ⟨false, _, _, N, (1 + y), rfl, HN.out.any, HDD.out.any, HDP.out, (fun h => by cases h), by omega, by omega, rfl⟩
        refine (rreduce_any _ _ hfr).mono ?_
        rintro e w7 ⟨b7, a1, a2, n1, n2, k1, k2, rfl, hred, hg7⟩
        have hF7 := hF.gr hg7
        have hR7 := hR.gr hg7
        have hred7 := hred.imp (q := (· ≠ b)) fun c hc => by omega
        have hF8 := hF7.fill b7 a1 a2 n1 n2 k1 k2
        have HRED := Lib.hid (hF7.redp b7 a1 a2 n1 n2 k1 k2 hred7)
        have hR8 := ((hR7.other (o := 0) (s := bf) (.bool b7) (by omega)).other (o := 1) (s := bf) (.slice a1 n1 k1) (by omega)).other (o := 2) (s := bf) (.slice a2 n2 k2) (by omega)
        have hc8 := (((hc6.gr hg7).set bf 0 (by omega) (by omega) (.bool b7)).set bf 1 (by omega) (by omega) (.slice a1 n1 k1)).set bf 2 (by omega) (by omega) (.slice a2 n2 k2)
        have he8 := (((hE.trans (Ex.ofGr hg7)).setNew (p := ⟨bf, 0, none⟩) (by simp; omega) (.bool b7)).setNew (p := ⟨bf, 1, none⟩) (by simp; omega) (.slice a1 n1 k1)).setNew (p := ⟨bf, 2, none⟩) (by simp; omega) (.slice a2 n2 k2)
        clear fc0 fc1 fc2 ff0 ff1 ff2 flt
        obtain ⟨fc0, fc1, fc2, ff0, ff1, ff2, flt, -⟩ := id hF7
        obtain ⟨ec0, ec1, ec2, ef0, ef1, ef2, elt, -⟩ := id hF8.1
        clear hF hR hred hred7 hfr hc6 hE hg7 hF7 hR7
        have hfl := hR8.fill b7 a1 a2 n1 n2 k1 k2
        obtain ⟨sc0, sc1, sc2, -, -, -, -, -⟩ := hfl.1
        obtain ⟨rc0, rc1, rc2, rf0, rf1, rf2, rlt, -⟩ := id hR8
        have HRED9 := Lib.hid (hR8.redp b7 a1 a2 n1 n2 k1 k2 HRED.out)
        have hbd : Bd n (rat false N (1 + y)) := bd_rat HDP.out lN hlD
        have HBD := Lib.hid hbd
        have hc9 := ((hc8.set w.heap.size 0 (by omega) (by omega) (.bool b7)).set w.heap.size 1 (by omega) (by omega) (.slice a1 n1 k1)).set w.heap.size 2 (by omega) (by omega) (.slice a2 n2 k2)
        have he9 := ((he8.setNew (p := ⟨w.heap.size, 0, none⟩) (Nat.le_refl _) (.bool b7)).setNew (p := ⟨w.heap.size, 1, none⟩) (Nat.le_refl _) (.slice a1 n1 k1)).setNew (p := ⟨w.heap.size, 2, none⟩) (Nat.le_refl _) (.slice a2 n2 k2)
        clear hbd
        go_wp2_with (fail)
        refine bodyPost_ret (v := .agg #[.bool b7, .slice a1 n1 k1, .slice a2 n2 k2]) (by simp [results, Tryz.results38, go_sem, sc0, sc1, sc2]) rfl ?_
        exact ⟨_, _, _, _, _, _, _, _, rfl, HRED9.out.fran HBD.out, HBD.out, hc9, he9⟩
      · have hz0 : z = 0 := by omega
        subst hz0
        have hfl := hR.fill false aN (some ⟨aL, 0, none⟩) (nd N).length 1 cN 1
        obtain ⟨sc0, sc1, sc2, -, -, -, -, -⟩ := hfl.1
        obtain ⟨rc0, rc1, rc2, rf0, rf1, rf2, rlt, -⟩ := id hR
        have hbd : Bd n (rat false N (1 + y)) := bd_rat HDP.out lN hlD
        have HBD := Lib.hid hbd
        have hN9 := Lib.hid (hR.fillp false aN (some ⟨aL, 0, none⟩) (nd N).length 1 cN 1 HN.out)
        have hD9 := Lib.hid (hR.fillp false aN (some ⟨aL, 0, none⟩) (nd N).length 1 cN 1 HDD.out)
        have hc9 := ((hc6.set w.heap.size 0 (by omega) (by omega) (.bool false)).set w.heap.size 1 (by omega) (by omega) (.slice aN (nd N).length cN)).set w.heap.size 2 (by omega) (by omega) (.slice (some ⟨aL, 0, none⟩) 1 1)
        have he9 := ((hE.setNew (p := ⟨w.heap.size, 0, none⟩) (Nat.le_refl _) (.bool false)).setNew (p := ⟨w.heap.size, 1, none⟩) (Nat.le_refl _) (.slice aN (nd N).length cN)).setNew (p := ⟨w.heap.size, 2, none⟩) (Nat.le_refl _) (.slice (some ⟨aL, 0, none⟩) 1 1)
        clear hbd
        go_wp2_with fail
        refine bodyPost_ret (v := .agg #[.bool false, .slice aN (nd N).length cN, .slice (some ⟨aL, 0, none⟩) 1 1]) (by simp [results, Tryz.results38, go_sem, sc0, sc1, sc2]) rfl ?_
        exact ⟨_, _, _, _, _, _, _, _, rfl, ⟨false, _, _, N, (1 + y), rfl, hN9.out, hD9.out, HDP.out, (fun h => by cases h), by omega, by omega, rfl⟩, HBD.out, hc9, he9⟩
  · by_cases hN0 : 0 < N
    · have hnl : 0 < (nd N).length := by rw [nd_pos hN0]; simp
      have dN : decide (0 < (nd N).length) = true := by simpa using hnl
      have HNP := Lib.hid hN0
      clear hN0 hnl
      by_cases hD0 : 0 < D
      · have hdl : 0 < (nd D).length := by rw [nd_pos hD0]; simp
        have dD : (((nd D).length : Int) == 0) = false := by rw [beq_eq_false_iff_ne]; omega
        have HDP := Lib.hid hD0
        have hF5 := C3.new w3 (.bool true) (.slice aN (nd N).length cN) (.slice aD (nd D).length cD) 49 bf HBF.out
        have hR5 := hR3.gr (Gr.alloc (Gr.refl _) (.cells #[.bool true, .slice aN (nd N).length cN, .slice aD (nd D).length cD] 49))
        have hc5 := hc3.gr (Gr.alloc (Gr.refl _) (.cells #[.bool true, .slice aN (nd N).length cN, .slice aD (nd D).length cD] 49))
        have he5 := hE3.trans (Ex.ofGr (Gr.alloc (Gr.refl _) (.cells #[.bool true, .slice aN (nd N).length cN, .slice aD (nd D).length cD] 49)))
        have HN5 := Lib.hid (hN3.gr (Gr.alloc (Gr.refl _) (.cells #[.bool true, .slice aN (nd N).length cN, .slice aD (nd D).length cD] 49)))
        have HD5 := Lib.hid (hD.gr (Gr.alloc (Gr.refl _) (.cells #[.bool true, .slice aN (nd N).length cN, .slice aD (nd D).length cD] 49)))
        clear hD0 hdl hR3 hc3 hE3 hN3 hD
        go_wp2_with fail
        rw [← HBF.out]
        generalize w3.alloc (.cells #[.bool true, .slice aN (nd N).length cN, .slice aD (nd D).length cD] 49) = w5 at *
        refine (next_any b 2 _ (by omega) (by omega) hc5).mono ?_
        rintro e w6 ⟨z, rfl, z0, z1, hc6, he6⟩
        have hF := hF5.ex he6 (by omega)
        have hR := hR5.ex he6 (by omega)
        have hE := he5.trans he6
        have HN := Lib.hid (HN5.out.ex he6)
        have HDD := Lib.hid (HD5.out.ex he6)
        have hbs : b < w6.heap.size := hc6.lt
        clear hc5 he5 he6 hF5 hR5 HN5 HD5
        obtain ⟨fc0, fc1, fc2, ff0, ff1, ff2, flt, -⟩ := id hF
        by_cases hz : z = 1
        · subst hz
          go_wp2_with fail
          have hfr : Fra w6 (.agg #[.bool true, .slice aN (nd N).length cN, .slice aD (nd D).length cD]) (rat true N D) := ⟨true, _, _, N, D, rfl, HN.out.any, HDD.out.any, HDP.out, (fun _ => HNP.out), by omega, by omega, rfl⟩
          refine (rreduce_any _ _ hfr).mono ?_
          rintro e w7 ⟨b7, a1, a2, n1, n2, k1, k2, rfl, hred, hg7⟩
          have hF7 := hF.gr hg7
          have hR7 := hR.gr hg7
          have hred7 := hred.imp (q := (· ≠ b)) fun c hc => by omega
          have hF8 := hF7.fill b7 a1 a2 n1 n2 k1 k2
          have HRED := Lib.hid (hF7.redp b7 a1 a2 n1 n2 k1 k2 hred7)
          have hR8 := ((hR7.other (o := 0) (s := bf) (.bool b7) (by omega)).other (o := 1) (s := bf) (.slice a1 n1 k1) (by omega)).other (o := 2) (s := bf) (.slice a2 n2 k2) (by omega)
          have hc8 := (((hc6.gr hg7).set bf 0 (by omega) (by omega) (.bool b7)).set bf 1 (by omega) (by omega) (.slice a1 n1 k1)).set bf 2 (by omega) (by omega) (.slice a2 n2 k2)
          have he8 := (((hE.trans (Ex.ofGr hg7)).setNew (p := ⟨bf, 0, none⟩) (by simp; omega) (.bool b7)).setNew (p := ⟨bf, 1, none⟩) (by simp; omega) (.slice a1 n1 k1)).setNew (p := ⟨bf, 2, none⟩) (by simp; omega) (.slice a2 n2 k2)
          clear fc0 fc1 fc2 ff0 ff1 ff2 flt
          obtain ⟨fc0, fc1, fc2, ff0, ff1, ff2, flt, -⟩ := id hF7
          obtain ⟨ec0, ec1, ec2, ef0, ef1, ef2, elt, -⟩ := id hF8.1
          clear hF hR hred hred7 hfr hc6 hE hg7 hF7 hR7
          have hfl := hR8.fill b7 a1 a2 n1 n2 k1 k2
          obtain ⟨sc0, sc1, sc2, -, -, -, -, -⟩ := hfl.1
          obtain ⟨rc0, rc1, rc2, rf0, rf1, rf2, rlt, -⟩ := id hR8
          have HRED9 := Lib.hid (hR8.redp b7 a1 a2 n1 n2 k1 k2 HRED.out)
          have hbd : Bd n (rat true N D) := bd_rat HDP.out lN hlD
          have HBD := Lib.hid hbd
          have hc9 := ((hc8.set w.heap.size 0 (by omega) (by omega) (.bool b7)).set w.heap.size 1 (by omega) (by omega) (.slice a1 n1 k1)).set w.heap.size 2 (by omega) (by omega) (.slice a2 n2 k2)
          have he9 := ((he8.setNew (p := ⟨w.heap.size, 0, none⟩) (Nat.le_refl _) (.bool b7)).setNew (p := ⟨w.heap.size, 1, none⟩) (Nat.le_refl _) (.slice a1 n1 k1)).setNew (p := ⟨w.heap.size, 2, none⟩) (Nat.le_refl _) (.slice a2 n2 k2)
          clear hbd
          go_wp2_with (fail)
          refine bodyPost_ret (v := .agg #[.bool b7, .slice a1 n1 k1, .slice a2 n2 k2]) (by simp [results, Tryz.results38, go_sem, sc0, sc1, sc2]) rfl ?_
          exact ⟨_, _, _, _, _, _, _, _, rfl, HRED9.out.fran HBD.out, HBD.out, hc9, he9⟩
        · have hz0 : z = 0 := by omega
          subst hz0
          have hfl := hR.fill true aN aD (nd N).length (nd D).length cN cD
          obtain ⟨sc0, sc1, sc2, -, -, -, -, -⟩ := hfl.1
          obtain ⟨rc0, rc1, rc2, rf0, rf1, rf2, rlt, -⟩ := id hR
          have hbd : Bd n (rat true N D) := bd_rat HDP.out lN hlD
          have HBD := Lib.hid hbd
          have hN9 := Lib.hid (hR.fillp true aN aD (nd N).length (nd D).length cN cD HN.out)
          have hD9 := Lib.hid (hR.fillp true aN aD (nd N).length (nd D).length cN cD HDD.out)
          have hc9 := ((hc6.set w.heap.size 0 (by omega) (by omega) (.bool true)).set w.heap.size 1 (by omega) (by omega) (.slice aN (nd N).length cN)).set w.heap.size 2 (by omega) (by omega) (.slice aD (nd D).length cD)
          have he9 := ((hE.setNew (p := ⟨w.heap.size, 0, none⟩) (Nat.le_refl _) (.bool true)).setNew (p := ⟨w.heap.size, 1, none⟩) (Nat.le_refl _) (.slice aN (nd N).length cN)).setNew (p := ⟨w.heap.size, 2, none⟩) (Nat.le_refl _) (.slice aD (nd D).length cD)
          clear hbd
          go_wp2_with fail
          refine bodyPost_ret (v := .agg #[.bool true, .slice aN (nd N).length cN, .slice aD (nd D).length cD]) (by simp [results, Tryz.results38, go_sem, sc0, sc1, sc2]) rfl ?_
          exact ⟨_, _, _, _, _, _, _, _, rfl, ⟨true, _, _, N, D, rfl, hN9.out, hD9.out, HDP.out, (fun _ => HNP.out), by omega, by omega, rfl⟩, HBD.out, hc9, he9⟩
      · have dD : (((nd D).length : Int) == 0) = true := by rw [show D = 0 by omega, nd_zero]; rfl
        have hF4 := C3.new w3 (.bool true) (.slice aN (nd N).length cN) (.slice aD (nd D).length cD) 49 bf HBF.out
        have hR4 := hR3.gr (Gr.alloc (Gr.refl _) (.cells #[.bool true, .slice aN (nd N).length cN, .slice aD (nd D).length cD] 49))
        have hc4 := hc3.gr (Gr.alloc (Gr.refl _) (.cells #[.bool true, .slice aN (nd N).length cN, .slice aD (nd D).length cD] 49))
        have he4 := hE3.trans (Ex.ofGr (Gr.alloc (Gr.refl _) (.cells #[.bool true, .slice aN (nd N).length cN, .slice aD (nd D).length cD] 49)))
        have HN4 := Lib.hid (hN3.gr (Gr.alloc (Gr.refl _) (.cells #[.bool true, .slice aN (nd N).length cN, .slice aD (nd D).length cD] 49)))
        clear hD0 hR3 hc3 hE3 hN3 hD
        go_wp2_with fail
        rw [← HBF.out]
        generalize w3.alloc (.cells #[.bool true, .slice aN (nd N).length cN, .slice aD (nd D).length cD] 49) = w4 at *
        refine (next_any b 12 _ (by omega) (by omega) hc4).mono ?_
        rintro e w5 ⟨y, rfl, y0, y1, hc5, he5⟩
        obtain ⟨y, rfl⟩ := Int.eq_ofNat_of_zero_le y0
        have hF5 := hF4.ex he5 (by omega)
        have hR5 := hR4.ex he5 (by omega)
        have hE5 := he4.trans he5
        have hN5 := HN4.out.ex he5
        have hbl5 : b < w5.heap.size := hc5.lt
        have hlit := num_lit w5 (1 + y) (1 + (y : Int)) (by omega) (by omega) (by omega)
        have hD5 : Rd (· ≠ b) (w5.alloc (.cells #[.int .i64 (1 + (y : Int))] 3)) (.slice (some ⟨w5.heap.size, 0, none⟩) 1 1) (nd (1 + y)) := by
          obtain ⟨a, c, e, h1, h2, H⟩ := hlit
          refine ⟨a, c, e, h1, h2, fun i hi => ?_⟩
          obtain ⟨k, off, ea, -, hc⟩ := H i hi
          refine ⟨k, off, ea, ?_, hc⟩
          rw [ea] at e
          simp only [Value.slice.injEq, Option.some.injEq, Addr.mk.injEq] at e
          omega
        have hF6 := hF5.gr (Gr.alloc (Gr.refl _) (.cells #[.int .i64 (1 + (y : Int))] 3))
        have hR6 := hR5.gr (Gr.alloc (Gr.refl _) (.cells #[.int .i64 (1 + (y : Int))] 3))
        have hc6 := hc5.gr (Gr.alloc (Gr.refl _) (.cells #[.int .i64 (1 + (y : Int))] 3))
        have he6 := hE5.alloc (.cells #[.int .i64 (1 + (y : Int))] 3)
        have hN6 := hN5.gr (Gr.alloc (Gr.refl _) (.cells #[.int .i64 (1 + (y : Int))] 3))
        have hs6 : (w5.alloc (.cells #[.int .i64 (1 + (y : Int))] 3)).heap.size = w5.heap.size + 1 := by simp
        have hF7 := hF6.set2 (.slice (some ⟨w5.heap.size, 0, none⟩) 1 1)
        have hR7 := hR6.other (o := 2) (s := bf) (.slice (some ⟨w5.heap.size, 0, none⟩) 1 1) (by omega)
        have hc7 := hc6.set bf 2 (by omega) (by omega) (.slice (some ⟨w5.heap.size, 0, none⟩) 1 1)
        have he7 := he6.setNew (p := ⟨bf, 2, none⟩) (by simp; omega) (.slice (some ⟨w5.heap.size, 0, none⟩) 1 1)
        have hN7 := hF6.rdp (o := 2) hN6 (.slice (some ⟨w5.heap.size, 0, none⟩) 1 1)
        have hD7 := hF6.rdp (o := 2) hD5 (.slice (some ⟨w5.heap.size, 0, none⟩) 1 1)
        have hF8 := hF7.set0 (.bool true)
        have hR8 := hR7.other (o := 0) (s := bf) (.bool true) (by omega)
        have hc8 := hc7.set bf 0 (by omega) (by omega) (.bool true)
        have he8 := he7.setNew (p := ⟨bf, 0, none⟩) (by simp; omega) (.bool true)
        have HN8 := Lib.hid (hF7.rdp (o := 0) hN7 (.bool true))
        have HD8 := Lib.hid (hF7.rdp (o := 0) hD7 (.bool true))
        have hlD : (nd (1 + y)).length ≤ n := by have := (nd_len (1 + y) 1).2 (by omega); omega
        have HDP : Hid (0 < 1 + y) := Lib.hid (by omega)
        obtain ⟨fc0, fc1, fc2, ff0, ff1, ff2, flt, -⟩ := id hF6
        obtain ⟨gc0, gc1, gc2, gf0, gf1, gf2, glt, -⟩ := id hF7
        clear hlit hD5 hN6 hN7 hD7 hN5 hE5 hF5 hR5 hc5 he5 hR4 hc4 he4 hF4 HN4 hR6 hc6 he6 hR7 hc7 he7 hF6 hF7
        go_wp2_with fail
        clear fc0 fc1 fc2 ff0 ff1 ff2 flt gc0 gc1 gc2 gf0 gf1 gf2 glt
        have hF5 := hF8
        have hR5 := hR8
        have hc5 := hc8
        have he5 := he8
        have HN5 := HN8
        have HD5 := HD8
        clear hF8 hR8 hc8 he8 HN8 HD8
        generalize w5.heap.size = aL at *
        generalize ((w5.alloc (.cells #[.int .i64 (1 + (y : Int))] 3)).setCell ⟨bf, 2, none⟩ (.slice (some ⟨aL, 0, none⟩) 1 1)).setCell ⟨bf, 0, none⟩ (.bool true) = w6 at *
        refine (next_any b 2 _ (by omega) (by omega) hc5).mono ?_
        rintro e w6 ⟨z, rfl, z0, z1, hc6, he6⟩
        have hF := hF5.ex he6 (by omega)
        have hR := hR5.ex he6 (by omega)
        have hE := he5.trans he6
        have HN := Lib.hid (HN5.out.ex he6)
        have HDD := Lib.hid (HD5.out.ex he6)
        have hbs : b < w6.heap.size := hc6.lt
        clear hc5 he5 he6 hF5 hR5 HN5 HD5
        obtain ⟨fc0, fc1, fc2, ff0, ff1, ff2, flt, -⟩ := id hF
        by_cases hz : z = 1
        · subst hz
          go_wp2_with fail
          have hfr : Fra w6 (.agg #[.bool true, .slice aN (nd N).length cN, .slice (some ⟨aL, 0, none⟩) 1 1]) (rat true N (1 + y)) := ⟨true, _, _, N, (1 + y), rfl, HN.out.any, HDD.out.any, HDP.out, (fun _ => HNP.out), by omega, by omega, rfl⟩
          refine (rreduce_any _ _ hfr).mono ?_
          rintro e w7 ⟨b7, a1, a2, n1, n2, k1, k2, rfl, hred, hg7⟩
          have hF7 := hF.gr hg7
          have hR7 := hR.gr hg7
          have hred7 := hred.imp (q := (· ≠ b)) fun c hc => by omega
          have hF8 := hF7.fill b7 a1 a2 n1 n2 k1 k2
          have HRED := Lib.hid (hF7.redp b7 a1 a2 n1 n2 k1 k2 hred7)
          have hR8 := ((hR7.other (o := 0) (s := bf) (.bool b7) (by omega)).other (o := 1) (s := bf) (.slice a1 n1 k1) (by omega)).other (o := 2) (s := bf) (.slice a2 n2 k2) (by omega)
          have hc8 := (((hc6.gr hg7).set bf 0 (by omega) (by omega) (.bool b7)).set bf 1 (by omega) (by omega) (.slice a1 n1 k1)).set bf 2 (by omega) (by omega) (.slice a2 n2 k2)
          have he8 := (((hE.trans (Ex.ofGr hg7)).setNew (p := ⟨bf, 0, none⟩) (by simp; omega) (.bool b7)).setNew (p := ⟨bf, 1, none⟩) (by simp; omega) (.slice a1 n1 k1)).setNew (p := ⟨bf, 2, none⟩) (by simp; omega) (.slice a2 n2 k2)
          clear fc0 fc1 fc2 ff0 ff1 ff2 flt
          obtain ⟨fc0, fc1, fc2, ff0, ff1, ff2, flt, -⟩ := id hF7
          obtain ⟨ec0, ec1, ec2, ef0, ef1, ef2, elt, -⟩ := id hF8.1
          clear hF hR hred hred7 hfr hc6 hE hg7 hF7 hR7
          have hfl := hR8.fill b7 a1 a2 n1 n2 k1 k2
          obtain ⟨sc0, sc1, sc2, -, -, -, -, -⟩ := hfl.1
          obtain ⟨rc0, rc1, rc2, rf0, rf1, rf2, rlt, -⟩ := id hR8
          have HRED9 := Lib.hid (hR8.redp b7 a1 a2 n1 n2 k1 k2 HRED.out)
          have hbd : Bd n (rat true N (1 + y)) := bd_rat HDP.out lN hlD
          have HBD := Lib.hid hbd
          have hc9 := ((hc8.set w.heap.size 0 (by omega) (by omega) (.bool b7)).set w.heap.size 1 (by omega) (by omega) (.slice a1 n1 k1)).set w.heap.size 2 (by omega) (by omega) (.slice a2 n2 k2)
          have he9 := ((he8.setNew (p := ⟨w.heap.size, 0, none⟩) (Nat.le_refl _) (.bool b7)).setNew (p := ⟨w.heap.size, 1, none⟩) (Nat.le_refl _) (.slice a1 n1 k1)).setNew (p := ⟨w.heap.size, 2, none⟩) (Nat.le_refl _) (.slice a2 n2 k2)
          clear hbd
          go_wp2_with (fail)
          refine bodyPost_ret (v := .agg #[.bool b7, .slice a1 n1 k1, .slice a2 n2 k2]) (by simp [results, Tryz.results38, go_sem, sc0, sc1, sc2]) rfl ?_
          exact ⟨_, _, _, _, _, _, _, _, rfl, HRED9.out.fran HBD.out, HBD.out, hc9, he9⟩
        · have hz0 : z = 0 := by omega
          subst hz0
          have hfl := hR.fill true aN (some ⟨aL, 0, none⟩) (nd N).length 1 cN 1
          obtain ⟨sc0, sc1, sc2, -, -, -, -, -⟩ := hfl.1
          obtain ⟨rc0, rc1, rc2, rf0, rf1, rf2, rlt, -⟩ := id hR
          have hbd : Bd n (rat true N (1 + y)) := bd_rat HDP.out lN hlD
          have HBD := Lib.hid hbd
          have hN9 := Lib.hid (hR.fillp true aN (some ⟨aL, 0, none⟩) (nd N).length 1 cN 1 HN.out)
          have hD9 := Lib.hid (hR.fillp true aN (some ⟨aL, 0, none⟩) (nd N).length 1 cN 1 HDD.out)
          have hc9 := ((hc6.set w.heap.size 0 (by omega) (by omega) (.bool true)).set w.heap.size 1 (by omega) (by omega) (.slice aN (nd N).length cN)).set w.heap.size 2 (by omega) (by omega) (.slice (some ⟨aL, 0, none⟩) 1 1)
          have he9 := ((hE.setNew (p := ⟨w.heap.size, 0, none⟩) (Nat.le_refl _) (.bool true)).setNew (p := ⟨w.heap.size, 1, none⟩) (Nat.le_refl _) (.slice aN (nd N).length cN)).setNew (p := ⟨w.heap.size, 2, none⟩) (Nat.le_refl _) (.slice (some ⟨aL, 0, none⟩) 1 1)
          clear hbd
          go_wp2_with fail
          refine bodyPost_ret (v := .agg #[.bool true, .slice aN (nd N).length cN, .slice (some ⟨aL, 0, none⟩) 1 1]) (by simp [results, Tryz.results38, go_sem, sc0, sc1, sc2]) rfl ?_
          exact ⟨_, _, _, _, _, _, _, _, rfl, ⟨true, _, _, N, (1 + y), rfl, hN9.out, hD9.out, HDP.out, (fun _ => HNP.out), by omega, by omega, rfl⟩, HBD.out, hc9, he9⟩
    · have dN : decide (0 < (nd N).length) = false := by rw [show N = 0 by omega, nd_zero]; rfl
      clear hN0
      by_cases hD0 : 0 < D
      · have hdl : 0 < (nd D).length := by rw [nd_pos hD0]; simp
        have dD : (((nd D).length : Int) == 0) = false := by rw [beq_eq_false_iff_ne]; omega
        have HDP := Lib.hid hD0
        have hF5 := C3.new w3 (.bool false) (.slice aN (nd N).length cN) (.slice aD (nd D).length cD) 49 bf HBF.out
        have hR5 := hR3.gr (Gr.alloc (Gr.refl _) (.cells #[.bool false, .slice aN (nd N).length cN, .slice aD (nd D).length cD] 49))
        have hc5 := hc3.gr (Gr.alloc (Gr.refl _) (.cells #[.bool false, .slice aN (nd N).length cN, .slice aD (nd D).length cD] 49))
        have he5 := hE3.trans (Ex.ofGr (Gr.alloc (Gr.refl _) (.cells #[.bool false, .slice aN (nd N).length cN, .slice aD (nd D).length cD] 49)))
        have HN5 := Lib.hid (hN3.gr (Gr.alloc (Gr.refl _) (.cells #[.bool false, .slice aN (nd N).length cN, .slice aD (nd D).length cD] 49)))
        have HD5 := Lib.hid (hD.gr (Gr.alloc (Gr.refl _) (.cells #[.bool false, .slice aN (nd N).length cN, .slice aD (nd D).length cD] 49)))
        clear hD0 hdl hR3 hc3 hE3 hN3 hD
        go_wp2_with fail
        rw [← HBF.out]
        generalize w3.alloc (.cells #[.bool false, .slice aN (nd N).length cN, .slice aD (nd D).length cD] 49) = w5 at *
        refine (next_any b 2 _ (by omega) (by omega) hc5).mono ?_
        rintro e w6 ⟨z, rfl, z0, z1, hc6, he6⟩
        have hF := hF5.ex he6 (by omega)
        have hR := hR5.ex he6 (by omega)
        have hE := he5.trans he6
        have HN := Lib.hid (HN5.out.ex he6)
        have HDD := Lib.hid (HD5.out.ex he6)
        have hbs : b < w6.heap.size := hc6.lt
        clear hc5 he5 he6 hF5 hR5 HN5 HD5
        obtain ⟨fc0, fc1, fc2, ff0, ff1, ff2, flt, -⟩ := id hF
        by_cases hz : z = 1
        · subst hz
          go_wp2_with fail
          have hfr : Fra w6 (.agg #[.bool false, .slice aN (nd N).length cN, .slice aD (nd D).length cD]) (rat false N D) := ⟨false, _, _, N, D, rfl, HN.out.any, HDD.out.any, HDP.out, (fun h => by cases h), by omega, by omega, rfl⟩
          refine (rreduce_any _ _ hfr).mono ?_
          rintro e w7 ⟨b7, a1, a2, n1, n2, k1, k2, rfl, hred, hg7⟩
          have hF7 := hF.gr hg7
          have hR7 := hR.gr hg7
          have hred7 := hred.imp (q := (· ≠ b)) fun c hc => by omega
          have hF8 := hF7.fill b7 a1 a2 n1 n2 k1 k2
          have HRED := Lib.hid (hF7.redp b7 a1 a2 n1 n2 k1 k2 hred7)
          have hR8 := ((hR7.other (o := 0) (s := bf) (.bool b7) (by omega)).other (o := 1) (s := bf) (.slice a1 n1 k1) (by omega)).other (o := 2) (s := bf) (.slice a2 n2 k2) (by omega)
          have hc8 := (((hc6.gr hg7).set bf 0 (by omega) (by omega) (.bool b7)).set bf 1 (by omega) (by omega) (.slice a1 n1 k1)).set bf 2 (by omega) (by omega) (.slice a2 n2 k2)
          have he8 := (((hE.trans (Ex.ofGr hg7)).setNew (p := ⟨bf, 0, none⟩) (by simp; omega) (.bool b7)).setNew (p := ⟨bf, 1, none⟩) (by simp; omega) (.slice a1 n1 k1)).setNew (p := ⟨bf, 2, none⟩) (by simp; omega) (.slice a2 n2 k2)
          clear fc0 fc1 fc2 ff0 ff1 ff2 flt
          obtain ⟨fc0, fc1, fc2, ff0, ff1, ff2, flt, -⟩ := id hF7
          obtain ⟨ec0, ec1, ec2, ef0, ef1, ef2, elt, -⟩ := id hF8.1
          clear hF hR hred hred7 hfr hc6 hE hg7 hF7 hR7
          have hfl := hR8.fill b7 a1 a2 n1 n2 k1 k2
          obtain ⟨sc0, sc1, sc2, -, -, -, -, -⟩ := hfl.1
          obtain ⟨rc0, rc1, rc2, rf0, rf1, rf2, rlt, -⟩ := id hR8
          have HRED9 := Lib.hid (hR8.redp b7 a1 a2 n1 n2 k1 k2 HRED.out)
          have hbd : Bd n (rat false N D) := bd_rat HDP.out lN hlD
          have HBD := Lib.hid hbd
          have hc9 := ((hc8.set w.heap.size 0 (by omega) (by omega) (.bool b7)).set w.heap.size 1 (by omega) (by omega) (.slice a1 n1 k1)).set w.heap.size 2 (by omega) (by omega) (.slice a2 n2 k2)
          have he9 := ((he8.setNew (p := ⟨w.heap.size, 0, none⟩) (Nat.le_refl _) (.bool b7)).setNew (p := ⟨w.heap.size, 1, none⟩) (Nat.le_refl _) (.slice a1 n1 k1)).setNew (p := ⟨w.heap.size, 2, none⟩) (Nat.le_refl _) (.slice a2 n2 k2)
          clear hbd
          go_wp2_with (fail)
          refine bodyPost_ret (v := .agg #[.bool b7, .slice a1 n1 k1, .slice a2 n2 k2]) (by simp [results, Tryz.results38, go_sem, sc0, sc1, sc2]) rfl ?_
          exact ⟨_, _, _, _, _, _, _, _, rfl, HRED9.out.fran HBD.out, HBD.out, hc9, he9⟩
        · have hz0 : z = 0 := by omega
          subst hz0
          have hfl := hR.fill false aN aD (nd N).length (nd D).length cN cD
          obtain ⟨sc0, sc1, sc2, -, -, -, -, -⟩ := hfl.1
          obtain ⟨rc0, rc1, rc2, rf0, rf1, rf2, rlt, -⟩ := id hR
          have hbd : Bd n (rat false N D) := bd_rat HDP.out lN hlD
          have HBD := Lib.hid hbd
          have hN9 := Lib.hid (hR.fillp false aN aD (nd N).length (nd D).length cN cD HN.out)
          have hD9 := Lib.hid (hR.fillp false aN aD (nd N).length (nd D).length cN cD HDD.out)
          have hc9 := ((hc6.set w.heap.size 0 (by omega) (by omega) (.bool false)).set w.heap.size 1 (by omega) (by omega) (.slice aN (nd N).length cN)).set w.heap.size 2 (by omega) (by omega) (.slice aD (nd D).length cD)
          have he9 := ((hE.setNew (p := ⟨w.heap.size, 0, none⟩) (Nat.le_refl _) (.bool false)).setNew (p := ⟨w.heap.size, 1, none⟩) (Nat.le_refl _) (.slice aN (nd N).length cN)).setNew (p := ⟨w.heap.size, 2, none⟩) (Nat.le_refl _) (.slice aD (nd D).length cD)
          clear hbd
          go_wp2_with fail
          refine bodyPost_ret (v := .agg #[.bool false, .slice aN (nd N).length cN, .slice aD (nd D).length cD]) (by simp [results, Tryz.results38, go_sem, sc0, sc1, sc2]) rfl ?_
          exact ⟨_, _, _, _, _, _, _, _, rfl, ⟨false, _, _, N, D, rfl, hN9.out, hD9.out, HDP.out, (fun h => by cases h), by omega, by omega, rfl⟩, HBD.out, hc9, he9⟩
      · have dD : (((nd D).length : Int) == 0) = true := by rw [show D = 0 by omega, nd_zero]; rfl
        have hF4 := C3.new w3 (.bool true) (.slice aN (nd N).length cN) (.slice aD (nd D).length cD) 49 bf HBF.out
        have hR4 := hR3.gr (Gr.alloc (Gr.refl _) (.cells #[.bool true, .slice aN (nd N).length cN, .slice aD (nd D).length cD] 49))
        have hc4 := hc3.gr (Gr.alloc (Gr.refl _) (.cells #[.bool true, .slice aN (nd N).length cN, .slice aD (nd D).length cD] 49))
        have he4 := hE3.trans (Ex.ofGr (Gr.alloc (Gr.refl _) (.cells #[.bool true, .slice aN (nd N).length cN, .slice aD (nd D).length cD] 49)))
        have HN4 := Lib.hid (hN3.gr (Gr.alloc (Gr.refl _) (.cells #[.bool true, .slice aN (nd N).length cN, .slice aD (nd D).length cD] 49)))
        clear hD0 hR3 hc3 hE3 hN3 hD
        go_wp2_with fail
        rw [← HBF.out]
        generalize w3.alloc (.cells #[.bool true, .slice aN (nd N).length cN, .slice aD (nd D).length cD] 49) = w4 at *
        refine (next_any b 12 _ (by omega) (by omega) hc4).mono ?_
        rintro e w5 ⟨y, rfl, y0, y1, hc5, he5⟩
        obtain ⟨y, rfl⟩ := Int.eq_ofNat_of_zero_le y0
        have hF5 := hF4.ex he5 (by omega)
        have hR5 := hR4.ex he5 (by omega)
        have hE5 := he4.trans he5
        have hN5 := HN4.out.ex he5
        have hbl5 : b < w5.heap.size := hc5.lt
        have hlit := num_lit w5 (1 + y) (1 + (y : Int)) (by omega) (by omega) (by omega)
        have hD5 : Rd (· ≠ b) (w5.alloc (.cells #[.int .i64 (1 + (y : Int))] 3)) (.slice (some ⟨w5.heap.size, 0, none⟩) 1 1) (nd (1 + y)) := by
          obtain ⟨a, c, e, h1, h2, H⟩ := hlit
          refine ⟨a, c, e, h1, h2, fun i hi => ?_⟩
          obtain ⟨k, off, ea, -, hc⟩ := H i hi
          refine ⟨k, off, ea, ?_, hc⟩
          rw [ea] at e
          simp only [Value.slice.injEq, Option.some.injEq, Addr.mk.injEq] at e
          omega
        have hF6 := hF5.gr (Gr.alloc (Gr.refl _) (.cells #[.int .i64 (1 + (y : Int))] 3))
        have hR6 := hR5.gr (Gr.alloc (Gr.refl _) (.cells #[.int .i64 (1 + (y : Int))] 3))
        have hc6 := hc5.gr (Gr.alloc (Gr.refl _) (.cells #[.int .i64 (1 + (y : Int))] 3))
        have he6 := hE5.alloc (.cells #[.int .i64 (1 + (y : Int))] 3)
        have hN6 := hN5.gr (Gr.alloc (Gr.refl _) (.cells #[.int .i64 (1 + (y : Int))] 3))
        have hs6 : (w5.alloc (.cells #[.int .i64 (1 + (y : Int))] 3)).heap.size = w5.heap.size + 1 := by simp
        have hF7 := hF6.set2 (.slice (some ⟨w5.heap.size, 0, none⟩) 1 1)
        have hR7 := hR6.other (o := 2) (s := bf) (.slice (some ⟨w5.heap.size, 0, none⟩) 1 1) (by omega)
        have hc7 := hc6.set bf 2 (by omega) (by omega) (.slice (some ⟨w5.heap.size, 0, none⟩) 1 1)
        have he7 := he6.setNew (p := ⟨bf, 2, none⟩) (by simp; omega) (.slice (some ⟨w5.heap.size, 0, none⟩) 1 1)
        have hN7 := hF6.rdp (o := 2) hN6 (.slice (some ⟨w5.heap.size, 0, none⟩) 1 1)
        have hD7 := hF6.rdp (o := 2) hD5 (.slice (some ⟨w5.heap.size, 0, none⟩) 1 1)
        have hF8 := hF7.set0 (.bool false)
        have hR8 := hR7.other (o := 0) (s := bf) (.bool false) (by omega)
        have hc8 := hc7.set bf 0 (by omega) (by omega) (.bool false)
        have he8 := he7.setNew (p := ⟨bf, 0, none⟩) (by simp; omega) (.bool false)
        have HN8 := Lib.hid (hF7.rdp (o := 0) hN7 (.bool false))
        have HD8 := Lib.hid (hF7.rdp (o := 0) hD7 (.bool false))
        have hlD : (nd (1 + y)).length ≤ n := by have := (nd_len (1 + y) 1).2 (by omega); omega
        have HDP : Hid (0 < 1 + y) := Lib.hid (by omega)
        obtain ⟨fc0, fc1, fc2, ff0, ff1, ff2, flt, -⟩ := id hF6
        obtain ⟨gc0, gc1, gc2, gf0, gf1, gf2, glt, -⟩ := id hF7
        clear hlit hD5 hN6 hN7 hD7 hN5 hE5 hF5 hR5 hc5 he5 hR4 hc4 he4 hF4 HN4 hR6 hc6 he6 hR7 hc7 he7 hF6 hF7
        go_wp2_with fail
        clear fc0 fc1 fc2 ff0 ff1 ff2 flt gc0 gc1 gc2 gf0 gf1 gf2 glt
        have hF5 := hF8
        have hR5 := hR8
        have hc5 := hc8
        have he5 := he8
        have HN5 := HN8
        have HD5 := HD8
        clear hF8 hR8 hc8 he8 HN8 HD8
        generalize w5.heap.size = aL at *
        generalize ((w5.alloc (.cells #[.int .i64 (1 + (y : Int))] 3)).setCell ⟨bf, 2, none⟩ (.slice (some ⟨aL, 0, none⟩) 1 1)).setCell ⟨bf, 0, none⟩ (.bool false) = w6 at *
        refine (next_any b 2 _ (by omega) (by omega) hc5).mono ?_
        rintro e w6 ⟨z, rfl, z0, z1, hc6, he6⟩
        have hF := hF5.ex he6 (by omega)
        have hR := hR5.ex he6 (by omega)
        have hE := he5.trans he6
        have HN := Lib.hid (HN5.out.ex he6)
        have HDD := Lib.hid (HD5.out.ex he6)
        have hbs : b < w6.heap.size := hc6.lt
        clear hc5 he5 he6 hF5 hR5 HN5 HD5
        obtain ⟨fc0, fc1, fc2, ff0, ff1, ff2, flt, -⟩ := id hF
        by_cases hz : z = 1
        · subst hz
          go_wp2_with fail
          have hfr : Fra w6 (.agg #[.bool false, .slice aN (nd N).length cN, .slice (some ⟨aL, 0, none⟩) 1 1]) (rat false N (1 + y)) := ⟨false, _, _, N, (1 + y), rfl, HN.out.any, HDD.out.any, HDP.out, (fun h => by cases h), by omega, by omega, rfl⟩
          refine (rreduce_any _ _ hfr).mono ?_
          rintro e w7 ⟨b7, a1, a2, n1, n2, k1, k2, rfl, hred, hg7⟩
          have hF7 := hF.gr hg7
          have hR7 := hR.gr hg7
          have hred7 := hred.imp (q := (· ≠ b)) fun c hc => by omega
          have hF8 := hF7.fill b7 a1 a2 n1 n2 k1 k2
          have HRED := Lib.hid (hF7.redp b7 a1 a2 n1 n2 k1 k2 hred7)
          have hR8 := ((hR7.other (o := 0) (s := bf) (.bool b7) (by omega)).other (o := 1) (s := bf) (.slice a1 n1 k1) (by omega)).other (o := 2) (s := bf) (.slice a2 n2 k2) (by omega)
          have hc8 := (((hc6.gr hg7).set bf 0 (by omega) (by omega) (.bool b7)).set bf 1 (by omega) (by omega) (.slice a1 n1 k1)).set bf 2 (by omega) (by omega) (.slice a2 n2 k2)
          have he8 := (((hE.trans (Ex.ofGr hg7)).setNew (p := ⟨bf, 0, none⟩) (by simp; omega) (.bool b7)).setNew (p := ⟨bf, 1, none⟩) (by simp; omega) (.slice a1 n1 k1)).setNew (p := ⟨bf, 2, none⟩) (by simp; omega) (.slice a2 n2 k2)
          clear fc0 fc1 fc2 ff0 ff1 ff2 flt
          obtain ⟨fc0, fc1, fc2, ff0, ff1, ff2, flt, -⟩ := id hF7
          obtain ⟨ec0, ec1, ec2, ef0, ef1, ef2, elt, -⟩ := id hF8.1
          clear hF hR hred hred7 hfr hc6 hE hg7 hF7 hR7
          have hfl := hR8.fill b7 a1 a2 n1 n2 k1 k2
          obtain ⟨sc0, sc1, sc2, -, -, -, -, -⟩ := hfl.1
          obtain ⟨rc0, rc1, rc2, rf0, rf1, rf2, rlt, -⟩ := id hR8
          have HRED9 := Lib.hid (hR8.redp b7 a1 a2 n1 n2 k1 k2 HRED.out)
          have hbd : Bd n (rat false N (1 + y)) := bd_rat HDP.out lN hlD
          have HBD := Lib.hid hbd
          have hc9 := ((hc8.set w.heap.size 0 (by omega) (by omega) (.bool b7)).set w.heap.size 1 (by omega) (by omega) (.slice a1 n1 k1)).set w.heap.size 2 (by omega) (by omega) (.slice a2 n2 k2)
          have he9 := ((he8.setNew (p := ⟨w.heap.size, 0, none⟩) (Nat.le_refl _) (.bool b7)).setNew (p := ⟨w.heap.size, 1, none⟩) (Nat.le_refl _) (.slice a1 n1 k1)).setNew (p := ⟨w.heap.size, 2, none⟩) (Nat.le_refl _) (.slice a2 n2 k2)
          clear hbd
          go_wp2_with (fail)
          refine bodyPost_ret (v := .agg #[.bool b7, .slice a1 n1 k1, .slice a2 n2 k2]) (by simp [results, Tryz.results38, go_sem, sc0, sc1, sc2]) rfl ?_
          exact ⟨_, _, _, _, _, _, _, _, rfl, HRED9.out.fran HBD.out, HBD.out, hc9, he9⟩
        · have hz0 : z = 0 := by omega
          subst hz0
          have hfl := hR.fill false aN (some ⟨aL, 0, none⟩) (nd N).length 1 cN 1
          obtain ⟨sc0, sc1, sc2, -, -, -, -, -⟩ := hfl.1
          obtain ⟨rc0, rc1, rc2, rf0, rf1, rf2, rlt, -⟩ := id hR
          have hbd : Bd n (rat false N (1 + y)) := bd_rat HDP.out lN hlD
          have HBD := Lib.hid hbd
          have hN9 := Lib.hid (hR.fillp false aN (some ⟨aL, 0, none⟩) (nd N).length 1 cN 1 HN.out)
          have hD9 := Lib.hid (hR.fillp false aN (some ⟨aL, 0, none⟩) (nd N).length 1 cN 1 HDD.out)
          have hc9 := ((hc6.set w.heap.size 0 (by omega) (by omega) (.bool false)).set w.heap.size 1 (by omega) (by omega) (.slice aN (nd N).length cN)).set w.heap.size 2 (by omega) (by omega) (.slice (some ⟨aL, 0, none⟩) 1 1)
          have he9 := ((hE.setNew (p := ⟨w.heap.size, 0, none⟩) (Nat.le_refl _) (.bool false)).setNew (p := ⟨w.heap.size, 1, none⟩) (Nat.le_refl _) (.slice aN (nd N).length cN)).setNew (p := ⟨w.heap.size, 2, none⟩) (Nat.le_refl _) (.slice (some ⟨aL, 0, none⟩) 1 1)
          clear hbd
          go_wp2_with fail
          refine bodyPost_ret (v := .agg #[.bool false, .slice aN (nd N).length cN, .slice (some ⟨aL, 0, none⟩) 1 1]) (by simp [results, Tryz.results38, go_sem, sc0, sc1, sc2]) rfl ?_
          exact ⟨_, _, _, _, _, _, _, _, rfl, ⟨false, _, _, N, (1 + y), rfl, hN9.out, hD9.out, HDP.out, (fun h => by cases h), by omega, by omega, rfl⟩, HBD.out, hc9, he9⟩
theorem frac_any {B : Nat} (b n : Nat) (w : World) (h : Cod B w b) (hBw : B ≤ w.heap.size) (hn0 : 1 ≤ n) (hn : n ≤ 60) :
    Calls Tryz.prog 38 #[.pointer (some ⟨b, 0, none⟩), .int .i64 n] w (FrPost B b n w) :=
  (frac_n b n w h hBw hn0 hn).mono fun _ _ ⟨x, a1, a2, n1, n2, c1, c2, r, h1, h2, h3⟩ => ⟨x, a1, a2, n1, n2, c1, c2, r, h1, h2.mono (by omega), h3⟩
end Go.Proofs.YtikkobmccagdlaaGreatDoor
/- Local variables that hold fractions; regions that draw their order, one operation at a time. -/
namespace Go.Proofs.YtikkobmccagdlaaGreatDoor
open Go Go.RowKit Go.Sort
set_option maxRecDepth 100000
set_option linter.unusedVariables false
/-- a local variable: its block, its parts, its value -/
structure Lv where
  k : Nat
  b : Bool
  a1 : Option Addr
  a2 : Option Addr
  n1 : Nat
  n2 : Nat
  c1 : Nat
  c2 : Nat
  r : Rat
def Lv.v (l : Lv) : Value := .agg #[.bool l.b, .slice l.a1 l.n1 l.c1, .slice l.a2 l.n2 l.c2]
def Loc (w : World) (l : Lv) : Prop := C3 w l.k (.bool l.b) (.slice l.a1 l.n1 l.c1) (.slice l.a2 l.n2 l.c2) ∧ Fra w (.agg #[.bool l.b, .slice l.a1 l.n1 l.c1, .slice l.a2 l.n2 l.c2]) l.r
def Locs (w : World) (L : List Lv) : Prop := ∀ l ∈ L, Loc w l
theorem Locs.gr {w w' : World} {L : List Lv} (h : Locs w L) (g : Gr w w') : Locs w' L := fun l hl => ⟨(h l hl).1.gr g, (h l hl).2.gr g⟩
theorem Locs.snoc {w : World} {L : List Lv} {l : Lv} (h : Locs w L) (hl : Loc w l) : Locs w (L ++ [l]) := fun x hx => by
  rcases List.mem_append.1 hx with hx | hx
  · exact h x hx
  · rw [List.mem_singleton.1 hx]; exact hl
theorem Locs.at {w : World} {L : List Lv} (h : Locs w L) (i : Nat) {l : Lv} (hi : L[i]? = some l) : Loc w l := h l (List.mem_of_getElem? hi)
def Reds (w : World) (L : List Lv) : Prop := ∀ l ∈ L, Red w (.agg #[.bool l.b, .slice l.a1 l.n1 l.c1, .slice l.a2 l.n2 l.c2]) l.r
theorem Reds.nil (w : World) : Reds w [] := fun _ h => by cases h
theorem Reds.gr {w w' : World} {L : List Lv} (h : Reds w L) (g : Gr w w') : Reds w' L := fun l hl => (h l hl).gr g
theorem Reds.snoc {w : World} {L : List Lv} {l : Lv} (h : Reds w L) (hl : Red w (.agg #[.bool l.b, .slice l.a1 l.n1 l.c1, .slice l.a2 l.n2 l.c2]) l.r) : Reds w (L ++ [l]) := fun x hx => by
  rcases List.mem_append.1 hx with hx | hx
  · exact h x hx
  · rw [List.mem_singleton.1 hx]; exact hl
theorem Reds.at {w : World} {L : List Lv} (h : Reds w L) (i : Nat) {l : Lv} (hi : L[i]? = some l) : Red w (.agg #[.bool l.b, .slice l.a1 l.n1 l.c1, .slice l.a2 l.n2 l.c2]) l.r := h l (List.mem_of_getElem? hi)
theorem region_plain {P : Program} {Q : Exit → Act → World → Prop} {ops : Array Oper} {id : Nat} {a : Act} {w : World} (S : World → Prop) (hm : P.follows .mixedOrders = true)
    (h : wpAnyH P .any ops (QZ Q) S ops.size (Array.replicate ops.size false) a w.drew) : (Code.region id ops true).wp P Q a w :=
  Code.wp_mono (fun e _ _ h => by cases e <;> first | exact h | exact (h : False).elim) (wp_region_held hm h)
theorem Fra.len {w : World} {b : Bool} {a1 : Option Addr} {n1 c1 : Nat} {v : Value} {r : Rat} (h : Fra w (.agg #[.bool b, .slice a1 n1 c1, v]) r) : n1 = 0 ↔ r = 0 := by
  obtain ⟨x, vn, vd, N, D, e, ⟨a, cap, e2, -⟩, -, hD0, -, -, -, rfl⟩ := h
  simp only [Value.agg.injEq, Array.mk.injEq, List.cons.injEq, and_true] at e
  obtain ⟨-, rfl, -⟩ := e
  simp only [Value.slice.injEq] at e2
  obtain ⟨-, rfl, -⟩ := e2
  rw [rat_eq_zero hD0]
  constructor
  · intro h
    apply Decidable.byContradiction; intro hn
    rw [nd_pos (by omega)] at h; simp at h
  · rintro rfl; rw [nd_zero]; rfl
theorem qz_normal {Q : Exit → Act → World → Prop} {a : Act} {w : World} (h : Q .normal a w) : QZ Q .normal a w := h
end Go.Proofs.YtikkobmccagdlaaGreatDoor
