/- The walk of the statement on all functions of the package wire. -/
import Derived.Test.YtikkobmccagdlaaWz
import Derived.Test.YtikkobmccagdlaaWk
import Derived.Test.YtikkobmccagdlaaWc
import Derived.WalkKit
import Derived.WalkSpells
import Derived.WalkLawsBesides
import Derived.WalkSmall
import Derived.Handy
import Derived.BigQuiet
import Derived.Deep.QuietTactic
import Derived.Deep.RegionHeld3
import Derived.Deep.DeepFit
import Derived.Below
import Derived.Lib.Hide
import Derived.Lib.QuietBelow
namespace Go.Proofs.Ytikkobmccagdlaa
open Go Go.RowKit Go.Sort
set_option maxRecDepth 100000
set_option linter.unusedVariables false
/-- what Put answers, as plain values -/
def ptE (n k : Int) : Int := if (1 ≤ k ∧ k ≤ 7) ∧ 0 ≤ n ∧ n < (256 ^ k.toNat : Nat) then 0 else 1
def ptL (l : List Nat) (n k : Int) : List Nat := if (1 ≤ k ∧ k ≤ 7) ∧ 0 ≤ n ∧ n < (256 ^ k.toNat : Nat) then l ++ bput n.toNat k.toNat else []
def PtR (w : World) (l : List Nat) (n k : Int) (e : Ending) (w' : World) : Prop := ∃ v : Value, e = .returned (.tuple #[v, .int .i64 (ptE n k)]) ∧ Rb (fun _ => True) w' v (ptL l n k) ∧ Gr w w'
theorem PtPost.r {w w' : World} {l : List Nat} {n k : Int} {e : Ending} (h : PtPost w l n k e w') : PtR w l n k e w' := by
  obtain ⟨v, er, rfl, h, hg⟩ := h
  rcases h with ⟨hc, rfl, hv⟩ | ⟨hc, rfl, rfl⟩
  · exact ⟨v, by rw [ptE, if_pos hc], by rw [ptL, if_pos hc]; exact hv, hg⟩
  · exact ⟨_, by rw [ptE, if_neg hc], by rw [ptL, if_neg hc]; exact Rb.nil _ _, hg⟩
theorem ptL_len (l : List Nat) (n k : Int) (h : l.length ≤ 3000) : (ptL l n k).length ≤ 100000 := by
  unfold ptL
  split
  · rw [List.length_append, bput_len]; omega
  · simp
theorem rweq_self {p q : Nat → Prop} {va vb : Value} {l : List Nat} (w : World) (ha : Rb p w va l) (hb : Rb q w vb l) (hl : l.length ≤ 100000) :
    Calls Try.prog 12 #[va, vb] w fun e w' => e = .returned (.bool true) ∧ Gr w w' := rweq_c w ha hb hl hl true (by simp)
theorem weq_self {p q : Nat → Prop} {va vb : Value} {l : List Nat} (w : World) (ha : Rb p w va l) (hb : Rb q w vb l) :
    Calls Try.prog 23 #[va, vb] w fun e w' => e = .returned (.bool true) ∧ w = w' := by
  have := weq_any w ha hb
  rwa [show decide (l = l) = true by simp] at this
/-- a list of ints in a block -/
def Li (w : World) (g : Nat) (xs : List Int) : Prop := ∀ i, i < xs.length → w.cell? ⟨g, i, none⟩ = some (.int .i64 (xs.getD i 0))
theorem Li.gr {w w' : World} {g : Nat} {xs : List Int} (h : Li w g xs) (k : Gr w w') : Li w' g xs := fun i hi => by
  have := h i hi
  rw [(Gr.cells k).1 _ _ (World.block_lt_of_cell? _ _ this)]; exact this
theorem Li.ex {w w' : World} {g b : Nat} {xs : List Int} (h : Li w g xs) (k : Ex b w w') (hb : g ≠ b) : Li w' g xs := fun i hi => by
  have := h i hi
  rw [k.cell _ _ hb (World.block_lt_of_cell? _ _ this)]; exact this
def InI (x : Int) : Prop := -9223372036854775808 ≤ x ∧ x ≤ 9223372036854775807
theorem li_three (w : World) (x y z : Int) (T : TypeId) : Li (w.alloc (.cells #[.int .i64 x, .int .i64 y, .int .i64 z] T)) w.heap.size [x, y, z] := by
  intro i hi
  have : i = 0 ∨ i = 1 ∨ i = 2 := by simp at hi; omega
  rcases this with rfl | rfl | rfl <;> simp
theorem li_four (w : World) (x y z u : Int) (T : TypeId) : Li (w.alloc (.cells #[.int .i64 x, .int .i64 y, .int .i64 z, .int .i64 u] T)) w.heap.size [x, y, z, u] := by
  intro i hi
  have : i = 0 ∨ i = 1 ∨ i = 2 ∨ i = 3 := by simp at hi; omega
  rcases this with rfl | rfl | rfl | rfl <;> simp
theorem in_three {x y z : Int} (hx : InI x) (hy : InI y) (hz : InI z) (i : Nat) : InI ([x, y, z].getD i 0) := by
  match i with
  | 0 => exact hx
  | 1 => exact hy
  | 2 => exact hz
  | _ + 3 => exact ⟨by simp, by simp⟩
theorem in_four {x y z u : Int} (hx : InI x) (hy : InI y) (hz : InI z) (hu : InI u) (i : Nat) : InI ([x, y, z, u].getD i 0) := by
  match i with
  | 0 => exact hx
  | 1 => exact hy
  | 2 => exact hz
  | 3 => exact hu
  | _ + 4 => exact ⟨by simp, by simp⟩
set_option maxHeartbeats 4000000 in
theorem wexact_walk (va vb : Value) (lb la : List Nat) (n k i : Int) (sv : Value) (len : Nat) (w : World) (hvb : Rb (fun c => c < w.heap.size) w vb lb) (hva : Rb (fun c => c < w.heap.size) w va la)
    (hn : InI n) (hk : InI k) (hi : InI i) (hl : len ≤ 9223372036854775807) (hb : BytesV w.heap.size w sv len) :
    Calls Try.prog 3 #[vb, va, .int .i64 n, .int .i64 k, .int .i64 i, sv] w fun e w' => e = .returned (.bool true) ∧ Gr w w' := by
  obtain ⟨ab, cb, rfl, hcb, hmb⟩ := hvb.form
  obtain ⟨aa, ca, rfl, hca, hma⟩ := hva.form
  have HVB := Lib.hid hvb
  have HVA := Lib.hid hva
  have HBV := Lib.hid hb
  clear hvb hva hb
  by_cases h1 : 3000 < lb.length
  · have d1 : decide ((3000 : Int) < (lb.length : Int)) = true := by rw [decide_eq_true_eq]; omega
    go_enter Try.func3, Try.ntmps3
    go_wp2_with fail
    refine (wawake_any _).mono ?_
    rintro e w1 ⟨rfl, hg⟩
    go_wp2_with fail
    go_ret
    exact ⟨rfl, hg⟩
  have d1 : decide ((3000 : Int) < (lb.length : Int)) = false := by rw [decide_eq_false_iff_not]; omega
  by_cases h2 : 3000 < la.length
  · have d2 : decide ((3000 : Int) < (la.length : Int)) = true := by rw [decide_eq_true_eq]; omega
    go_enter Try.func3, Try.ntmps3
    go_wp2_with fail
    refine (wawake_any _).mono ?_
    rintro e w1 ⟨rfl, hg⟩
    go_wp2_with fail
    go_ret
    exact ⟨rfl, hg⟩
  have d2 : decide ((3000 : Int) < (la.length : Int)) = false := by rw [decide_eq_false_iff_not]; omega
  go_enter Try.func3, Try.ntmps3
  go_wp2_with fail
  refine (wawake_any _).mono ?_
  rintro e w1 ⟨rfl, hg⟩
  go_wp2_with fail
  refine (new_any sv len 60 _ (by omega) hl (HBV.out.gr hg)).mono ?_
  rintro e w2 ⟨b, rfl, hbe, hc2, hg2⟩
  have hbw : w.heap.size ≤ b := by have := Gr.size hg; omega
  replace hg := hg.step hg2
  have HC2 := Lib.hid hc2
  clear hbe hc2 hg2 d1 d2
  go_wp2_with fail
  refine (next_any b 7 _ (by omega) (by omega) HC2.out).mono ?_
  rintro e w3 ⟨x, rfl, x0, x1, hc3, he3⟩
  replace hg := Ex.gr hg hbw he3
  have HL4 := Lib.hid (li_four w3 k (1 + x) 0 8 3)
  have HI4 := Lib.hid (in_four (x := k) (y := 1 + x) (z := 0) (u := 8) hk ⟨by omega, by omega⟩ ⟨by omega, by omega⟩ ⟨by omega, by omega⟩)
  have HC3 := Lib.hid (hc3.gr (Gr.alloc (Gr.refl _) (.cells #[.int .i64 k, .int .i64 (1 + x), .int .i64 0, .int .i64 8] 3)))
  have hbl := hc3.lt
  replace hg := hg.alloc (.cells #[.int .i64 k, .int .i64 (1 + x), .int .i64 0, .int .i64 8] 3)
  clear he3 hc3
  go_wp2_with fail
  have hgb : w3.heap.size ≠ b := by omega
  have hxl : [k, 1 + x, 0, 8].length = 4 := rfl
  generalize w3.alloc (.cells #[.int .i64 k, .int .i64 (1 + x), .int .i64 0, .int .i64 8] 3) = w4 at *
  generalize w3.heap.size = g at *
  generalize [k, 1 + x, 0, 8] = xs at *
  have HXL := Lib.hid hxl
  have HG4 := Lib.hid hg
  clear hxl hbl hg
  go_loopw [59] (fun iv wr => ∃ t : Nat, t ≤ 4 ∧ iv = .int .i64 t ∧ Gr w wr ∧ Cod w.heap.size wr b ∧ Li wr g xs) (fun iv _ => 4 - (intOf iv).toNat)
  case atStart => exact ⟨0, Nat.zero_le _, rfl, HG4.out, HC3.out, HL4.out⟩
  case round =>
    obtain ⟨t, ht, rfl, hg, hc, hli⟩ := hrel
    by_cases hlt : t < 4
    · have hcell := hli t (by rw [HXL.out]; exact hlt)
      have HKK := Lib.hid (HI4.out t)
      obtain ⟨kk, hkk⟩ : ∃ kk, kk = xs.getD t 0 := ⟨_, rfl⟩
      rw [← hkk] at hcell HKK
      have dt : (t : Int) < 4 := by omega
      have HC := Lib.hid hc
      have HLI := Lib.hid hli
      clear hc hkk hli
      go_wp2_with fail
      refine (int_c b _ HC.out).mono ?_
      rintro e w5 ⟨y, rfl, y0, y1, hc5, he5⟩
      replace hg := Ex.gr hg hbw he5
      have hli := HLI.out.ex he5 hgb
      clear hcell he5 HC HLI
      have HC := Lib.hid hc5
      have HLI := Lib.hid hli
      have HYI := Lib.hid (show InI y from ⟨y0, y1⟩)
      clear hc5 hli y0 y1
      go_wp2_with fail
      refine (next_any b 65536 _ (by omega) (by omega) HC.out).mono ?_
      rintro e w6 ⟨z, rfl, z0, z1, hc6, he6⟩
      replace hg := Ex.gr hg hbw he6
      have hli := HLI.out.ex he6 hgb
      have hbl := hc6.lt
      clear he6 HC HLI
      have HL3 := Lib.hid (li_three w6 n y z 3)
      have HI3 := Lib.hid (in_three (x := n) (y := y) (z := z) hn HYI.out ⟨by omega, by omega⟩)
      have hg7 := hg.alloc (.cells #[.int .i64 n, .int .i64 y, .int .i64 z] 3)
      have HC7 := Lib.hid (hc6.gr (Gr.alloc (Gr.refl _) (.cells #[.int .i64 n, .int .i64 y, .int .i64 z] 3)))
      have HLI7 := Lib.hid (hli.gr (Gr.alloc (Gr.refl _) (.cells #[.int .i64 n, .int .i64 y, .int .i64 z] 3)))
      have HG7 := Lib.hid hg7
      clear hc6 hli hg hg7
      go_wp2_with fail
      have hgb3 : w6.heap.size ≠ b := by omega
      have hxl : [n, y, z].length = 3 := rfl
      generalize w6.alloc (.cells #[.int .i64 n, .int .i64 y, .int .i64 z] 3) = w7 at *
      generalize w6.heap.size = g3 at *
      generalize [n, y, z] = ys at *
      have HYL := Lib.hid hxl
      clear hxl hbl
      go_loopw [70] (fun iv wr => ∃ t : Nat, t ≤ 3 ∧ iv = .int .i64 t ∧ Gr w wr ∧ Cod w.heap.size wr b ∧ Li wr g xs ∧ Li wr g3 ys) (fun iv _ => 3 - (intOf iv).toNat)
      case atStart => exact ⟨0, Nat.zero_le _, rfl, HG7.out, HC7.out, HLI7.out, HL3.out⟩
      case round =>
        obtain ⟨u, hu, rfl, hg, hc, hli, hl3⟩ := hrel
        by_cases hul : u < 3
        · have hcell := hl3 u (by rw [HYL.out]; exact hul)
          obtain ⟨nn, hnn⟩ : ∃ nn, nn = ys.getD u 0 := ⟨_, rfl⟩
          rw [← hnn] at hcell
          have du : (u : Int) < 3 := by omega
          have HC := Lib.hid hc
          have HLI := Lib.hid hli
          have HL3' := Lib.hid hl3
          have HG := Lib.hid hg
          clear hc hli hl3 hg hnn
          have HPL := Lib.hid (ptL_len lb nn kk (by omega))
          go_wp2_with fail
          refine (put_any nn kk _ (HVB.out.gr HG.out) (by omega)).mono ?_
          intro e w8 hp
          obtain ⟨v8, rfl, hv8, hg8⟩ := hp.r
          have HG8 := Lib.hid (HG.out.step hg8)
          have HC8 := Lib.hid (HC.out.gr hg8)
          have HLI8 := Lib.hid (HLI.out.gr hg8)
          have HL38 := Lib.hid (HL3'.out.gr hg8)
          have HV8 := Lib.hid hv8
          clear hp hg8 hv8 HC HLI HL3' HG hcell
          go_wp2_with fail
          refine (rput_any nn kk _ (HVB.out.gr HG8.out) (by omega)).mono ?_
          intro e w9 hp
          obtain ⟨v9, rfl, hv9, hg9⟩ := hp.r
          have HQ := Lib.hid (rweq_self w9 (HV8.out.gr hg9) hv9 HPL.out)
          have HG9 := Lib.hid (HG8.out.step hg9)
          have HC9 := Lib.hid (HC8.out.gr hg9)
          have HLI9 := Lib.hid (HLI8.out.gr hg9)
          have HL39 := Lib.hid (HL38.out.gr hg9)
          clear hp hg9 hv9 HC8 HLI8 HL38 HG8 HV8 HPL
          generalize ptE nn kk = er at *
          go_wp2_with fail
          refine HQ.out.mono ?_
          rintro e w10 ⟨rfl, hg10⟩
          have HG10 := Lib.hid (HG9.out.step hg10)
          have HC10 := Lib.hid (HC9.out.gr hg10)
          have HLI10 := Lib.hid (HLI9.out.gr hg10)
          have HL310 := Lib.hid (HL39.out.gr hg10)
          clear hg10 HC9 HLI9 HL39 HG9 HQ
          go_wp2_with fail
          case roundEnd =>
            exact ⟨⟨u + 1, by omega, by simp, HG10.out, HC10.out, HLI10.out, HL310.out⟩, by simp [intOf]; omega⟩
        · obtain rfl : u = 3 := by omega
          have hbl := hc.lt
          have HC := Lib.hid hc
          have HLI := Lib.hid hli
          have HG := Lib.hid hg
          clear hc hli hl3 hg HI3 HL3 HG7 HC7 HLI7
          go_wp2_with fail
          refine (next_any b ((lb.length : Int) + 2) _ (by omega) (by omega) HC.out).mono ?_
          rintro e w8 ⟨x8, rfl, x80, x81, hc8, he8⟩
          have hg8 := Ex.gr HG.out hbw he8
          have hli8 := HLI.out.ex he8 hgb
          have hbl8 := hc8.lt
          have HL3 := Lib.hid (li_three w8 i x8 (wrap64 ((lb.length : Int) - kk)) 3)
          have HI3 := Lib.hid (in_three (x := i) (y := x8) (z := wrap64 ((lb.length : Int) - kk)) hi ⟨by omega, by omega⟩ (by unfold InI wrap64; omega))
          have HG9 := Lib.hid (hg8.alloc (.cells #[.int .i64 i, .int .i64 x8, .int .i64 (wrap64 ((lb.length : Int) - kk))] 3))
          have HC9 := Lib.hid (hc8.gr (Gr.alloc (Gr.refl _) (.cells #[.int .i64 i, .int .i64 x8, .int .i64 (wrap64 ((lb.length : Int) - kk))] 3)))
          have HLI9 := Lib.hid (hli8.gr (Gr.alloc (Gr.refl _) (.cells #[.int .i64 i, .int .i64 x8, .int .i64 (wrap64 ((lb.length : Int) - kk))] 3)))
          clear he8 hc8 hg8 hli8 HC HLI HG hbl
          go_wp2_with fail
          generalize w8.alloc (.cells #[.int .i64 i, .int .i64 x8, .int .i64 (wrap64 ((lb.length : Int) - kk))] 3) = w9 at *
          generalize w8.heap.size = g4 at *
          have hxl : [i, x8, wrap64 ((lb.length : Int) - kk)].length = 3 := rfl
          generalize [i, x8, wrap64 ((lb.length : Int) - kk)] = zs at *
          have HZL := Lib.hid hxl
          clear hxl hbl8
          go_loopw [110] (fun iv wr => ∃ t : Nat, t ≤ 3 ∧ iv = .int .i64 t ∧ Gr w wr ∧ Cod w.heap.size wr b ∧ Li wr g xs ∧ Li wr g4 zs) (fun iv _ => 3 - (intOf iv).toNat)
          case atStart => exact ⟨0, Nat.zero_le _, rfl, HG9.out, HC9.out, HLI9.out, HL3.out⟩
          case round =>
            obtain ⟨u, hu, rfl, hg, hc, hli, hl3⟩ := hrel
            by_cases hul : u < 3
            · have hcell := hl3 u (by rw [HZL.out]; exact hul)
              have HNN := Lib.hid (HI3.out u)
              obtain ⟨nn, hnn⟩ : ∃ nn, nn = zs.getD u 0 := ⟨_, rfl⟩
              rw [← hnn] at hcell HNN
              have du : (u : Int) < 3 := by omega
              have HC := Lib.hid hc
              have HLI := Lib.hid hli
              have HL3' := Lib.hid hl3
              have HG := Lib.hid hg
              have HGA := Lib.hid (get_any nn kk wr (HVB.out.gr HG.out))
              have HGB := Lib.hid (rget_any nn kk wr (HVB.out.gr HG.out) (by omega) HNN.out.2)
              clear hc hli hl3 hg hnn
              generalize gtN lb nn kk = rN at *
              generalize gtE lb nn kk = rE at *
              go_wp2_with fail
              refine HGA.out.mono ?_
              rintro e w10 ⟨rfl, rfl⟩
              go_wp2_with fail
              refine HGB.out.mono ?_
              rintro e w10 ⟨rfl, rfl⟩
              go_wp2_with fail
              case roundEnd =>
                exact ⟨⟨u + 1, by omega, by simp, HG.out, HC.out, HLI.out, HL3'.out⟩, by simp [intOf]; omega⟩
            · obtain rfl : u = 3 := by omega
              have HC := Lib.hid hc
              have HLI := Lib.hid hli
              have HG := Lib.hid hg
              clear hc hli hl3 hg
              go_wp2_with fail
              case roundEnd =>
                exact ⟨⟨t + 1, by omega, by simp, HG.out, HC.out, HLI.out⟩, by simp [intOf]; omega⟩
    · obtain rfl : t = 4 := by omega
      have HC := Lib.hid hc
      have HG := Lib.hid hg
      clear hc hli hg HL4 HI4 HC3 HG4
      go_wp2_with fail
      refine (next_any b 65536 _ (by omega) (by omega) HC.out).mono ?_
      rintro e w5 ⟨x1, rfl, x10, x11, hc5, he5⟩
      have HG5 := Lib.hid (Ex.gr HG.out hbw he5)
      have HC5 := Lib.hid hc5
      clear hc5 he5 HC HG
      go_wp2_with fail
      refine (next_any b 65536 _ (by omega) (by omega) HC5.out).mono ?_
      rintro e w6 ⟨y1, rfl, y10, y11, hc6, he6⟩
      have HG6 := Lib.hid (Ex.gr HG5.out hbw he6)
      have HC6 := Lib.hid hc6
      clear hc6 he6 HC5 HG5
      go_wp2_with fail
      refine (next_any b 65536 _ (by omega) (by omega) HC6.out).mono ?_
      rintro e w7 ⟨z1, rfl, z10, z11, hc7, he7⟩
      have HG7 := Lib.hid (Ex.gr HG6.out hbw he7)
      clear hc7 he7 HC6 HG6
      have B7 := Lib.hid (HVB.out.gr HG7.out)
      have A7 := Lib.hid (HVA.out.gr HG7.out)
      have HS1 := Lib.hid (wsum_any w7 B7.out (by omega))
      have HS2 := Lib.hid (rwsum_any w7 B7.out (by omega))
      have HK1 := Lib.hid (wchk_any w7 B7.out (by omega))
      have HK2 := Lib.hid (rwchk_any w7 B7.out (by omega))
      have HE1 := Lib.hid (weq_any w7 A7.out B7.out)
      have HE2 := Lib.hid (rweq_any w7 A7.out B7.out (by omega) (by omega))
      generalize (oc (wsum false lb) : Int) = S at *
      generalize decide (la = lb) = ce at *
      go_wp2_with fail
      refine (wadd_any n k _).mono ?_
      rintro e w8 ⟨rfl, rfl⟩
      go_wp2_with fail
      refine (rwadd_any n k _).mono ?_
      rintro e w8 ⟨rfl, rfl⟩
      generalize adR n k = r1 at *
      go_wp2_with fail
      refine (wadd_any x1 y1 _).mono ?_
      rintro e w8 ⟨rfl, rfl⟩
      go_wp2_with fail
      refine (rwadd_any x1 y1 _).mono ?_
      rintro e w8 ⟨rfl, rfl⟩
      generalize adR x1 y1 = r2 at *
      go_wp2_with fail
      refine (HS1.out).mono ?_
      rintro e w8 ⟨rfl, rfl⟩
      go_wp2_with fail
      refine (HS2.out).mono ?_
      rintro e w8 ⟨rfl, rfl⟩
      go_wp2_with fail
      refine (HK1.out).mono ?_
      rintro e w8 ⟨rfl, rfl⟩
      go_wp2_with fail
      refine (HK2.out).mono ?_
      rintro e w8 ⟨rfl, rfl⟩
      go_wp2_with fail
      refine (wupd_any x1 y1 z1 _).mono ?_
      rintro e w8 ⟨rfl, rfl⟩
      go_wp2_with fail
      refine (rwupd_any x1 y1 z1 _).mono ?_
      rintro e w8 ⟨rfl, rfl⟩
      generalize upR x1 y1 z1 = r3 at *
      go_wp2_with fail
      refine (wupd_any n y1 i _).mono ?_
      rintro e w8 ⟨rfl, rfl⟩
      go_wp2_with fail
      refine (rwupd_any n y1 i _).mono ?_
      rintro e w8 ⟨rfl, rfl⟩
      generalize upR n y1 i = r4 at *
      go_wp2_with fail
      refine (HE1.out).mono ?_
      rintro e w8 ⟨rfl, rfl⟩
      go_wp2_with fail
      refine HE2.out.mono ?_
      rintro e w8 ⟨rfl, hg8⟩
      have HB8 := Lib.hid (weq_self w8 (B7.out.gr hg8) (B7.out.gr hg8))
      have HG8 := Lib.hid (HG7.out.step hg8)
      clear hg8
      go_wp2_with fail
      refine HB8.out.mono ?_
      rintro e w9 ⟨rfl, rfl⟩
      go_wp2_with fail
      go_ret
      exact ⟨rfl, HG8.out⟩
end Go.Proofs.Ytikkobmccagdlaa
