/- The walk of FibLongest. -/
import Derived.Test.YtefocmcpeigfcaaAq
import Derived.WalkKit
import Derived.WalkSpells
import Derived.WalkLawsBesides
import Derived.WalkSmall
import Derived.Handy
import Derived.BigQuiet
import Derived.Deep.QuietTactic
import Derived.Deep.RegionHeld3
import Derived.Deep.DeepFit
import Derived.Below
import Derived.Lib.Hide
import Derived.Lib.QuietBelow
import Derived.Deep.DeepCutAuto
namespace Go.Proofs.Ytefocmcpeigfcaa
open Go Go.RowKit Go.Sort
set_option maxRecDepth 100000
set_option linter.unusedVariables false
/-- some of the routes contains the address -/
def anyC (l : List Rt) (x : Int) : Bool := l.any fun r => ctn r.a r.n x
theorem anyC_one (l : List Rt) (x : Int) (k : Nat) (r : Rt) (h : l[k]? = some r) : anyC (l.take (k + 1)) x = (anyC (l.take k) x || ctn r.a r.n x) := by
  rw [take_one l k r h]
  unfold anyC
  rw [List.any_append]
  simp
theorem any_best {l : List Rt} {x : Int} {o : Option Rt} (h : Best l x o) : anyC l x = o.isSome := by
  cases o with
  | none =>
    have h' : ∀ r ∈ l, ctn r.a r.n x = false := h
    unfold anyC
    rw [List.any_eq_false.2 fun r hr => by rw [h' r hr]; simp]
    rfl
  | some r =>
    unfold anyC
    rw [List.any_eq_true.2 ⟨r, h.1, h.2.1⟩]
    rfl
set_option maxHeartbeats 4000000 in
theorem longest_walk (sv : Value) (len : Nat) (a : Int) (w : World) (hl : len ≤ 9223372036854775807) (hb : BytesV w.heap.size w sv len) (ha0 : 0 ≤ a) (ha1 : a < 4294967296) :
    Calls Try.prog 4 #[sv, .int .u32 a] w fun e w' => e = .returned (.bool true) ∧ Gr w w' := by
  have HB := Lib.hid hb
  clear hb
  go_enter Try.func4, Try.ntmps4
  go_wp2_with fail
  refine (awake_any _).mono ?_
  rintro e w1 ⟨rfl, hg⟩
  go_wp2_with fail
  refine (new_any sv len 200 _ (by omega) hl (HB.out.gr hg)).mono ?_
  rintro e w2 ⟨b, rfl, hbe, hc, hg2⟩
  have hbw : w.heap.size ≤ b := by have := Gr.size hg; omega
  have hG2 := hg.step hg2
  have hs2 : w.heap.size ≤ w2.heap.size := Gr.size hG2
  clear hbe hg2 hg HB hl
  go_wp2_with fail
  refine (table_any b _ hc hs2).mono ?_
  rintro e w3 ⟨tv, l, rfl, hT, hP, hok, hl8, hc3, he3⟩
  have HT := Lib.hid hT
  have HOK := Lib.hid hok
  have hs3 := he3.size
  clear hT hP hok
  go_wp2_with fail
  refine (next_any b 2 _ (by omega) (by omega) hc3).mono ?_
  rintro e w4 ⟨y, rfl, y0, y1, hc4, he4⟩
  have HT4 := Lib.hid (HT.out.ex he4 (fun k hk => by have := hc.lt; omega))
  have hE4 := he3.trans he4
  have HFW := Lib.hid (HOK.out.few (by omega))
  clear HT
  by_cases hy : y = 1
  · have hd : (y == 1) = true := by simp [hy]
    have HE4 := Lib.hid hE4
    have HC4 := Lib.hid hc4
    have hlt := hc.lt
    clear hc hc3 hc4 he3 he4 hE4
    go_wp2_with fail
    refine (address_i b _ HC4.out).mono ?_
    rintro e w5 ⟨x, rfl, x0, x1, hc5, he5⟩
    have HT5 := Lib.hid (HT4.out.ex he5 (fun k hk => by omega))
    have hG5 : Gr w w5 := Ex.gr hG2 hbw (HE4.out.trans he5)
    clear hc5 he5 HT4 HC4 HE4
    go_wp2_with fail
    refine (slook _ l x w5 HT5.out HFW.out HOK.out.1 x0 x1).mono ?_
    rintro e w6 ⟨v, rfl, hrv, hg6⟩
    have hbest := best_ref l x
    have hany := any_best hbest
    generalize lookR l x = o at *
    have hG6 : Gr w w6 := hG5.step hg6
    obtain ⟨nv, rfl, hro, hrn⟩ := hrv
    obtain ⟨ad, cp, rfl⟩ := hrn.form
    have HT6 := Lib.hid (HT5.out.gr hg6)
    have HRO := Lib.hid hro
    have HBEST := Lib.hid hbest
    have HANY := Lib.hid hany
    generalize hrl : (o.getD zeroR).nx.length = rl at *
    generalize hrr : o.getD zeroR = rr at *
    have HRR := Lib.hid hrr
    dsimp only [rtv]
    clear hro hrn hbest hany hg6 hrl hrr
    obtain ⟨ta, tc, rfl, -, -⟩ := HT6.out.form
    generalize hln : l.length = n at *
    have HLN := Lib.hid hln
    clear hln
    go_wp2_with fail
    have k7 : CL (w6.alloc (.cells #[.int .u32 rr.a, .int .i64 rr.n, .slice ad rl cp, .int .i64 rr.bal] 34)) w6.heap.size [.int .u32 rr.a, .int .i64 rr.n, .slice ad rl cp, .int .i64 rr.bal] := CL.new _ _ _ _ rfl
    have g7 : Gr w6 (w6.alloc (.cells #[.int .u32 rr.a, .int .i64 rr.n, .slice ad rl cp, .int .i64 rr.bal] 34)) := (Gr.refl _).alloc _
    generalize w6.alloc (.cells #[.int .u32 rr.a, .int .i64 rr.n, .slice ad rl cp, .int .i64 rr.bal] 34) = w7 at *
    have hG7 := hG6.step g7
    have HT7 := Lib.hid (HT6.out.gr g7)
    clear HT6
    go_loopw [9, 10] (fun fd i wr => ∃ k : Nat, i = .int .i64 k ∧ k ≤ n ∧ fd = .bool (anyC (l.take k) x) ∧ Gr w7 wr)
      (fun _ i _ => n - (intOf i).toNat)
    case atStart => exact ⟨0, rfl, by omega, rfl, Gr.refl _⟩
    case round =>
      obtain ⟨k, rfl, hk, rfl, hGr⟩ := hrel
      obtain ⟨⟨a0, a1, a2, a3⟩, -⟩ := (k7.gr hGr).four
      by_cases hlt : k < n
      · have k0 : (k : Int) < (n : Int) := by omega
        obtain ⟨r, hr⟩ : ∃ r, l[k]? = some r := ⟨_, List.getElem?_eq_getElem (by have := HLN.out; omega)⟩
        obtain ⟨b', off, nv', rfl, -, hcell, hok', -⟩ := (HT7.out.gr hGr).at' hr
        have hstep := anyC_one l x k r hr
        have HST := Lib.hid hstep
        have HCE := Lib.hid hcell
        obtain ⟨c0, c1, c2, c3⟩ := hcell
        have hcc := fun w' => rctn_any r.a r.n x w' hok'.1 hok'.2
        have hle : ctn r.a r.n x = true → decide (r.n > rr.n) = false := fun hc => by
          have hb := HBEST.out
          have hrr := HRR.out
          cases o with
          | none =>
            have hb' : ∀ r ∈ l, ctn r.a r.n x = false := hb
            have := hb' r (List.mem_of_getElem? hr)
            rw [hc] at this; cases this
          | some y =>
            have := hb.2.2 r (List.mem_of_getElem? hr) hc
            simp only [Option.getD_some] at hrr
            subst hrr
            exact decide_eq_false (by omega)
        generalize hq : ctn r.a r.n x = q at hcc hle
        have HQ := Lib.hid hq
        clear hstep hok' hr hq
        cases q
        · clear hle
          go_wp2_with fail
          refine (hcc _).mono ?_
          rintro e w8 ⟨rfl, hg8⟩
          go_wp2_with fail
          case roundEnd =>
            refine ⟨⟨k + 1, rfl, by omega, ?_, hGr.step hg8⟩, by simp only [intOf]; omega⟩
            rw [HST.out, HQ.out, Bool.or_false]
        · have hd := hle rfl
          clear hle
          go_wp2_with fail
          refine (hcc _).mono ?_
          rintro e w8 ⟨rfl, hg8⟩
          clear a0 a1 a2 a3 c0 c1 c2 c3
          obtain ⟨⟨a0, a1, a2, a3⟩, -⟩ := (k7.gr (hGr.step hg8)).four
          obtain ⟨c0, c1, c2, c3⟩ := HCE.out.gr hg8
          have A1 := fun d os => cell_regrown a1 d os
          have C1 := fun d os => cell_regrown c1 d os
          clear a0 a1 a2 a3 c0 c1 c2 c3
          go_wp2_with fail
          refine wp_region_quiet_below (by kernel_rfl) (by kernel_rfl) ?_
          repeat (any_goals (first | go_big_quiet_step (fail) | quiet_step (fail)))
          refine wpQuiet_nil ?_
          intro _ hw'
          obtain ⟨⟨dq, osq⟩, hw''⟩ := hw'
          subst hw''
          have hGb : Gr w8 (grow (redrawn w8 dq) osq) := (by repeat' (first | (with_reducible exact Gr.refl _) | (with_reducible assumption) | (with_reducible refine Gr.drewN ?_ _) | (with_reducible refine Gr.drew ?_) | (with_reducible refine Gr.alloc ?_ _) | (with_reducible refine Gr.setCell ?_ ?_ _) | (with_reducible refine Gr.grow ?_ _ _) | (refine Gr.step ?_ (by with_reducible assumption)) | go_size))
          generalize grow (redrawn w8 dq) osq = w9 at *
          go_wp2_with fail
          case roundEnd =>
            refine ⟨⟨k + 1, rfl, by omega, ?_, (hGr.step hg8).step hGb⟩, by simp only [intOf]; omega⟩
            rw [HST.out, HQ.out, Bool.or_true]
      · obtain rfl : k = n := by omega
        have k0 : ¬ (k : Int) < (k : Int) := by omega
        have hfound : anyC (l.take k) x = o.isSome := by rw [← HLN.out, List.take_length]; exact HANY.out
        rw [hfound]
        have HTr := Lib.hid (HT7.out.gr hGr)
        have hGF := hG7.step hGr
        clear hfound
        have hrr := HRR.out
        have hb := HBEST.out
        have hok := HRO.out
        cases o with
        | none =>
          simp only [Option.isSome_none]
          clear hrr hb hok
          go_wp2_with fail
          go_ret
          exact ⟨rfl, hGF⟩
        | some y =>
          simp only [Option.getD_some] at hrr
          subst hrr
          simp only [Option.isSome_some]
          have hcc := fun w' => rctn_any y.a y.n x w' hok.1 hok.2
          rw [hb.2.1] at hcc
          have hh : hasL y.a y.n l = true := has_iff.2 ⟨y, hb.1, cmr_zero.2 ⟨rfl, rfl⟩⟩
          have HH := Lib.hid hh
          clear hb hok hh
          go_wp2_with fail
          refine (hcc _).mono ?_
          rintro e w8 ⟨rfl, hg8⟩
          clear a0 a1 a2 a3
          obtain ⟨⟨a0, a1, a2, a3⟩, -⟩ := (k7.gr (hGr.step hg8)).four
          go_wp2_with fail
          refine (has_any _ l y.a y.n w8 (HTr.out.gr hg8) HFW.out).mono ?_
          rintro e w9 ⟨rfl, hg9⟩
          rw [HH.out]
          go_wp2_with fail
          go_ret
          exact ⟨rfl, (hGF.step hg8).step hg9⟩
  · have hd : (y == 1) = false := by simp [hy]
    have hG4 : Gr w w4 := Ex.gr hG2 hbw hE4
    clear hc hc3 hc4 he3 he4 hE4
    go_wp2_with fail
    refine (slook _ l a w4 HT4.out HFW.out HOK.out.1 ha0 ha1).mono ?_
    rintro e w6 ⟨v, rfl, hrv, hg6⟩
    have hbest := best_ref l a
    have hany := any_best hbest
    generalize lookR l a = o at *
    have hG6 : Gr w w6 := hG4.step hg6
    obtain ⟨nv, rfl, hro, hrn⟩ := hrv
    obtain ⟨ad, cp, rfl⟩ := hrn.form
    have HT6 := Lib.hid (HT4.out.gr hg6)
    have HRO := Lib.hid hro
    have HBEST := Lib.hid hbest
    have HANY := Lib.hid hany
    generalize hrl : (o.getD zeroR).nx.length = rl at *
    generalize hrr : o.getD zeroR = rr at *
    have HRR := Lib.hid hrr
    dsimp only [rtv]
    clear hro hrn hbest hany hg6 hrl hrr
    obtain ⟨ta, tc, rfl, -, -⟩ := HT6.out.form
    generalize hln : l.length = n at *
    have HLN := Lib.hid hln
    clear hln
    go_wp2_with fail
    have k7 : CL (w6.alloc (.cells #[.int .u32 rr.a, .int .i64 rr.n, .slice ad rl cp, .int .i64 rr.bal] 34)) w6.heap.size [.int .u32 rr.a, .int .i64 rr.n, .slice ad rl cp, .int .i64 rr.bal] := CL.new _ _ _ _ rfl
    have g7 : Gr w6 (w6.alloc (.cells #[.int .u32 rr.a, .int .i64 rr.n, .slice ad rl cp, .int .i64 rr.bal] 34)) := (Gr.refl _).alloc _
    generalize w6.alloc (.cells #[.int .u32 rr.a, .int .i64 rr.n, .slice ad rl cp, .int .i64 rr.bal] 34) = w7 at *
    have hG7 := hG6.step g7
    have HT7 := Lib.hid (HT6.out.gr g7)
    clear HT6
    go_loopw [9, 10] (fun fd i wr => ∃ k : Nat, i = .int .i64 k ∧ k ≤ n ∧ fd = .bool (anyC (l.take k) a) ∧ Gr w7 wr)
      (fun _ i _ => n - (intOf i).toNat)
    case atStart => exact ⟨0, rfl, by omega, rfl, Gr.refl _⟩
    case round =>
      obtain ⟨k, rfl, hk, rfl, hGr⟩ := hrel
      obtain ⟨⟨a0, a1, a2, a3⟩, -⟩ := (k7.gr hGr).four
      by_cases hlt : k < n
      · have k0 : (k : Int) < (n : Int) := by omega
        obtain ⟨r, hr⟩ : ∃ r, l[k]? = some r := ⟨_, List.getElem?_eq_getElem (by have := HLN.out; omega)⟩
        obtain ⟨b', off, nv', rfl, -, hcell, hok', -⟩ := (HT7.out.gr hGr).at' hr
        have hstep := anyC_one l a k r hr
        have HST := Lib.hid hstep
        have HCE := Lib.hid hcell
        obtain ⟨c0, c1, c2, c3⟩ := hcell
        have hcc := fun w' => rctn_any r.a r.n a w' hok'.1 hok'.2
        have hle : ctn r.a r.n a = true → decide (r.n > rr.n) = false := fun hc => by
          have hb := HBEST.out
          have hrr := HRR.out
          cases o with
          | none =>
            have hb' : ∀ r ∈ l, ctn r.a r.n a = false := hb
            have := hb' r (List.mem_of_getElem? hr)
            rw [hc] at this; cases this
          | some y =>
            have := hb.2.2 r (List.mem_of_getElem? hr) hc
            simp only [Option.getD_some] at hrr
            subst hrr
            exact decide_eq_false (by omega)
        generalize hq : ctn r.a r.n a = q at hcc hle
        have HQ := Lib.hid hq
        clear hstep hok' hr hq
        cases q
        · clear hle
          go_wp2_with fail
          refine (hcc _).mono ?_
          rintro e w8 ⟨rfl, hg8⟩
          go_wp2_with fail
          case roundEnd =>
            refine ⟨⟨k + 1, rfl, by omega, ?_, hGr.step hg8⟩, by simp only [intOf]; omega⟩
            rw [HST.out, HQ.out, Bool.or_false]
        · have hd := hle rfl
          clear hle
          go_wp2_with fail
          refine (hcc _).mono ?_
          rintro e w8 ⟨rfl, hg8⟩
          clear a0 a1 a2 a3 c0 c1 c2 c3
          obtain ⟨⟨a0, a1, a2, a3⟩, -⟩ := (k7.gr (hGr.step hg8)).four
          obtain ⟨c0, c1, c2, c3⟩ := HCE.out.gr hg8
          have A1 := fun d os => cell_regrown a1 d os
          have C1 := fun d os => cell_regrown c1 d os
          clear a0 a1 a2 a3 c0 c1 c2 c3
          go_wp2_with fail
          refine wp_region_quiet_below (by kernel_rfl) (by kernel_rfl) ?_
          repeat (any_goals (first | go_big_quiet_step (fail) | quiet_step (fail)))
          refine wpQuiet_nil ?_
          intro _ hw'
          obtain ⟨⟨dq, osq⟩, hw''⟩ := hw'
          subst hw''
          have hGb : Gr w8 (grow (redrawn w8 dq) osq) := (by repeat' (first | (with_reducible exact Gr.refl _) | (with_reducible assumption) | (with_reducible refine Gr.drewN ?_ _) | (with_reducible refine Gr.drew ?_) | (with_reducible refine Gr.alloc ?_ _) | (with_reducible refine Gr.setCell ?_ ?_ _) | (with_reducible refine Gr.grow ?_ _ _) | (refine Gr.step ?_ (by with_reducible assumption)) | go_size))
          generalize grow (redrawn w8 dq) osq = w9 at *
          go_wp2_with fail
          case roundEnd =>
            refine ⟨⟨k + 1, rfl, by omega, ?_, (hGr.step hg8).step hGb⟩, by simp only [intOf]; omega⟩
            rw [HST.out, HQ.out, Bool.or_true]
      · obtain rfl : k = n := by omega
        have k0 : ¬ (k : Int) < (k : Int) := by omega
        have hfound : anyC (l.take k) a = o.isSome := by rw [← HLN.out, List.take_length]; exact HANY.out
        rw [hfound]
        have HTr := Lib.hid (HT7.out.gr hGr)
        have hGF := hG7.step hGr
        clear hfound
        have hrr := HRR.out
        have hb := HBEST.out
        have hok := HRO.out
        cases o with
        | none =>
          simp only [Option.isSome_none]
          clear hrr hb hok
          go_wp2_with fail
          go_ret
          exact ⟨rfl, hGF⟩
        | some y =>
          simp only [Option.getD_some] at hrr
          subst hrr
          simp only [Option.isSome_some]
          have hcc := fun w' => rctn_any y.a y.n a w' hok.1 hok.2
          rw [hb.2.1] at hcc
          have hh : hasL y.a y.n l = true := has_iff.2 ⟨y, hb.1, cmr_zero.2 ⟨rfl, rfl⟩⟩
          have HH := Lib.hid hh
          clear hb hok hh
          go_wp2_with fail
          refine (hcc _).mono ?_
          rintro e w8 ⟨rfl, hg8⟩
          clear a0 a1 a2 a3
          obtain ⟨⟨a0, a1, a2, a3⟩, -⟩ := (k7.gr (hGr.step hg8)).four
          go_wp2_with fail
          refine (has_any _ l y.a y.n w8 (HTr.out.gr hg8) HFW.out).mono ?_
          rintro e w9 ⟨rfl, hg9⟩
          rw [HH.out]
          go_wp2_with fail
          go_ret
          exact ⟨rfl, (hGF.step hg8).step hg9⟩
end Go.Proofs.Ytefocmcpeigfcaa
