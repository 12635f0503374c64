/- The document's Lookup. -/
import Derived.Test.YtefocmcpeigfcaaAd
import Derived.WalkKit
import Derived.WalkSpells
import Derived.WalkLawsBesides
import Derived.WalkSmall
import Derived.Handy
import Derived.BigQuiet
import Derived.Deep.QuietTactic
import Derived.Deep.RegionHeld3
import Derived.Deep.DeepFit
import Derived.Below
import Derived.Lib.Hide
import Derived.Lib.QuietBelow
import Derived.Deep.DeepCutAuto
namespace Go.Proofs.Ytefocmcpeigfcaa
open Go Go.RowKit Go.Sort
set_option maxRecDepth 100000
set_option linter.unusedVariables false
/-- the best route so far: its index, -1 if there is none -/
def bestK (l : List Rt) (x : Int) : Nat → Int
  | 0 => -1
  | k + 1 => match l[k]? with
    | some r => if ctn r.a r.n x = true ∧ (bestK l x k < 0 ∨ ((l[(bestK l x k).toNat]?).map Rt.n).getD 0 < r.n) then (k : Int) else bestK l x k
    | none => bestK l x k
theorem bestK_lt (l : List Rt) (x : Int) : ∀ k, -1 ≤ bestK l x k ∧ bestK l x k < k
  | 0 => by simp [bestK]
  | k + 1 => by
    have ih := bestK_lt l x k
    rw [bestK]
    split
    · split
      · omega
      · omega
    · omega
/-- the route that a lookup finds -/
def lookR (l : List Rt) (x : Int) : Option Rt := if bestK l x l.length < 0 then none else l[(bestK l x l.length).toNat]?
def zeroR : Rt := ⟨0, 0, [], 0⟩
def LkPost (o : Option Rt) (w : World) (e : Ending) (w' : World) : Prop := ∃ v, e = .returned (.tuple #[v, .bool o.isSome]) ∧ Rv (fun b => w.heap.size ≤ b) w' v (o.getD zeroR) ∧ Gr w w'
set_option maxHeartbeats 2000000 in
theorem rlook_any {p : Nat → Prop} (v : Value) (l : List Rt) (x : Int) (w : World) (h : Tb p w v l) (hf : Few l) (hx0 : 0 ≤ x) (hx1 : x < 4294967296) :
    Calls Try.prog 16 #[v, .int .u32 x] w (LkPost (lookR l x) w) := by
  have HT := Lib.hid h
  have HF := Lib.hid hf
  have hl := hf.1
  obtain ⟨ad, cap, rfl, hlc, hcp⟩ := h.form
  clear h hf
  generalize hln : l.length = len at *
  have HN := Lib.hid hln
  clear hln
  have hlr : lookR l x = if bestK l x len < 0 then none else l[(bestK l x len).toNat]? := by rw [← HN.out]; rfl
  have HLR := Lib.hid hlr
  clear hlr
  go_enter Try.func16, Try.ntmps16
  go_wp2_with fail
  have hGa : Gr w (w.alloc (.cells #[.int .u32 0, .int .i64 0, .slice none 0 0, .int .i64 0] 34)) := (Gr.refl _).alloc _
  have k1 : CL (w.alloc (.cells #[.int .u32 0, .int .i64 0, .slice none 0 0, .int .i64 0] 34)) w.heap.size [.int .u32 0, .int .i64 0, .slice none 0 0, .int .i64 0] := CL.new _ _ _ _ rfl
  generalize w.alloc (.cells #[.int .u32 0, .int .i64 0, .slice none 0 0, .int .i64 0] 34) = Wa at *
  go_loopw [6, 7] (fun bs i wr => ∃ k : Nat, i = .int .i64 k ∧ k ≤ len ∧ bs = .int .i64 (bestK l x k) ∧ Gr w wr ∧ CL wr w.heap.size [.int .u32 0, .int .i64 0, .slice none 0 0, .int .i64 0])
    (fun _ i _ => len - (intOf i).toNat)
  case atStart => exact ⟨0, rfl, by omega, rfl, hGa, k1⟩
  case round =>
    obtain ⟨k, rfl, hk, rfl, hG, hC⟩ := hrel
    have HC := Lib.hid hC
    obtain ⟨hb0, hb1⟩ := bestK_lt l x k
    by_cases hlt : k < len
    · obtain ⟨r, hr⟩ : ∃ r, l[k]? = some r := ⟨_, List.getElem?_eq_getElem (by have := HN.out; omega)⟩
      obtain ⟨b, off, nv, rfl, -, hcell, hok, hnx⟩ := (HT.out.gr hG).at' hr
      have hstep : bestK l x (k + 1) = if ctn r.a r.n x = true ∧ (bestK l x k < 0 ∨ ((l[(bestK l x k).toNat]?).map Rt.n).getD 0 < r.n) then (k : Int) else bestK l x k := by rw [bestK, hr]
      have k0 : (k : Int) < (len : Int) := by omega
      obtain ⟨c0, c1, c2, c3⟩ := hcell
      have C0 := fun d os => cell_regrown c0 d os
      have C1 := fun d os => cell_regrown c1 d os
      have hcc := fun w => rctn_any r.a r.n x w hok.1 hok.2
      generalize hq : ctn r.a r.n x = q at hstep hcc
      generalize hbk : bestK l x k = bk at *
      clear hC hnx hok c0 c1 c2 c3 hq
      cases q
      · have HS := Lib.hid hstep
        clear hstep
        go_wp2_with fail
        refine wp_region_quiet_below (by kernel_rfl) (by kernel_rfl) ?_
        repeat (any_goals (first | go_big_quiet_step (first | (go_at_call 23; exact Calls.gr_of (hcc _))) | quiet_step (first | (go_at_call 23; exact Calls.gr_of (hcc _)))))
        refine wpQuiet_nil ?_
        intro _ hw'
        obtain ⟨⟨dq, osq⟩, hw''⟩ := hw'
        subst hw''
        have hGb : Gr wr (grow (redrawn wr dq) osq) := (by repeat' (first | (with_reducible exact Gr.refl _) | (with_reducible assumption) | (with_reducible refine Gr.drewN ?_ _) | (with_reducible refine Gr.drew ?_) | (with_reducible refine Gr.alloc ?_ _) | (with_reducible refine Gr.setCell ?_ ?_ _) | (with_reducible refine Gr.grow ?_ _ _) | (refine Gr.step ?_ (by with_reducible assumption)) | go_size))
        generalize grow (redrawn wr dq) osq = w1 at *
        go_wp2_with fail
        case roundEnd =>
          refine ⟨⟨k + 1, rfl, by omega, ?_, hG.step hGb, HC.out.gr hGb⟩, by simp only [intOf]; omega⟩
          rw [HS.out]; simp
      · by_cases hneg : bk < 0
        · have HS : Hid (bestK l x (k + 1) = (k : Int)) := Lib.hid (by rw [hstep, if_pos ⟨rfl, .inl hneg⟩])
          clear hstep
          have hd : decide (bk < 0) = true := decide_eq_true hneg
          go_wp2_with fail
          refine wp_region_quiet_below (by kernel_rfl) (by kernel_rfl) ?_
          repeat (any_goals (first | go_big_quiet_step (first | (go_at_call 23; exact Calls.gr_of (hcc _))) | quiet_step (first | (go_at_call 23; exact Calls.gr_of (hcc _)))))
          refine wpQuiet_nil ?_
          intro _ hw'
          obtain ⟨⟨dq, osq⟩, hw''⟩ := hw'
          subst hw''
          have hGb : Gr wr (grow (redrawn wr dq) osq) := (by repeat' (first | (with_reducible exact Gr.refl _) | (with_reducible assumption) | (with_reducible refine Gr.drewN ?_ _) | (with_reducible refine Gr.drew ?_) | (with_reducible refine Gr.alloc ?_ _) | (with_reducible refine Gr.setCell ?_ ?_ _) | (with_reducible refine Gr.grow ?_ _ _) | (refine Gr.step ?_ (by with_reducible assumption)) | go_size))
          generalize grow (redrawn wr dq) osq = w1 at *
          go_wp2_with fail
          case roundEnd =>
            refine ⟨⟨k + 1, rfl, by omega, ?_, hG.step hGb, HC.out.gr hGb⟩, by simp only [intOf]; omega⟩
            rw [HS.out]
        · obtain ⟨bn, rfl⟩ := Int.eq_ofNat_of_zero_le (show 0 ≤ bk by omega)
          obtain ⟨rb, hrb⟩ : ∃ r, l[bn]? = some r := ⟨_, List.getElem?_eq_getElem (by have := HN.out; omega)⟩
          obtain ⟨b', off', nv', e, -, hcell', -, -⟩ := (HT.out.gr hG).at' hrb
          cases e
          have hd : decide ((bn : Int) < 0) = false := decide_eq_false hneg
          have hbl : (bn : Int) < (len : Int) := by omega
          have hbn0 : (0 : Int) ≤ (bn : Int) := by omega
          rw [Int.toNat_natCast, hrb] at hstep
          simp only [Option.map_some, Option.getD_some, hneg, false_or, true_and] at hstep
          obtain ⟨d0, d1, d2, d3⟩ := hcell'
          have D1 := fun d os => cell_regrown d1 d os
          clear d0 d1 d2 d3
          by_cases hgt : rb.n < r.n
          · have HS : Hid (bestK l x (k + 1) = (k : Int)) := Lib.hid (by rw [hstep, if_pos hgt])
            have hd2 : decide (r.n > rb.n) = true := decide_eq_true hgt
            clear hstep
            go_wp2_with fail
            refine wp_region_quiet_below (by kernel_rfl) (by kernel_rfl) ?_
            repeat (any_goals (first | go_big_quiet_step (first | (go_at_call 23; exact Calls.gr_of (hcc _))) | quiet_step (first | (go_at_call 23; exact Calls.gr_of (hcc _)))))
            refine wpQuiet_nil ?_
            intro _ hw'
            obtain ⟨⟨dq, osq⟩, hw''⟩ := hw'
            subst hw''
            have hGb : Gr wr (grow (redrawn wr dq) osq) := (by repeat' (first | (with_reducible exact Gr.refl _) | (with_reducible assumption) | (with_reducible refine Gr.drewN ?_ _) | (with_reducible refine Gr.drew ?_) | (with_reducible refine Gr.alloc ?_ _) | (with_reducible refine Gr.setCell ?_ ?_ _) | (with_reducible refine Gr.grow ?_ _ _) | (refine Gr.step ?_ (by with_reducible assumption)) | go_size))
            generalize grow (redrawn wr dq) osq = w1 at *
            go_wp2_with fail
            case roundEnd =>
              refine ⟨⟨k + 1, rfl, by omega, ?_, hG.step hGb, HC.out.gr hGb⟩, by simp only [intOf]; omega⟩
              rw [HS.out]
          · have HS : Hid (bestK l x (k + 1) = (bn : Int)) := Lib.hid (by rw [hstep, if_neg hgt])
            have hd2 : decide (r.n > rb.n) = false := decide_eq_false hgt
            clear hstep
            go_wp2_with fail
            refine wp_region_quiet_below (by kernel_rfl) (by kernel_rfl) ?_
            repeat (any_goals (first | go_big_quiet_step (first | (go_at_call 23; exact Calls.gr_of (hcc _))) | quiet_step (first | (go_at_call 23; exact Calls.gr_of (hcc _)))))
            refine wpQuiet_nil ?_
            intro _ hw'
            obtain ⟨⟨dq, osq⟩, hw''⟩ := hw'
            subst hw''
            have hGb : Gr wr (grow (redrawn wr dq) osq) := (by repeat' (first | (with_reducible exact Gr.refl _) | (with_reducible assumption) | (with_reducible refine Gr.drewN ?_ _) | (with_reducible refine Gr.drew ?_) | (with_reducible refine Gr.alloc ?_ _) | (with_reducible refine Gr.setCell ?_ ?_ _) | (with_reducible refine Gr.grow ?_ _ _) | (refine Gr.step ?_ (by with_reducible assumption)) | go_size))
            generalize grow (redrawn wr dq) osq = w1 at *
            go_wp2_with fail
            case roundEnd =>
              refine ⟨⟨k + 1, rfl, by omega, ?_, hG.step hGb, HC.out.gr hGb⟩, by simp only [intOf]; omega⟩
              rw [HS.out]
    · obtain rfl : k = len := by omega
      have k0 : ¬ (k : Int) < (k : Int) := by omega
      obtain ⟨⟨a0, a1, a2, a3⟩, f0, f1, f2, f3⟩ := hC.four
      generalize hbk : bestK l x k = bk at *
      have hlr := HLR.out
      clear hC
      by_cases hneg : bk < 0
      · rw [if_pos hneg] at hlr
        have HL := Lib.hid hlr
        clear hlr
        go_wp2_with fail
        refine bodyPost_ret (v := .tuple #[.agg #[.int .u32 0, .int .i64 0, .slice none 0 0, .int .i64 0], .bool false]) (by simp [results, Try.results16, go_sem, a0, a1, a2, a3]) rfl ?_
        rw [HL.out]
        refine ⟨_, rfl, ⟨.slice none 0 0, rfl, ⟨by decide, by decide⟩, Ri.nil _ _⟩, ?_⟩
        exact (((hG.setCell (p := ⟨w.heap.size, 0, none⟩) (by simp) _).setCell (p := ⟨w.heap.size, 1, none⟩) (by simp) _).setCell (p := ⟨w.heap.size, 2, none⟩) (by simp) _).setCell (p := ⟨w.heap.size, 3, none⟩) (by simp) _
      · obtain ⟨bn, rfl⟩ := Int.eq_ofNat_of_zero_le (show 0 ≤ bk by omega)
        obtain ⟨rb, hrb⟩ : ∃ r, l[bn]? = some r := ⟨_, List.getElem?_eq_getElem (by have := HN.out; omega)⟩
        rw [if_neg hneg, Int.toNat_natCast, hrb] at hlr
        have HL := Lib.hid hlr
        obtain ⟨b, off, nv, rfl, -, ⟨c0, c1, c2, c3⟩, hok, hnx⟩ := (HT.out.gr hG).at' hrb
        have hrn := HF.out.2 rb (List.mem_of_getElem? hrb)
        have hd : decide ((bn : Int) < 0) = false := decide_eq_false hneg
        clear hlr a0 a1 a2 a3 f0 f1 f2 f3
        go_wp2_with fail
        refine (copied_any _ rb wr ⟨nv, rfl, hok, hnx⟩ hrn).mono ?_
        rintro e w2 ⟨v', rfl, ⟨nv2, rfl, hok2, hnx2⟩, hg2⟩
        unfold rtv
        dsimp only
        obtain ⟨⟨a0, a1, a2, a3⟩, f0, f1, f2, f3⟩ := (HC.out.gr hg2).four
        have HK2 := Lib.hid hok2
        have HN2 := Lib.hid hnx2
        obtain ⟨ad2, cp2, rfl⟩ := hnx2.form
        generalize hl2 : rb.nx.length = ln2 at HN2 ⊢
        have hsz : w.heap.size < wr.heap.size := HC.out.lt
        clear hok2 hnx2 c0 c1 c2 c3
        go_wp2_with fail
        refine bodyPost_ret (v := .tuple #[.agg #[.int .u32 rb.a, .int .i64 rb.n, .slice ad2 ln2 cp2, .int .i64 rb.bal], .bool true]) (by simp [results, Try.results16, go_sem, a0, a1, a2, a3]) rfl ?_
        rw [HL.out]
        refine ⟨_, rfl, ⟨.slice ad2 ln2 cp2, rfl, HK2.out, ?_⟩, ?_⟩
        · refine HN2.out.keep fun b hb hl => ⟨by omega, fun o => ?_⟩
          simp only [far_cell (show b ≠ w.heap.size by omega)]
        · exact ((((hG.step hg2).setCell (p := ⟨w.heap.size, 0, none⟩) (by simp) _).setCell (p := ⟨w.heap.size, 1, none⟩) (by simp) _).setCell (p := ⟨w.heap.size, 2, none⟩) (by simp) _).setCell (p := ⟨w.heap.size, 3, none⟩) (by simp) _
end Go.Proofs.Ytefocmcpeigfcaa
