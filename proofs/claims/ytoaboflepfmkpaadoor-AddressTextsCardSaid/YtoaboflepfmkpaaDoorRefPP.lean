/- The document's ParsePrefix. -/
import Derived.Test.YtoaboflepfmkpaaDoorRefParse
import Derived.WalkKit
import Derived.WalkSpells
import Derived.WalkLawsBesides
import Derived.WalkSmall
import Derived.Handy
import Derived.BigQuiet
import Derived.Deep.QuietTactic
import Derived.Deep.RegionHeld3
import Derived.Deep.DeepFit
import Derived.Below
import Derived.Lib.Hide
import Derived.Lib.QuietBelow
import Derived.Deep.DeepCutAuto
namespace Go.Proofs.YtoaboflepfmkpaaDoor
open Go Go.RowKit Go.Sort
set_option maxRecDepth 100000
set_option linter.unusedVariables false

theorem cutAt_mem (c : UInt8) : ∀ l, (cutAt c l).2.2 = true → c ∈ l
  | [], h => by simp [cutAt] at h
  | x :: r, h => by
    by_cases hx : (x == c) = true
    · obtain rfl : x = c := by simpa using hx
      exact List.mem_cons_self ..
    · rw [cutAt_not r hx] at h
      exact List.mem_cons_of_mem _ (cutAt_mem c r h)
theorem pp_two {l x y : List UInt8} (h : parts 47 l = [x, y]) : (cutAt 47 l).2.2 = true ∧ (cutAt 47 l).1 = x ∧ (cutAt 47 l).2.1 = y := by
  have h1 := parts_cut 47 l
  rw [h] at h1
  cases hd : (cutAt 47 l).2.2
  · rw [hd] at h1; simp at h1
  · rw [hd] at h1
    simp only [if_true, List.cons.injEq] at h1
    obtain ⟨e1, e2⟩ := h1
    have h2 := parts_cut 47 (cutAt 47 l).2.1
    rw [← e2] at h2
    cases hd2 : (cutAt 47 (cutAt 47 l).2.1).2.2
    · rw [hd2] at h2
      simp at h2
      exact ⟨rfl, e1.symm, h2.symm⟩
    · rw [hd2] at h2
      simp only [if_true, List.cons.injEq] at h2
      have := parts_ne' 47 (cutAt 47 (cutAt 47 l).2.1).2.1
      rw [← h2.2] at this
      simp at this
theorem pp_not2 {l : List UInt8} (h : (parts 47 l).length ≠ 2) : ppOk l = false := by
  have h1 := parts_cut 47 l
  cases hd : (cutAt 47 l).2.2
  · simp [ppOk, hd]
  · rw [hd] at h1
    simp only [if_true] at h1
    have h2 := parts_cut 47 (cutAt 47 l).2.1
    cases hd2 : (cutAt 47 (cutAt 47 l).2.1).2.2
    · rw [hd2] at h2
      simp only [Bool.false_eq_true, if_false] at h2
      rw [h1, h2] at h; simp at h
    · have hm := cutAt_mem 47 _ hd2
      have hn : numOk (cutAt 47 l).2.1 32 = false := by
        rw [Bool.eq_false_iff]; intro hc
        simp only [numOk, Bool.and_eq_true] at hc
        have := List.all_eq_true.1 hc.2.1 47 hm
        revert this; decide
      simp [ppOk, hn]
set_option maxHeartbeats 1000000 in
theorem rpp_any (s : ByteArray) (w : World) (hs : s.size ≤ 1000000) :
    Calls Tryd.prog 21 #[.string s] w fun e w' => e = .returned (.tuple #[.agg #[.int .u32 (ppA s.data.toList), .int .i64 (ppN s.data.toList)], .int .i64 (ppE s.data.toList)]) ∧ Gr w w' := by
  have hPL := parts_len 47 s.data.toList
  rw [data_len] at hPL
  have HPL := Lib.hid hPL
  have HC := Lib.hid (fun w => rcut_any s 47 w hs)
  clear hPL
  by_cases h2 : (parts 47 s.data.toList).length = 2
  · obtain ⟨x, y, hxy⟩ : ∃ x y, parts 47 s.data.toList = [x, y] := by
      match hp : parts 47 s.data.toList, h2 with
      | [x, y], _ => exact ⟨x, y, rfl⟩
    have ⟨c1, c2, c3⟩ := pp_two hxy
    have hxl := HPL.out x (by rw [hxy]; simp)
    have hyl := HPL.out y (by rw [hxy]; simp)
    have HX := Lib.hid hxy
    have HP1 := Lib.hid (fun w => rparse_any (str x) w (by rw [str_size]; omega))
    have HS1 := Lib.hid (fun w => small_any (str y) 32 w (by rw [str_size]; omega) (by omega) (by omega))
    have ⟨v0, v1⟩ := parV_range x
    have t2 : (((parts 47 s.data.toList).length : Int) == 2) = true := by rw [h2]; rfl
    have HK := Lib.hid (show ppOk s.data.toList = ((parE x == 0) && (numOk y 32 && vld (parV x) (numV y 32))) by unfold ppOk; rw [c1, c2, c3]; simp)
    have HA := Lib.hid (show ppA s.data.toList = if ppOk s.data.toList then parV x else 0 by unfold ppA; rw [c2])
    have HN := Lib.hid (show ppN s.data.toList = if ppOk s.data.toList then numV y 32 else 0 by unfold ppN; rw [c3])
    clear hxy h2 c1 c2 c3 hxl hyl
    go_enter Tryd.func21, Tryd.ntmps21
    go_wp2_with fail
    refine (HC.out _).mono ?_
    rintro e w1 ⟨v, rfl, hown, hg1⟩
    obtain ⟨p, cp, rfl, hcp, hp⟩ := sv_form hown
    rw [HX.out] at hp hcp ⊢
    obtain ⟨g, rfl, x0⟩ := hp 0 x rfl
    obtain ⟨g', hgg, y0⟩ := hp 1 y rfl
    obtain rfl : g = g' := by simpa using hgg
    have q0 : w1.cell? ⟨w.heap.size, 0, none⟩ = some (.int .u32 0) := by rw [(Gr.cells hg1).1 _ _ (by simp)]; simp
    have q1 : w1.cell? ⟨w.heap.size, 1, none⟩ = some (.int .i64 0) := by rw [(Gr.cells hg1).1 _ _ (by simp)]; simp
    have f0 : w1.frozen? ⟨w.heap.size, 0, none⟩ = false := by rw [(Gr.cells hg1).2 _ _ (by simp)]; simp
    have f1 : w1.frozen? ⟨w.heap.size, 1, none⟩ = false := by rw [(Gr.cells hg1).2 _ _ (by simp)]; simp
    have hz := World.block_lt_of_cell? _ _ q0
    have hgz := World.block_lt_of_cell? _ _ x0
    have hG1 : Gr w w1 := (by repeat' (first | (with_reducible exact Gr.refl _) | (with_reducible assumption) | (with_reducible refine Gr.drewN ?_ _) | (with_reducible refine Gr.drew ?_) | (with_reducible refine Gr.alloc ?_ _) | (with_reducible refine Gr.setCell ?_ ?_ _) | (with_reducible refine Gr.grow ?_ _ _) | (refine Gr.step ?_ (by with_reducible assumption)) | go_size))
    clear hown hp hgg
    go_wp2_with fail
    refine (HP1.out _).mono ?_
    rw [str_data]
    rintro e w2 ⟨rfl, hg2⟩
    have y2 : w2.cell? ⟨g, 1, none⟩ = some (.string (str y)) := by rw [(Gr.cells hg2).1 _ _ hgz]; exact y0
    go_wp2_with fail
    refine (HS1.out _).mono ?_
    rw [str_data]
    rintro e w3 ⟨k, rfl, hk, hg3⟩
    have hg13 := hg2.step hg3
    have r0 : w3.cell? ⟨w.heap.size, 0, none⟩ = some (.int .u32 0) := by rw [(Gr.cells hg13).1 _ _ hz]; exact q0
    have r1 : w3.cell? ⟨w.heap.size, 1, none⟩ = some (.int .i64 0) := by rw [(Gr.cells hg13).1 _ _ hz]; exact q1
    have rf0 : w3.frozen? ⟨w.heap.size, 0, none⟩ = false := by rw [(Gr.cells hg13).2 _ _ hz]; exact f0
    have rf1 : w3.frozen? ⟨w.heap.size, 1, none⟩ = false := by rw [(Gr.cells hg13).2 _ _ hz]; exact f1
    have hz3 := World.block_lt_of_cell? _ _ r0
    have hG3 : Gr w w3 := (by repeat' (first | (with_reducible exact Gr.refl _) | (with_reducible assumption) | (with_reducible refine Gr.drewN ?_ _) | (with_reducible refine Gr.drew ?_) | (with_reducible refine Gr.alloc ?_ _) | (with_reducible refine Gr.setCell ?_ ?_ _) | (with_reducible refine Gr.grow ?_ _ _) | (refine Gr.step ?_ (by with_reducible assumption)) | go_size))
    clear q0 q1 f0 f1 y2 x0 y0 hg2 hg3 hg13
    rcases parE_cases x with he | he
    · rw [he] at HK ⊢
      cases hn : numOk y 32
      · rw [hn] at HK
        have hno := Lib.hid (pp_no HK.out)
        go_wp2_with fail
        refine bodyPost_ret (v := .tuple #[.agg #[.int .u32 0, .int .i64 0], .int .i64 2]) (by simp [results, Tryd.results21, go_sem, r0, r1, hz3, World.cell?_alloc_lt]) rfl ⟨?_, ?_⟩
        · exact rvalue hno.out.1 hno.out.2.1 hno.out.2.2
        · exact (by repeat' (first | (with_reducible exact Gr.refl _) | (with_reducible assumption) | (with_reducible refine Gr.drewN ?_ _) | (with_reducible refine Gr.drew ?_) | (with_reducible refine Gr.alloc ?_ _) | (with_reducible refine Gr.setCell ?_ ?_ _) | (with_reducible refine Gr.grow ?_ _ _) | (refine Gr.step ?_ (by with_reducible assumption)) | go_size))
      · obtain rfl := hk hn
        have eV := numV_yes hn
        rw [eV, hn] at HK
        rw [eV] at HN
        cases hv : vld (parV x) (dval y)
        · rw [hv] at HK
          have hno := Lib.hid (pp_no HK.out)
          have Hv := Lib.hid hv
          clear hv eV
          go_wp2_with fail
          refine (rvalid_no _ _ _ v0 v1 Hv.out).mono ?_
          rintro e w4 ⟨rfl, hg4⟩
          have s0 : w4.cell? ⟨w.heap.size, 0, none⟩ = some (.int .u32 0) := by rw [(Gr.cells hg4).1 _ _ (by go_size), World.cell?_alloc_lt _ _ _ hz3]; exact r0
          have s1 : w4.cell? ⟨w.heap.size, 1, none⟩ = some (.int .i64 0) := by rw [(Gr.cells hg4).1 _ _ (by go_size), World.cell?_alloc_lt _ _ _ hz3]; exact r1
          have sf0 : w4.frozen? ⟨w.heap.size, 0, none⟩ = false := by rw [(Gr.cells hg4).2 _ _ (by go_size), World.frozen?_alloc_lt' _ _ _ hz3]; exact rf0
          have sf1 : w4.frozen? ⟨w.heap.size, 1, none⟩ = false := by rw [(Gr.cells hg4).2 _ _ (by go_size), World.frozen?_alloc_lt' _ _ _ hz3]; exact rf1
          go_wp2_with fail
          refine bodyPost_ret (v := .tuple #[.agg #[.int .u32 0, .int .i64 0], .int .i64 2]) (by simp [results, Tryd.results21, go_sem, s0, s1]) rfl ⟨?_, ?_⟩
          · exact rvalue hno.out.1 hno.out.2.1 hno.out.2.2
          · exact (by repeat' (first | (with_reducible exact Gr.refl _) | (with_reducible assumption) | (with_reducible refine Gr.drewN ?_ _) | (with_reducible refine Gr.drew ?_) | (with_reducible refine Gr.alloc ?_ _) | (with_reducible refine Gr.setCell ?_ ?_ _) | (with_reducible refine Gr.grow ?_ _ _) | (refine Gr.step ?_ (by with_reducible assumption)) | go_size))
        · rw [hv] at HK
          have hK : ppOk s.data.toList = true := HK.out
          have hA := HA.out
          have hN := HN.out
          rw [hK] at hA hN
          have hE : ppE s.data.toList = 0 := by unfold ppE; rw [hK]; rfl
          have HF := Lib.hid (And.intro hA (And.intro hN hE))
          have Hv := Lib.hid hv
          clear hv eV hK hA hN hE
          go_wp2_with fail
          refine (rvalid_yes _ _ _ v0 v1 Hv.out).mono ?_
          rintro e w4 ⟨rfl, hg4⟩
          have s0 : w4.cell? ⟨w.heap.size, 0, none⟩ = some (.int .u32 0) := by rw [(Gr.cells hg4).1 _ _ (by go_size), World.cell?_alloc_lt _ _ _ hz3]; exact r0
          have s1 : w4.cell? ⟨w.heap.size, 1, none⟩ = some (.int .i64 0) := by rw [(Gr.cells hg4).1 _ _ (by go_size), World.cell?_alloc_lt _ _ _ hz3]; exact r1
          have sf0 : w4.frozen? ⟨w.heap.size, 0, none⟩ = false := by rw [(Gr.cells hg4).2 _ _ (by go_size), World.frozen?_alloc_lt' _ _ _ hz3]; exact rf0
          have sf1 : w4.frozen? ⟨w.heap.size, 1, none⟩ = false := by rw [(Gr.cells hg4).2 _ _ (by go_size), World.frozen?_alloc_lt' _ _ _ hz3]; exact rf1
          have p0 : w4.cell? ⟨w3.heap.size, 0, none⟩ = some (.int .u32 (parV x)) := by rw [(Gr.cells hg4).1 _ _ (by simp)]; simp
          have p1 : w4.cell? ⟨w3.heap.size, 1, none⟩ = some (.int .i64 (dval y)) := by rw [(Gr.cells hg4).1 _ _ (by simp)]; simp
          have hz4 := World.block_lt_of_cell? _ _ s0
          go_wp2_with fail
          refine bodyPost_ret (v := .tuple #[.agg #[.int .u32 (parV x), .int .i64 (dval y)], .int .i64 0]) (by simp [results, Tryd.results21, go_sem, s0, s1]) rfl ⟨?_, ?_⟩
          · exact rvalue HF.out.1 HF.out.2.1 HF.out.2.2
          · exact (by repeat' (first | (with_reducible exact Gr.refl _) | (with_reducible assumption) | (with_reducible refine Gr.drewN ?_ _) | (with_reducible refine Gr.drew ?_) | (with_reducible refine Gr.alloc ?_ _) | (with_reducible refine Gr.setCell ?_ ?_ _) | (with_reducible refine Gr.grow ?_ _ _) | (refine Gr.step ?_ (by with_reducible assumption)) | go_size))
    · rw [he] at HK ⊢
      have hno := Lib.hid (pp_no HK.out)
      go_wp2_with fail
      refine bodyPost_ret (v := .tuple #[.agg #[.int .u32 0, .int .i64 0], .int .i64 2]) (by simp [results, Tryd.results21, go_sem, r0, r1, hz3, World.cell?_alloc_lt]) rfl ⟨?_, ?_⟩
      · exact rvalue hno.out.1 hno.out.2.1 hno.out.2.2
      · exact (by repeat' (first | (with_reducible exact Gr.refl _) | (with_reducible assumption) | (with_reducible refine Gr.drewN ?_ _) | (with_reducible refine Gr.drew ?_) | (with_reducible refine Gr.alloc ?_ _) | (with_reducible refine Gr.setCell ?_ ?_ _) | (with_reducible refine Gr.grow ?_ _ _) | (refine Gr.step ?_ (by with_reducible assumption)) | go_size))
  · have E := Lib.hid (pp_no (pp_not2 h2))
    have t2 : (((parts 47 s.data.toList).length : Int) == 2) = false := by simp; omega
    have H2 := Lib.hid h2
    clear h2
    go_enter Tryd.func21, Tryd.ntmps21
    go_wp2_with fail
    refine (HC.out _).mono ?_
    rintro e w1 ⟨v, rfl, hown, hg1⟩
    obtain ⟨p, cp, rfl, hcp, hp⟩ := sv_form hown
    have q0 : w1.cell? ⟨w.heap.size, 0, none⟩ = some (.int .u32 0) := by rw [(Gr.cells hg1).1 _ _ (by simp)]; simp
    have q1 : w1.cell? ⟨w.heap.size, 1, none⟩ = some (.int .i64 0) := by rw [(Gr.cells hg1).1 _ _ (by simp)]; simp
    have f0 : w1.frozen? ⟨w.heap.size, 0, none⟩ = false := by rw [(Gr.cells hg1).2 _ _ (by simp)]; simp
    have f1 : w1.frozen? ⟨w.heap.size, 1, none⟩ = false := by rw [(Gr.cells hg1).2 _ _ (by simp)]; simp
    have hz := World.block_lt_of_cell? _ _ q0
    clear hown hp
    go_wp2_with fail
    refine bodyPost_ret (v := .tuple #[.agg #[.int .u32 0, .int .i64 0], .int .i64 2]) (by simp [results, Tryd.results21, go_sem, q0, q1]) rfl ⟨?_, ?_⟩
    · exact rvalue E.out.1 E.out.2.1 E.out.2.2
    · exact (by repeat' (first | (with_reducible exact Gr.refl _) | (with_reducible assumption) | (with_reducible refine Gr.drewN ?_ _) | (with_reducible refine Gr.drew ?_) | (with_reducible refine Gr.alloc ?_ _) | (with_reducible refine Gr.setCell ?_ ?_ _) | (with_reducible refine Gr.grow ?_ _ _) | (refine Gr.step ?_ (by with_reducible assumption)) | go_size))
end Go.Proofs.YtoaboflepfmkpaaDoor
