/- Texts of prefixes: FormatPrefix, ParsePrefix. -/
import Derived.Test.YtoaboflepfmkpaaDoorFormat
import Derived.WalkKit
import Derived.WalkSpells
import Derived.WalkLawsBesides
import Derived.WalkSmall
import Derived.Handy
import Derived.BigQuiet
import Derived.Deep.QuietTactic
import Derived.Deep.RegionHeld3
import Derived.Deep.DeepFit
import Derived.Below
import Derived.Lib.Hide
import Derived.Lib.QuietBelow
namespace Go.Proofs.YtoaboflepfmkpaaDoor
open Go Go.RowKit Go.Sort
set_option maxRecDepth 100000
set_option linter.unusedVariables false

/-- the text of a prefix -/
def fmtP (a n : Int) : List UInt8 := if vld a n then fmtA a ++ (47 :: dd n) else []
theorem fmtA_len (a : Int) (h0 : 0 ≤ a) (h1 : a < 4294967296) : (fmtA a).length ≤ 15 := by
  have l1 := dd_len (a / 16777216) (by omega) (by omega)
  have l2 := dd_len (a / 65536 % 256) (by omega) (by omega)
  have l3 := dd_len (a / 256 % 256) (by omega) (by omega)
  have l4 := dd_len (a % 256) (by omega) (by omega)
  simp [fmtA]; omega
theorem format_is (a : Int) (d : List UInt8) (w : World) (h0 : 0 ≤ a) (h1 : a < 4294967296) (h : fmtA a = d) (ht : Tab w) :
    Calls Tryd.prog 15 #[.int .u32 a] w fun e w' => e = .returned (.string (str d)) ∧ Gr w w' := by
  rw [← h]; exact format_any a w h0 h1 ht
theorem fmtp_any (a n : Int) (w : World) (h0 : 0 ≤ a) (h1 : a < 4294967296) (ht : Tab w) :
    Calls Tryd.prog 23 #[.agg #[.int .u32 a, .int .i64 n]] w fun e w' => e = .returned (.string (str (fmtP a n))) ∧ Gr w w' := by
  have Ht := Lib.hid ht
  clear ht
  by_cases hv : vld a n = true
  · have ⟨n0, n1, _⟩ := vld_iff.1 hv
    have E : fmtP a n = fmtA a ++ (47 :: dd n) := by simp [fmtP, hv]
    have lA := fmtA_len a h0 h1
    have lD := dd_len n n0 (by omega)
    generalize hdA : fmtA a = dA at *
    generalize hdN : dd n = dN at *
    have HA := Lib.hid hdA
    have HN := Lib.hid hdN
    have HE := Lib.hid E
    have r1 := add_str dA [47] (by simp; omega)
    have r1' : ∀ w, (Op.stringOp .add (str dA) ⟨#[47]⟩).run Tryd.prog w = .ok (.string (str (dA ++ [47]))) w := r1
    have r2 := add_str (dA ++ [47]) dN (by simp; omega)
    have Hv := Lib.hid hv
    clear hdA hdN E lA lD r1 hv
    go_enter Tryd.func23, Tryd.ntmps23
    go_wp2_with (go_at_call 44; refine (valid_yes a n _ h0 h1 Hv.out).mono ?_; rintro e w1 ⟨rfl, hg1⟩; obtain ⟨hc, hf⟩ := Gr.cells hg1; have hp0 : w1.cell? ⟨w.heap.size, 0, none⟩ = some (.int .u32 a) := (by rw [hc _ _ (by go_size)]; first | (simp; done) | go_cell | (simp [go_sem]; done)); have hp1 : w1.cell? ⟨w.heap.size, 1, none⟩ = some (.int .i64 n) := (by rw [hc _ _ (by go_size)]; first | (simp; done) | go_cell | (simp [go_sem]; done)); clear hc hf)
    have F0 := fun d os => cell_regrown hp0 d os
    have F1 := fun d os => cell_regrown hp1 d os
    have HT1 : Hid (Tab w1) := Tab.gr Ht.out (by repeat' (first | (with_reducible exact Gr.refl _) | (with_reducible assumption) | (with_reducible refine Gr.drewN ?_ _) | (with_reducible refine Gr.drew ?_) | (with_reducible refine Gr.alloc ?_ _) | (with_reducible refine Gr.setCell ?_ ?_ _) | (with_reducible refine Gr.grow ?_ _ _) | (refine Gr.step ?_ (by with_reducible assumption)) | go_size))
    clear hp0 hp1
    refine wp_region_quiet_below (by kernel_rfl) (by kernel_rfl) ?_
    repeat (any_goals (first | go_big_quiet_step (first | (go_at_call 15; exact Calls.gr_of (format_is a dA _ h0 h1 HA.out (Tab.gr HT1.out (below_regrown _ _ _)))) | (go_at_call 37; exact Calls.gr_of (itoa_is n dN _ n0 (by omega) HN.out (Tab.gr HT1.out (below_regrown _ _ _))))) | quiet_step (first | (go_at_call 15; exact Calls.gr_of (format_is a dA _ h0 h1 HA.out (Tab.gr HT1.out (below_regrown _ _ _)))) | (go_at_call 37; exact Calls.gr_of (itoa_is n dN _ n0 (by omega) HN.out (Tab.gr HT1.out (below_regrown _ _ _)))))))
    refine wpQuiet_nil ?_
    intro _ hw'
    obtain ⟨⟨dq, osq⟩, hw''⟩ := hw'
    subst hw''
    go_wp2
    go_ret
    exact ⟨by rw [HE.out]; simp, (by repeat' (first | (with_reducible exact Gr.refl _) | (with_reducible assumption) | (with_reducible refine Gr.drewN ?_ _) | (with_reducible refine Gr.drew ?_) | (with_reducible refine Gr.alloc ?_ _) | (with_reducible refine Gr.setCell ?_ ?_ _) | (with_reducible refine Gr.grow ?_ _ _) | (refine Gr.step ?_ (by with_reducible assumption)) | go_size))⟩
  · have Hv := Lib.hid (show vld a n = false by simpa using hv)
    have HE := Lib.hid (show fmtP a n = [] by simp [fmtP, Hv.out])
    clear hv
    go_enter Tryd.func23, Tryd.ntmps23
    go_wp2_with (go_at_call 44; refine (valid_no a n _ h0 h1 Hv.out).mono ?_; rintro e w1 ⟨rfl, hg1⟩)
    go_ret
    exact ⟨by rw [HE.out]; rfl, (by repeat' (first | (with_reducible exact Gr.refl _) | (with_reducible assumption) | (with_reducible refine Gr.drewN ?_ _) | (with_reducible refine Gr.drew ?_) | (with_reducible refine Gr.alloc ?_ _) | (with_reducible refine Gr.setCell ?_ ?_ _) | (with_reducible refine Gr.grow ?_ _ _) | (refine Gr.step ?_ (by with_reducible assumption)) | go_size))⟩

/-- what a text means as a prefix -/
def ppOk (l : List UInt8) : Bool := (cutAt 47 l).2.2 && ((parE (cutAt 47 l).1 == 0) && (numOk (cutAt 47 l).2.1 32 && vld (parV (cutAt 47 l).1) (numV (cutAt 47 l).2.1 32)))
def ppA (l : List UInt8) : Int := if ppOk l then parV (cutAt 47 l).1 else 0
def ppN (l : List UInt8) : Int := if ppOk l then numV (cutAt 47 l).2.1 32 else 0
def ppE (l : List UInt8) : Int := if ppOk l then 0 else 2
theorem pp_no {l : List UInt8} (h : ppOk l = false) : ppA l = 0 ∧ ppN l = 0 ∧ ppE l = 2 := by simp [ppA, ppN, ppE, h]
theorem addrOf_range : ∀ (ps : List (List UInt8)) (a b : Int), 0 ≤ a → addrOf a ps = some b → 0 ≤ b ∧ b < (a + 1) * 256 ^ ps.length
  | [], a, b, h0, h => by simp [addrOf] at h; subst h; simp; omega
  | p :: r, a, b, h0, h => by
    unfold addrOf at h
    split at h
    · rename_i hn
      have ⟨d0, d1⟩ := numOk_le hn
      have ⟨i0, i1⟩ := addrOf_range r _ b (by omega) h
      refine ⟨i0, ?_⟩
      have h2 : (a * 256 + dval p + 1) * 256 ^ r.length ≤ ((a + 1) * 256) * 256 ^ r.length := Int.mul_le_mul_of_nonneg_right (by omega) (Int.le_of_lt (Int.pow_pos (by omega)))
      rw [List.length_cons, Int.pow_succ]
      have e : (a + 1) * (256 ^ r.length * 256) = ((a + 1) * 256) * 256 ^ r.length := by rw [Int.mul_comm (256 ^ r.length) 256, Int.mul_assoc]
      rw [e]; omega
    · cases h
theorem parV_range (l : List UInt8) : 0 ≤ parV l ∧ parV l < 4294967296 := by
  unfold parV
  cases h : parseA l with
  | none => simp
  | some a =>
    unfold parseA at h
    split at h
    · rename_i hl
      have := addrOf_range (parts 46 l) 0 a (by omega) h
      rw [hl] at this
      simpa using this
    · cases h
theorem parE_cases (l : List UInt8) : parE l = 0 ∨ parE l = 2 := by unfold parE; split <;> simp
theorem rvalue {x n e : Int} {l : List UInt8} (h1 : ppA l = x) (h2 : ppN l = n) (h3 : ppE l = e) : Ending.returned (.tuple #[.agg #[.int .u32 x, .int .i64 n], .int .i64 e]) = .returned (.tuple #[.agg #[.int .u32 (ppA l), .int .i64 (ppN l)], .int .i64 (ppE l)]) := by rw [h1, h2, h3]
theorem World.frozen?_alloc_lt' (w : World) (o : Obj) (a : Addr) (h : a.block < w.heap.size) : (w.alloc o).frozen? a = w.frozen? a :=
  World.frozen?_of_block (w := w) (Below.heap_alloc w o a.block h)
set_option maxHeartbeats 1000000 in
theorem pp_any (s : ByteArray) (w : World) (hs : s.size ≤ 9223372036854775807) :
    Calls Tryd.prog 20 #[.string s] w fun e w' => e = .returned (.tuple #[.agg #[.int .u32 (ppA s.data.toList), .int .i64 (ppN s.data.toList)], .int .i64 (ppE s.data.toList)]) ∧ Gr w w' := by
  have hlen := cutAt_len 47 s.data.toList
  rw [data_len] at hlen
  have hl1' : (str (cutAt 47 s.data.toList).1).size ≤ 9223372036854775807 := by rw [str_size]; omega
  have hl2' : (str (cutAt 47 s.data.toList).2.1).size ≤ 9223372036854775807 := by rw [str_size]; omega
  clear hlen
  have ⟨v0, v1⟩ := parV_range (cutAt 47 s.data.toList).1
  cases hd : (cutAt 47 s.data.toList).2.2
  · have E := Lib.hid (pp_no (l := s.data.toList) (by simp [ppOk, hd]))
    go_enter Tryd.func20, Tryd.ntmps20
    go_wp2_with (first
      | (go_at_call 40; refine (cut_any s 47 _ hs).mono ?_; rintro e w1 ⟨rfl, hg1⟩; have hz1 := Gr.size hg1; simp only [World.size_alloc] at hz1; have hl1 : w.heap.size < w1.heap.size := (by omega); obtain ⟨hc, hf⟩ := Gr.cells hg1; have hr10 : w1.cell? ⟨w.heap.size, 0, none⟩ = some (.int .u32 0) := (by rw [hc _ _ (by go_size)]; first | (simp; done) | go_cell | (simp [go_sem]; done)); have hr11 : w1.cell? ⟨w.heap.size, 1, none⟩ = some (.int .i64 0) := (by rw [hc _ _ (by go_size)]; first | (simp; done) | go_cell | (simp [go_sem]; done)); have hf10 : w1.frozen? ⟨w.heap.size, 0, none⟩ = false := (by rw [hf _ _ (by go_size)]; first | (simp; done) | (simp [go_sem]; done)); have hf11 : w1.frozen? ⟨w.heap.size, 1, none⟩ = false := (by rw [hf _ _ (by go_size)]; first | (simp; done) | (simp [go_sem]; done)); clear hc hf hz1)
      | (go_at_call 18; refine (parse_any _ _ hl1').mono ?_; rw [str_data]; rintro e w2 ⟨rfl, hg2⟩; obtain ⟨hc, hf⟩ := Gr.cells hg2; have hr20 : w2.cell? ⟨w.heap.size, 0, none⟩ = some (.int .u32 0) := (by rw [hc _ _ hl1]; exact hr10); have hr21 : w2.cell? ⟨w.heap.size, 1, none⟩ = some (.int .i64 0) := (by rw [hc _ _ hl1]; exact hr11); have hf20 : w2.frozen? ⟨w.heap.size, 0, none⟩ = false := (by rw [hf _ _ hl1]; exact hf10); have hf21 : w2.frozen? ⟨w.heap.size, 1, none⟩ = false := (by rw [hf _ _ hl1]; exact hf11); have hl2 : w.heap.size < w2.heap.size := Nat.lt_of_lt_of_le hl1 (Gr.size hg2); clear hc hf)
      | (go_at_call 41; refine (number_any _ 32 _ hl2' (by omega) (by omega)).mono ?_; rw [str_data]; rintro e w' ⟨rfl, rfl⟩)
      | (go_at_call 44; refine (valid_yes _ _ _ v0 v1 Hv.out).mono ?_; rintro e w3 ⟨rfl, hg3⟩; obtain ⟨hc, hf⟩ := Gr.cells hg3; have hr30 : w3.cell? ⟨w.heap.size, 0, none⟩ = some (.int .u32 0) := (by rw [hc _ _ (by go_size)]; first | (simp; done) | go_cell | (simp [go_sem, *]; done)); have hr31 : w3.cell? ⟨w.heap.size, 1, none⟩ = some (.int .i64 0) := (by rw [hc _ _ (by go_size)]; first | (simp; done) | go_cell | (simp [go_sem, *]; done)); have hp30 : w3.cell? ⟨w2.heap.size, 0, none⟩ = some (.int .u32 (parV (cutAt 47 s.data.toList).1)) := (by rw [hc _ _ (by go_size)]; first | (simp; done) | go_cell | (simp [go_sem, *]; done)); have hp31 : w3.cell? ⟨w2.heap.size, 1, none⟩ = some (.int .i64 (numV (cutAt 47 s.data.toList).2.1 32)) := (by rw [hc _ _ (by go_size)]; first | (simp; done) | go_cell | (simp [go_sem, *]; done)); have hf30 : w3.frozen? ⟨w.heap.size, 0, none⟩ = false := (by rw [hf _ _ (by go_size), World.frozen?_alloc_lt' _ _ _ hl2]; exact hf20); have hf31 : w3.frozen? ⟨w.heap.size, 1, none⟩ = false := (by rw [hf _ _ (by go_size), World.frozen?_alloc_lt' _ _ _ hl2]; exact hf21); clear hc hf))
    refine bodyPost_ret (v := .tuple #[.agg #[.int .u32 0, .int .i64 0], .int .i64 2]) (by simp [results, Tryd.results20, go_sem, hr20,hr21,hl2,World.cell?_alloc_lt]) rfl ⟨?_, ?_⟩
    · exact rvalue E.out.1 E.out.2.1 E.out.2.2
    · exact (by repeat' (first | (with_reducible exact Gr.refl _) | (with_reducible assumption) | (with_reducible refine Gr.drewN ?_ _) | (with_reducible refine Gr.drew ?_) | (with_reducible refine Gr.alloc ?_ _) | (with_reducible refine Gr.setCell ?_ ?_ _) | (with_reducible refine Gr.grow ?_ _ _) | (refine Gr.step ?_ (by with_reducible assumption)) | go_size))
  · rcases parE_cases (cutAt 47 s.data.toList).1 with he | he
    · cases hn : numOk (cutAt 47 s.data.toList).2.1 32
      · have E := Lib.hid (pp_no (l := s.data.toList) (by simp [ppOk, hd, he, hn]))
        go_enter Tryd.func20, Tryd.ntmps20
        go_wp2_with (first
          | (go_at_call 40; refine (cut_any s 47 _ hs).mono ?_; rintro e w1 ⟨rfl, hg1⟩; have hz1 := Gr.size hg1; simp only [World.size_alloc] at hz1; have hl1 : w.heap.size < w1.heap.size := (by omega); obtain ⟨hc, hf⟩ := Gr.cells hg1; have hr10 : w1.cell? ⟨w.heap.size, 0, none⟩ = some (.int .u32 0) := (by rw [hc _ _ (by go_size)]; first | (simp; done) | go_cell | (simp [go_sem]; done)); have hr11 : w1.cell? ⟨w.heap.size, 1, none⟩ = some (.int .i64 0) := (by rw [hc _ _ (by go_size)]; first | (simp; done) | go_cell | (simp [go_sem]; done)); have hf10 : w1.frozen? ⟨w.heap.size, 0, none⟩ = false := (by rw [hf _ _ (by go_size)]; first | (simp; done) | (simp [go_sem]; done)); have hf11 : w1.frozen? ⟨w.heap.size, 1, none⟩ = false := (by rw [hf _ _ (by go_size)]; first | (simp; done) | (simp [go_sem]; done)); clear hc hf hz1)
          | (go_at_call 18; refine (parse_any _ _ hl1').mono ?_; rw [str_data]; rintro e w2 ⟨rfl, hg2⟩; obtain ⟨hc, hf⟩ := Gr.cells hg2; have hr20 : w2.cell? ⟨w.heap.size, 0, none⟩ = some (.int .u32 0) := (by rw [hc _ _ hl1]; exact hr10); have hr21 : w2.cell? ⟨w.heap.size, 1, none⟩ = some (.int .i64 0) := (by rw [hc _ _ hl1]; exact hr11); have hf20 : w2.frozen? ⟨w.heap.size, 0, none⟩ = false := (by rw [hf _ _ hl1]; exact hf10); have hf21 : w2.frozen? ⟨w.heap.size, 1, none⟩ = false := (by rw [hf _ _ hl1]; exact hf11); have hl2 : w.heap.size < w2.heap.size := Nat.lt_of_lt_of_le hl1 (Gr.size hg2); clear hc hf)
          | (go_at_call 41; refine (number_any _ 32 _ hl2' (by omega) (by omega)).mono ?_; rw [str_data]; rintro e w' ⟨rfl, rfl⟩)
          | (go_at_call 44; refine (valid_yes _ _ _ v0 v1 Hv.out).mono ?_; rintro e w3 ⟨rfl, hg3⟩; obtain ⟨hc, hf⟩ := Gr.cells hg3; have hr30 : w3.cell? ⟨w.heap.size, 0, none⟩ = some (.int .u32 0) := (by rw [hc _ _ (by go_size)]; first | (simp; done) | go_cell | (simp [go_sem, *]; done)); have hr31 : w3.cell? ⟨w.heap.size, 1, none⟩ = some (.int .i64 0) := (by rw [hc _ _ (by go_size)]; first | (simp; done) | go_cell | (simp [go_sem, *]; done)); have hp30 : w3.cell? ⟨w2.heap.size, 0, none⟩ = some (.int .u32 (parV (cutAt 47 s.data.toList).1)) := (by rw [hc _ _ (by go_size)]; first | (simp; done) | go_cell | (simp [go_sem, *]; done)); have hp31 : w3.cell? ⟨w2.heap.size, 1, none⟩ = some (.int .i64 (numV (cutAt 47 s.data.toList).2.1 32)) := (by rw [hc _ _ (by go_size)]; first | (simp; done) | go_cell | (simp [go_sem, *]; done)); have hf30 : w3.frozen? ⟨w.heap.size, 0, none⟩ = false := (by rw [hf _ _ (by go_size), World.frozen?_alloc_lt' _ _ _ hl2]; exact hf20); have hf31 : w3.frozen? ⟨w.heap.size, 1, none⟩ = false := (by rw [hf _ _ (by go_size), World.frozen?_alloc_lt' _ _ _ hl2]; exact hf21); clear hc hf))
        refine bodyPost_ret (v := .tuple #[.agg #[.int .u32 0, .int .i64 0], .int .i64 2]) (by simp [results, Tryd.results20, go_sem, hr20,hr21,hl2,World.cell?_alloc_lt]) rfl ⟨?_, ?_⟩
        · exact rvalue E.out.1 E.out.2.1 E.out.2.2
        · exact (by repeat' (first | (with_reducible exact Gr.refl _) | (with_reducible assumption) | (with_reducible refine Gr.drewN ?_ _) | (with_reducible refine Gr.drew ?_) | (with_reducible refine Gr.alloc ?_ _) | (with_reducible refine Gr.setCell ?_ ?_ _) | (with_reducible refine Gr.grow ?_ _ _) | (refine Gr.step ?_ (by with_reducible assumption)) | go_size))
      · cases hv : vld (parV (cutAt 47 s.data.toList).1) (numV (cutAt 47 s.data.toList).2.1 32)
        · have E := Lib.hid (pp_no (l := s.data.toList) (by simp [ppOk, hd, he, hn, hv]))
          have Hv := Lib.hid hv
          clear hv
          go_enter Tryd.func20, Tryd.ntmps20
          go_wp2_with (first
            | (go_at_call 40; refine (cut_any s 47 _ hs).mono ?_; rintro e w1 ⟨rfl, hg1⟩; have hz1 := Gr.size hg1; simp only [World.size_alloc] at hz1; have hl1 : w.heap.size < w1.heap.size := (by omega); obtain ⟨hc, hf⟩ := Gr.cells hg1; have hr10 : w1.cell? ⟨w.heap.size, 0, none⟩ = some (.int .u32 0) := (by rw [hc _ _ (by go_size)]; first | (simp; done) | go_cell | (simp [go_sem]; done)); have hr11 : w1.cell? ⟨w.heap.size, 1, none⟩ = some (.int .i64 0) := (by rw [hc _ _ (by go_size)]; first | (simp; done) | go_cell | (simp [go_sem]; done)); have hf10 : w1.frozen? ⟨w.heap.size, 0, none⟩ = false := (by rw [hf _ _ (by go_size)]; first | (simp; done) | (simp [go_sem]; done)); have hf11 : w1.frozen? ⟨w.heap.size, 1, none⟩ = false := (by rw [hf _ _ (by go_size)]; first | (simp; done) | (simp [go_sem]; done)); clear hc hf hz1)
            | (go_at_call 18; refine (parse_any _ _ hl1').mono ?_; rw [str_data]; rintro e w2 ⟨rfl, hg2⟩; obtain ⟨hc, hf⟩ := Gr.cells hg2; have hr20 : w2.cell? ⟨w.heap.size, 0, none⟩ = some (.int .u32 0) := (by rw [hc _ _ hl1]; exact hr10); have hr21 : w2.cell? ⟨w.heap.size, 1, none⟩ = some (.int .i64 0) := (by rw [hc _ _ hl1]; exact hr11); have hf20 : w2.frozen? ⟨w.heap.size, 0, none⟩ = false := (by rw [hf _ _ hl1]; exact hf10); have hf21 : w2.frozen? ⟨w.heap.size, 1, none⟩ = false := (by rw [hf _ _ hl1]; exact hf11); have hl2 : w.heap.size < w2.heap.size := Nat.lt_of_lt_of_le hl1 (Gr.size hg2); clear hc hf)
            | (go_at_call 41; refine (number_any _ 32 _ hl2' (by omega) (by omega)).mono ?_; rw [str_data]; rintro e w' ⟨rfl, rfl⟩)
            | (go_at_call 44; refine (valid_no _ _ _ v0 v1 Hv.out).mono ?_; rintro e w3 ⟨rfl, hg3⟩; obtain ⟨hc, hf⟩ := Gr.cells hg3; have hr30 : w3.cell? ⟨w.heap.size, 0, none⟩ = some (.int .u32 0) := (by rw [hc _ _ (by go_size)]; first | (simp; done) | go_cell | (simp [go_sem, *]; done)); have hr31 : w3.cell? ⟨w.heap.size, 1, none⟩ = some (.int .i64 0) := (by rw [hc _ _ (by go_size)]; first | (simp; done) | go_cell | (simp [go_sem, *]; done)); have hp30 : w3.cell? ⟨w2.heap.size, 0, none⟩ = some (.int .u32 (parV (cutAt 47 s.data.toList).1)) := (by rw [hc _ _ (by go_size)]; first | (simp; done) | go_cell | (simp [go_sem, *]; done)); have hp31 : w3.cell? ⟨w2.heap.size, 1, none⟩ = some (.int .i64 (numV (cutAt 47 s.data.toList).2.1 32)) := (by rw [hc _ _ (by go_size)]; first | (simp; done) | go_cell | (simp [go_sem, *]; done)); have hf30 : w3.frozen? ⟨w.heap.size, 0, none⟩ = false := (by rw [hf _ _ (by go_size), World.frozen?_alloc_lt' _ _ _ hl2]; exact hf20); have hf31 : w3.frozen? ⟨w.heap.size, 1, none⟩ = false := (by rw [hf _ _ (by go_size), World.frozen?_alloc_lt' _ _ _ hl2]; exact hf21); clear hc hf))
          refine bodyPost_ret (v := .tuple #[.agg #[.int .u32 0, .int .i64 0], .int .i64 2]) (by simp [results, Tryd.results20, go_sem, hr30,hr31]) rfl ⟨?_, ?_⟩
          · exact rvalue E.out.1 E.out.2.1 E.out.2.2
          · exact (by repeat' (first | (with_reducible exact Gr.refl _) | (with_reducible assumption) | (with_reducible refine Gr.drewN ?_ _) | (with_reducible refine Gr.drew ?_) | (with_reducible refine Gr.alloc ?_ _) | (with_reducible refine Gr.setCell ?_ ?_ _) | (with_reducible refine Gr.grow ?_ _ _) | (refine Gr.step ?_ (by with_reducible assumption)) | go_size))
        · have ho : ppOk s.data.toList = true := by simp [ppOk, hd, he, hn, hv]
          have E := Lib.hid (show ppA s.data.toList = parV (cutAt 47 s.data.toList).1 ∧ ppN s.data.toList = numV (cutAt 47 s.data.toList).2.1 32 ∧ ppE s.data.toList = 0 by simp [ppA, ppN, ppE, ho])
          have Hv := Lib.hid hv
          clear hv ho
          go_enter Tryd.func20, Tryd.ntmps20
          go_wp2_with (first
            | (go_at_call 40; refine (cut_any s 47 _ hs).mono ?_; rintro e w1 ⟨rfl, hg1⟩; have hz1 := Gr.size hg1; simp only [World.size_alloc] at hz1; have hl1 : w.heap.size < w1.heap.size := (by omega); obtain ⟨hc, hf⟩ := Gr.cells hg1; have hr10 : w1.cell? ⟨w.heap.size, 0, none⟩ = some (.int .u32 0) := (by rw [hc _ _ (by go_size)]; first | (simp; done) | go_cell | (simp [go_sem]; done)); have hr11 : w1.cell? ⟨w.heap.size, 1, none⟩ = some (.int .i64 0) := (by rw [hc _ _ (by go_size)]; first | (simp; done) | go_cell | (simp [go_sem]; done)); have hf10 : w1.frozen? ⟨w.heap.size, 0, none⟩ = false := (by rw [hf _ _ (by go_size)]; first | (simp; done) | (simp [go_sem]; done)); have hf11 : w1.frozen? ⟨w.heap.size, 1, none⟩ = false := (by rw [hf _ _ (by go_size)]; first | (simp; done) | (simp [go_sem]; done)); clear hc hf hz1)
            | (go_at_call 18; refine (parse_any _ _ hl1').mono ?_; rw [str_data]; rintro e w2 ⟨rfl, hg2⟩; obtain ⟨hc, hf⟩ := Gr.cells hg2; have hr20 : w2.cell? ⟨w.heap.size, 0, none⟩ = some (.int .u32 0) := (by rw [hc _ _ hl1]; exact hr10); have hr21 : w2.cell? ⟨w.heap.size, 1, none⟩ = some (.int .i64 0) := (by rw [hc _ _ hl1]; exact hr11); have hf20 : w2.frozen? ⟨w.heap.size, 0, none⟩ = false := (by rw [hf _ _ hl1]; exact hf10); have hf21 : w2.frozen? ⟨w.heap.size, 1, none⟩ = false := (by rw [hf _ _ hl1]; exact hf11); have hl2 : w.heap.size < w2.heap.size := Nat.lt_of_lt_of_le hl1 (Gr.size hg2); clear hc hf)
            | (go_at_call 41; refine (number_any _ 32 _ hl2' (by omega) (by omega)).mono ?_; rw [str_data]; rintro e w' ⟨rfl, rfl⟩)
            | (go_at_call 44; refine (valid_yes _ _ _ v0 v1 Hv.out).mono ?_; rintro e w3 ⟨rfl, hg3⟩; obtain ⟨hc, hf⟩ := Gr.cells hg3; have hr30 : w3.cell? ⟨w.heap.size, 0, none⟩ = some (.int .u32 0) := (by rw [hc _ _ (by go_size)]; first | (simp; done) | go_cell | (simp [go_sem, *]; done)); have hr31 : w3.cell? ⟨w.heap.size, 1, none⟩ = some (.int .i64 0) := (by rw [hc _ _ (by go_size)]; first | (simp; done) | go_cell | (simp [go_sem, *]; done)); have hp30 : w3.cell? ⟨w2.heap.size, 0, none⟩ = some (.int .u32 (parV (cutAt 47 s.data.toList).1)) := (by rw [hc _ _ (by go_size)]; first | (simp; done) | go_cell | (simp [go_sem, *]; done)); have hp31 : w3.cell? ⟨w2.heap.size, 1, none⟩ = some (.int .i64 (numV (cutAt 47 s.data.toList).2.1 32)) := (by rw [hc _ _ (by go_size)]; first | (simp; done) | go_cell | (simp [go_sem, *]; done)); have hf30 : w3.frozen? ⟨w.heap.size, 0, none⟩ = false := (by rw [hf _ _ (by go_size), World.frozen?_alloc_lt' _ _ _ hl2]; exact hf20); have hf31 : w3.frozen? ⟨w.heap.size, 1, none⟩ = false := (by rw [hf _ _ (by go_size), World.frozen?_alloc_lt' _ _ _ hl2]; exact hf21); clear hc hf))
          refine bodyPost_ret (v := .tuple #[.agg #[.int .u32 (parV (cutAt 47 s.data.toList).1), .int .i64 (numV (cutAt 47 s.data.toList).2.1 32)], .int .i64 0]) (by simp [results, Tryd.results20, go_sem, hr30,hr31]) rfl ⟨?_, ?_⟩
          · exact rvalue E.out.1 E.out.2.1 E.out.2.2
          · exact (by repeat' (first | (with_reducible exact Gr.refl _) | (with_reducible assumption) | (with_reducible refine Gr.drewN ?_ _) | (with_reducible refine Gr.drew ?_) | (with_reducible refine Gr.alloc ?_ _) | (with_reducible refine Gr.setCell ?_ ?_ _) | (with_reducible refine Gr.grow ?_ _ _) | (refine Gr.step ?_ (by with_reducible assumption)) | go_size))
    · have E := Lib.hid (pp_no (l := s.data.toList) (by simp [ppOk, hd, he]))
      have he2 : (parE (cutAt 47 s.data.toList).1 != 0) = true := by rw [he]; rfl
      go_enter Tryd.func20, Tryd.ntmps20
      go_wp2_with (first
        | (go_at_call 40; refine (cut_any s 47 _ hs).mono ?_; rintro e w1 ⟨rfl, hg1⟩; have hz1 := Gr.size hg1; simp only [World.size_alloc] at hz1; have hl1 : w.heap.size < w1.heap.size := (by omega); obtain ⟨hc, hf⟩ := Gr.cells hg1; have hr10 : w1.cell? ⟨w.heap.size, 0, none⟩ = some (.int .u32 0) := (by rw [hc _ _ (by go_size)]; first | (simp; done) | go_cell | (simp [go_sem]; done)); have hr11 : w1.cell? ⟨w.heap.size, 1, none⟩ = some (.int .i64 0) := (by rw [hc _ _ (by go_size)]; first | (simp; done) | go_cell | (simp [go_sem]; done)); have hf10 : w1.frozen? ⟨w.heap.size, 0, none⟩ = false := (by rw [hf _ _ (by go_size)]; first | (simp; done) | (simp [go_sem]; done)); have hf11 : w1.frozen? ⟨w.heap.size, 1, none⟩ = false := (by rw [hf _ _ (by go_size)]; first | (simp; done) | (simp [go_sem]; done)); clear hc hf hz1)
        | (go_at_call 18; refine (parse_any _ _ hl1').mono ?_; rw [str_data]; rintro e w2 ⟨rfl, hg2⟩; obtain ⟨hc, hf⟩ := Gr.cells hg2; have hr20 : w2.cell? ⟨w.heap.size, 0, none⟩ = some (.int .u32 0) := (by rw [hc _ _ hl1]; exact hr10); have hr21 : w2.cell? ⟨w.heap.size, 1, none⟩ = some (.int .i64 0) := (by rw [hc _ _ hl1]; exact hr11); have hf20 : w2.frozen? ⟨w.heap.size, 0, none⟩ = false := (by rw [hf _ _ hl1]; exact hf10); have hf21 : w2.frozen? ⟨w.heap.size, 1, none⟩ = false := (by rw [hf _ _ hl1]; exact hf11); have hl2 : w.heap.size < w2.heap.size := Nat.lt_of_lt_of_le hl1 (Gr.size hg2); clear hc hf)
        | (go_at_call 41; refine (number_any _ 32 _ hl2' (by omega) (by omega)).mono ?_; rw [str_data]; rintro e w' ⟨rfl, rfl⟩)
        | (go_at_call 44; refine (valid_yes _ _ _ v0 v1 Hv.out).mono ?_; rintro e w3 ⟨rfl, hg3⟩; obtain ⟨hc, hf⟩ := Gr.cells hg3; have hr30 : w3.cell? ⟨w.heap.size, 0, none⟩ = some (.int .u32 0) := (by rw [hc _ _ (by go_size)]; first | (simp; done) | go_cell | (simp [go_sem, *]; done)); have hr31 : w3.cell? ⟨w.heap.size, 1, none⟩ = some (.int .i64 0) := (by rw [hc _ _ (by go_size)]; first | (simp; done) | go_cell | (simp [go_sem, *]; done)); have hp30 : w3.cell? ⟨w2.heap.size, 0, none⟩ = some (.int .u32 (parV (cutAt 47 s.data.toList).1)) := (by rw [hc _ _ (by go_size)]; first | (simp; done) | go_cell | (simp [go_sem, *]; done)); have hp31 : w3.cell? ⟨w2.heap.size, 1, none⟩ = some (.int .i64 (numV (cutAt 47 s.data.toList).2.1 32)) := (by rw [hc _ _ (by go_size)]; first | (simp; done) | go_cell | (simp [go_sem, *]; done)); have hf30 : w3.frozen? ⟨w.heap.size, 0, none⟩ = false := (by rw [hf _ _ (by go_size), World.frozen?_alloc_lt' _ _ _ hl2]; exact hf20); have hf31 : w3.frozen? ⟨w.heap.size, 1, none⟩ = false := (by rw [hf _ _ (by go_size), World.frozen?_alloc_lt' _ _ _ hl2]; exact hf21); clear hc hf))
      refine bodyPost_ret (v := .tuple #[.agg #[.int .u32 0, .int .i64 0], .int .i64 2]) (by simp [results, Tryd.results20, go_sem, hr20,hr21,hl2,World.cell?_alloc_lt]) rfl ⟨?_, ?_⟩
      · exact rvalue E.out.1 E.out.2.1 E.out.2.2
      · exact (by repeat' (first | (with_reducible exact Gr.refl _) | (with_reducible assumption) | (with_reducible refine Gr.drewN ?_ _) | (with_reducible refine Gr.drew ?_) | (with_reducible refine Gr.alloc ?_ _) | (with_reducible refine Gr.setCell ?_ ?_ _) | (with_reducible refine Gr.grow ?_ _ _) | (refine Gr.step ?_ (by with_reducible assumption)) | go_size))
end Go.Proofs.YtoaboflepfmkpaaDoor
