/- Several texts in one. -/
import Derived.Test.YtoaboflepfmkpaaGreatDoorNo
import Derived.WalkKit
import Derived.WalkSpells
import Derived.WalkLawsBesides
import Derived.WalkSmall
import Derived.Handy
import Derived.BigQuiet
import Derived.Deep.QuietTactic
import Derived.Deep.RegionHeld3
import Derived.Deep.DeepFit
import Derived.Below
import Derived.Lib.Hide
import Derived.Lib.QuietBelow
import Derived.Deep.DeepCutAuto
import Derived.Test.YtoaboflepfmkpaaGreatDoorFt
import Derived.Test.YtoaboflepfmkpaaGreatDoorPM
import Derived.Lib.IndexMore
import Derived.Test.YtoaboflepfmkpaaGreatDoorRM
import Derived.Test.YtoaboflepfmkpaaGreatDoorFM
/- Word. -/
namespace Go.Proofs.YtoaboflepfmkpaaGreatDoor
open Go Go.RowKit Go.Sort
set_option maxRecDepth 100000
set_option linter.unusedVariables false
/-- what the loop of Word keeps -/
def WdRel (w : World) (X : Nat) (s v : Value) (wr : World) : Prop :=
  ∃ (r : Nat) (l : List Nat), s = .int .u64 r ∧ r ≤ X ∧ nd X = l ++ nd r ∧ Own wr w.heap.size v l ∧ Gr w wr
set_option maxHeartbeats 1000000 in
theorem word_any (X : Nat) (w : World) (hX : X < 4611686018427387904) :
    Calls Tryz.prog 23 #[.int .u64 (X : Nat)] w fun e w' => ∃ v, e = .returned v ∧ Num w' v X ∧ Gr w w' := by
  have hXl : (nd X).length ≤ 3 := (nd_len X 3).2 (by omega)
  go_enter Tryz.func23, Tryz.ntmps23
  go_wp2_with fail
  go_loopw [0, 3] (fun s v wr => WdRel w X s v wr) (fun s _ _ => (intOf s).toNat)
  case atStart => exact ⟨X, [], rfl, Nat.le_refl _, rfl, Own.nil _ _, Gr.refl _⟩
  case round =>
    obtain ⟨r, l, rfl, hr, hnd, hown, hgr⟩ := hrel
    by_cases h0 : 0 < r
    · have hnd2 := hnd
      rw [nd_pos h0] at hnd2
      have hll : l.length ≤ 3 := by rw [hnd] at hXl; simp at hXl; omega
      have r0 : (0 : Int) < (r : Int) := by omega
      have d0 : decide (0 < r) = true := by simpa using h0
      have r1 : (r : Int) < 4611686018427387904 := by omega
      obtain ⟨d, hd⟩ : ∃ d : Nat, d = r % 1073741824 := ⟨_, rfl⟩
      obtain ⟨q, hq⟩ : ∃ q : Nat, q = r / 1073741824 := ⟨_, rfl⟩
      rw [← hd, ← hq] at hnd2
      have e1 : (r : Int) % 1073741824 = (d : Int) := by omega
      have e2 : (r : Int) / 1073741824 = (q : Int) := by omega
      have d1 : (d : Int) < 1073741824 := by omega
      have q1 : q < r := by omega
      have HND := Lib.hid hnd2
      have HR0 := Lib.hid hr
      have hown0 := Lib.hid hown
      obtain ⟨ti, hi1, hi2, hi3, hi4⟩ := intInfo
      unfold Own at hown
      clear hnd hnd2 hd hq hr
      go_wp2_with (at_builtin; refine wpList_append_own_at _ rfl _ _ 27 rfl w.heap.size 3 ti (.int .i64 0) 1 8 Tryz.underlying27 hi1 hi2 hi3 hi4 rfl (by decide) _ _ _ rfl (hown.alloc _) ⟨wr.heap.size, 0, none⟩ 1 1 [.int .i64 d] rfl rfl (cell_one_new _ _ _) (by simp [Value.oneCell']) (by unfold maxLen; omega) (by omega) (by have := Gr.size hgr; simp; omega) ?_; intro v' w2 hown2 hgrow hnil hloc)
      clear hnil hloc
      refine ⟨⟨q, l ++ [d], rfl, by have := HR0.out; omega, by rw [HND.out]; simp, ?_, ?_⟩, ?_⟩
      · unfold Own
        rw [List.length_append, List.map_append]
        exact hown2
      · exact Gr.grown (by repeat' (first | (with_reducible exact Gr.refl _) | (with_reducible assumption) | (with_reducible refine Gr.drewN ?_ _) | (with_reducible refine Gr.drew ?_) | (with_reducible refine Gr.alloc ?_ _) | (with_reducible refine Gr.setCell ?_ ?_ _) | (with_reducible refine Gr.grow ?_ _ _) | (refine Gr.step ?_ (by with_reducible assumption)) | go_size)) hgrow (fun k hk => (hown.lt k hk).1)
      · simp only [intOf]; omega
    · obtain rfl : r = 0 := by omega
      rw [nd_zero, List.append_nil] at hnd
      have HN := Lib.hid hnd
      have HO := Lib.hid hown
      clear hnd hown
      go_wp2_with fail
      go_ret
      exact ⟨_, rfl, HO.out.num HN.out.symm, hgr⟩
theorem word_int (x : Int) (X : Nat) (w : World) (hx : x = X) (hX : X < 4611686018427387904) :
    Calls Tryz.prog 23 #[.int .u64 x] w fun e w' => ∃ v, e = .returned v ∧ Num w' v X ∧ Gr w w' := by
  subst hx; exact word_any X w hX
end Go.Proofs.YtoaboflepfmkpaaGreatDoor
/- Parse of the text of a fraction. -/
namespace Go.Proofs.YtoaboflepfmkpaaGreatDoor
open Go Go.RowKit Go.Sort
set_option maxRecDepth 100000
set_option linter.unusedVariables false
theorem index_no : ∀ {l : List UInt8}, (∀ c ∈ l, c ≠ 47) → Lib.index l [47] = -1
  | [], _ => rfl
  | b :: l, h => by
    have h1 : (47 == b) = false := by rw [beq_eq_false_iff_ne]; exact fun e => h b (by simp) e.symm
    have h2 := index_no (l := l) fun c hc => h c (by simp [hc])
    unfold Lib.index
    rw [h2]
    simp [List.isPrefixOf, h1]
theorem index_at : ∀ {a b : List UInt8}, (∀ c ∈ a, c ≠ 47) → Lib.index (a ++ 47 :: b) [47] = (a.length : Nat)
  | [], b, _ => by simp [Lib.index, List.isPrefixOf]
  | x :: a, b, h => by
    have h1 : (47 == x) = false := by rw [beq_eq_false_iff_ne]; exact fun e => h x (by simp) e.symm
    have h2 := index_at (a := a) (b := b) fun c hc => h c (by simp [hc])
    rw [List.cons_append]
    unfold Lib.index
    rw [h2]
    have h3 : (((a.length : Nat) : Int) == -1) = false := by rw [beq_eq_false_iff_ne]; omega
    simp [List.isPrefixOf, h1, h3]
theorem cut_no {l : List UInt8} (h : ∀ c ∈ l, c ≠ 47) : Lib.cut l [47] = (l, [], false) := by
  unfold Lib.cut
  rw [index_no h, if_neg (by omega)]
theorem cut_at {a b : List UInt8} (h : ∀ c ∈ a, c ≠ 47) : Lib.cut (a ++ 47 :: b) [47] = (a, b, true) := by
  unfold Lib.cut
  rw [index_at h, if_pos (by omega)]
  simp
theorem cutp_any {s d : List UInt8} {ng : Bool} (w : World) (h1 : Lib.trimPrefix s [45] = d) (h2 : Lib.hasPrefix s [45] = ng) :
    Calls Tryz.prog 78 #[.string (str s), .string ⟨#[45]⟩] w fun e w' => e = .returned (.tuple #[.string (str d), .bool ng]) ∧ w = w' := by
  refine (Tryz.strings_CutPrefix (str s) ⟨#[45]⟩ w).mono ?_
  rintro e w' ⟨rfl, rfl⟩
  rw [str_data, show (⟨#[45]⟩ : ByteArray).data.toList = [45] from rfl, h1, h2]
  exact ⟨rfl, rfl⟩
theorem cut_any {s a b : List UInt8} {f : Bool} (w : World) (hs : s.length ≤ 1000000) (hm : ∃ m : Int, w.cell? ⟨0, 0, none⟩ = some (.int .i64 m)) (h1 : Lib.cut s [47] = (a, b, f)) :
    Calls Tryz.prog 79 #[.string (str s), .string ⟨#[47]⟩] w fun e w' => e = .returned (.tuple #[.string (str a), .string (str b), .bool f]) ∧ Gr w w' := by
  obtain ⟨m, hm⟩ := hm
  refine (Tryz.strings_Cut (str s) ⟨#[47]⟩ m w (by rw [str_size]; omega) hm).mono ?_
  rintro e w' ⟨rfl, n, rfl⟩
  rw [str_data, show (⟨#[47]⟩ : ByteArray).data.toList = [47] from rfl, h1]
  exact ⟨rfl, Gr.drewN (Gr.refl _) n⟩
theorem dd_no (n : Nat) (c : UInt8) (h : c.toNat < 48) : ∀ x ∈ Lib.decDigits n, x ≠ c := fun x hx e => by
  have := (digs_dd n x hx).1
  subst e; omega
theorem dd_head (n : Nat) : ∃ c l, Lib.decDigits n = c :: l ∧ 48 ≤ c.toNat := by
  have h := dd_pos n
  cases e : Lib.decDigits n with
  | nil => rw [e] at h; simp at h
  | cons c l => exact ⟨c, l, rfl, (digs_dd n c (by rw [e]; simp)).1⟩
theorem pre_no {c : UInt8} {l : List UInt8} (h : 48 ≤ c.toNat) : Lib.hasPrefix (c :: l) [45] = false ∧ Lib.trimPrefix (c :: l) [45] = c :: l := by
  have h1 : (45 == c) = false := by
    rw [beq_eq_false_iff_ne]; rintro rfl; exact absurd h (by decide)
  have h2 : Lib.hasPrefix (c :: l) [45] = false := by simp [Lib.hasPrefix, List.isPrefixOf, h1]
  exact ⟨h2, by unfold Lib.trimPrefix; rw [h2]; rfl⟩
theorem pre_yes (l : List UInt8) : Lib.hasPrefix (45 :: l) [45] = true ∧ Lib.trimPrefix (45 :: l) [45] = l := by
  have h2 : Lib.hasPrefix (45 :: l) [45] = true := by simp [Lib.hasPrefix, List.isPrefixOf]
  exact ⟨h2, by unfold Lib.trimPrefix; rw [h2]; simp⟩
theorem str_ne {x y : List UInt8} (h : x ≠ y) : ((str x).toList == y) = false := by rw [beq_eq_false_iff_ne, Lib.toList_data, str_data]; exact h
theorem dd_ne_one {n : Nat} (h : n ≠ 1) : Lib.decDigits n ≠ [49] := fun e => h (dd_inj (by rw [e, dd_one (by omega)]; rfl))
theorem dd_ne_zero {n : Nat} (h : n ≠ 0) : Lib.decDigits n ≠ [48] := fun e => h (dd_inj (by rw [e, dd_one (by omega)]; rfl))
/-- a fraction without an error -/
def PaOk (w : World) (r : Rat) (e : Ending) (w' : World) : Prop :=
  ∃ (b : Bool) (a1 a2 : Option Addr) (n1 n2 c1 c2 : Nat), e = .returned (.tuple #[.agg #[.bool b, .slice a1 n1 c1, .slice a2 n2 c2], .int .i64 0]) ∧ Red w' (.agg #[.bool b, .slice a1 n1 c1, .slice a2 n2 c2]) r ∧ Gr w w'
set_option maxHeartbeats 4000000 in
theorem fparse_text {r : Rat} (w : World) (hb : Bd 20 r) (hm : ∃ m : Int, w.cell? ⟨0, 0, none⟩ = some (.int .i64 m)) :
    Calls Tryz.prog 25 #[.string (str (ftext r))] w (PaOk w r) := by
  obtain ⟨ln, ld⟩ := hb
  have sn := dd_short ln (by omega)
  have sd := dd_short ld (by omega)
  have hD0 := r.den_pos
  have HD0 := Lib.hid hD0
  have HCO : Hid (r.num.natAbs.gcd r.den = 1) := Lib.hid r.reduced
  have hR0 := C3.new w (.bool false) (.slice none 0 0) (.slice none 0 0) 29 w.heap.size rfl
  have hG0 : Gr w (w.alloc (.cells #[.bool false, .slice none 0 0, .slice none 0 0] 29)) := Gr.alloc (Gr.refl _) _
  have HM : Hid (∃ m : Int, (w.alloc (.cells #[.bool false, .slice none 0 0, .slice none 0 0] 29)).cell? ⟨0, 0, none⟩ = some (.int .i64 m)) := Lib.hid (by
    obtain ⟨m, hm⟩ := hm
    exact ⟨m, by rw [World.cell?_alloc_lt _ _ _ (World.block_lt_of_cell? _ _ hm)]; exact hm⟩)
  obtain ⟨c, l, hcl, hc⟩ := dd_head r.num.natAbs
  clear hm hD0
  by_cases hneg : r.num < 0
  · have HNEG : Hid (decide (r.num < 0) = true) := Lib.hid (decide_eq_true hneg)
    have HPOS : Hid (0 < r.num.natAbs) := Lib.hid (by omega)
    have HT1 := Lib.hid (pre_yes (Lib.decDigits r.num.natAbs ++ (if r.den = 1 then [] else 47 :: Lib.decDigits r.den))).2
    have HT2 := Lib.hid (pre_yes (Lib.decDigits r.num.natAbs ++ (if r.den = 1 then [] else 47 :: Lib.decDigits r.den))).1
    have hft : ftext r = 45 :: (Lib.decDigits r.num.natAbs ++ (if r.den = 1 then [] else 47 :: Lib.decDigits r.den)) := by unfold ftext; rw [if_pos hneg]; simp
    rw [hft]
    clear hft
    by_cases hd1 : r.den = 1
    · rw [if_pos hd1, List.append_nil] at HT1 HT2 ⊢
      have HLEN : Hid ((Lib.decDigits r.num.natAbs).length ≤ 1000000) := Lib.hid (by omega)
      have HCUT := Lib.hid (cut_no (dd_no r.num.natAbs 47 (by decide)))
      have d0 := str_ne (x := 45 :: Lib.decDigits r.num.natAbs) (y := [45, 48]) (fun e => dd_ne_zero (n := r.num.natAbs) (by omega) (by simpa using e))
      have e49 : (⟨#[49]⟩ : ByteArray) = str (Lib.decDigits r.den) := by rw [hd1, dd_one (by omega)]; rfl
      clear hneg hcl hd1
      go_enter Tryz.func25, Tryz.ntmps25
      go_wp2_with fail
      generalize w.alloc (.cells #[.bool false, .slice none 0 0, .slice none 0 0] 29) = W0 at *
      refine (cutp_any W0 HT1.out HT2.out).mono ?_
      rintro e w' ⟨rfl, rfl⟩
      go_wp2_with fail
      refine (cut_any W0 HLEN.out HM.out HCUT.out).mono ?_
      rintro e w1 ⟨rfl, hg⟩
      have hR := hR0.gr hg
      have hG := hG0.step hg
      clear hR0 hG0 hg
      go_wp2_with fail
      refine (parse_dd (N := r.num.natAbs) _ (by omega)).mono ?_
      rintro e w2 ⟨vn, rfl, hn, hg⟩
      replace hR := hR.gr hg
      replace hG := hG.step hg
      have HN := Lib.hid hn
      clear hg hn
      go_wp2_with fail
      skip
      refine (parse_dd (N := r.den) _ (by omega)).mono ?_
      rintro e w3 ⟨vd, rfl, hd, hg⟩
      replace hR := hR.gr hg
      replace hG := hG.step hg
      have HN := Lib.hid (HN.out.gr hg)
      have HD := Lib.hid hd
      clear hg hd
      go_wp2_with fail
      refine (gcd_any _ _ _ HN.out HD.out (by omega) (by omega)).mono ?_
      rintro e w4 ⟨vg, rfl, hgc, hg⟩
      replace hR := hR.gr hg
      replace hG := hG.step hg
      have HN := Lib.hid (HN.out.gr hg)
      have HD := Lib.hid (HD.out.gr hg)
      have HGC := Lib.hid hgc
      clear hg hgc
      go_wp2_with fail
      refine (isOne_eq _ _ HGC.out HCO.out).mono ?_
      rintro e w5 ⟨rfl, hg⟩
      obtain ⟨an, cn, rfl⟩ := num_slice HN.out
      obtain ⟨ad, cd, rfl⟩ := num_slice HD.out
      have hg6 : Gr w4 (w5.alloc (.cells #[.bool true, .slice an (nd r.num.natAbs).length cn, .slice ad (nd r.den).length cd] 29)) := hg.alloc _
      replace hR := hR.gr hg6
      replace hG := hG.step hg6
      have HN := Lib.hid (HN.out.gr hg6)
      have HD := Lib.hid (HD.out.gr hg6)
      have hF := C3.new w5 (.bool true) (.slice an (nd r.num.natAbs).length cn) (.slice ad (nd r.den).length cd) 29 w5.heap.size rfl
      obtain ⟨fc0, fc1, fc2, -, -, -, -, -⟩ := id hF
      clear hg hg6
      go_wp2_with fail
      generalize w5.alloc (.cells #[.bool true, .slice an (nd r.num.natAbs).length cn, .slice ad (nd r.den).length cd] 29) = w6 at *
      refine (fvalid_yes true _ _ _ HN.out HD.out HD0.out (fun _ => HPOS.out) (by omega) (by omega)).mono ?_
      rintro e w7 ⟨rfl, hg⟩
      replace hR := hR.gr hg
      replace hF := hF.gr hg
      replace hG := hG.step hg
      have HN := Lib.hid (HN.out.gr hg)
      have HD := Lib.hid (HD.out.gr hg)
      clear fc0 fc1 fc2 hg
      obtain ⟨fc0, fc1, fc2, -, -, -, -, -⟩ := id hF
      have hfl := hR.fill true an ad (nd r.num.natAbs).length (nd r.den).length cn cd
      obtain ⟨sc0, sc1, sc2, -, -, -, -, -⟩ := hfl.1
      obtain ⟨rc0, rc1, rc2, rf0, rf1, rf2, rlt, -⟩ := id hR
      go_wp2_with fail
      refine bodyPost_ret (v := .tuple #[.agg #[.bool true, .slice an (nd r.num.natAbs).length cn, .slice ad (nd r.den).length cd], .int .i64 0]) (by simp [results, Tryz.results25, go_sem, sc0, sc1, sc2]) rfl ?_
      exact ⟨_, _, _, _, _, _, _, rfl, ⟨_, _, by rw [HNEG.out], hfl.2 HN.out, hfl.2 HD.out⟩, C3.three hG (Nat.le_refl _) _ _ _⟩
    · rw [if_neg hd1] at HT1 HT2 ⊢
      have HLEN : Hid ((Lib.decDigits r.num.natAbs ++ 47 :: Lib.decDigits r.den).length ≤ 1000000) := Lib.hid (by simp; omega)
      have HCUT := Lib.hid (cut_at (b := Lib.decDigits r.den) (dd_no r.num.natAbs 47 (by decide)))
      have d0 := str_ne (x := 45 :: (Lib.decDigits r.num.natAbs ++ 47 :: Lib.decDigits r.den)) (y := [45, 48]) (fun e => by
        rw [hcl] at e; simp at e)
      have d1 := str_ne (dd_ne_zero (n := r.den) (by have := HD0.out; omega))
      have d2 := str_ne (dd_ne_one (n := r.den) hd1)
      clear hneg hcl hd1
      go_enter Tryz.func25, Tryz.ntmps25
      go_wp2_with fail
      generalize w.alloc (.cells #[.bool false, .slice none 0 0, .slice none 0 0] 29) = W0 at *
      refine (cutp_any W0 HT1.out HT2.out).mono ?_
      rintro e w' ⟨rfl, rfl⟩
      go_wp2_with fail
      refine (cut_any W0 HLEN.out HM.out HCUT.out).mono ?_
      rintro e w1 ⟨rfl, hg⟩
      have hR := hR0.gr hg
      have hG := hG0.step hg
      clear hR0 hG0 hg
      go_wp2_with fail
      refine (parse_dd (N := r.num.natAbs) _ (by omega)).mono ?_
      rintro e w2 ⟨vn, rfl, hn, hg⟩
      replace hR := hR.gr hg
      replace hG := hG.step hg
      have HN := Lib.hid hn
      clear hg hn
      go_wp2_with fail
      skip
      refine (parse_dd (N := r.den) _ (by omega)).mono ?_
      rintro e w3 ⟨vd, rfl, hd, hg⟩
      replace hR := hR.gr hg
      replace hG := hG.step hg
      have HN := Lib.hid (HN.out.gr hg)
      have HD := Lib.hid hd
      clear hg hd
      go_wp2_with fail
      refine (gcd_any _ _ _ HN.out HD.out (by omega) (by omega)).mono ?_
      rintro e w4 ⟨vg, rfl, hgc, hg⟩
      replace hR := hR.gr hg
      replace hG := hG.step hg
      have HN := Lib.hid (HN.out.gr hg)
      have HD := Lib.hid (HD.out.gr hg)
      have HGC := Lib.hid hgc
      clear hg hgc
      go_wp2_with fail
      refine (isOne_eq _ _ HGC.out HCO.out).mono ?_
      rintro e w5 ⟨rfl, hg⟩
      obtain ⟨an, cn, rfl⟩ := num_slice HN.out
      obtain ⟨ad, cd, rfl⟩ := num_slice HD.out
      have hg6 : Gr w4 (w5.alloc (.cells #[.bool true, .slice an (nd r.num.natAbs).length cn, .slice ad (nd r.den).length cd] 29)) := hg.alloc _
      replace hR := hR.gr hg6
      replace hG := hG.step hg6
      have HN := Lib.hid (HN.out.gr hg6)
      have HD := Lib.hid (HD.out.gr hg6)
      have hF := C3.new w5 (.bool true) (.slice an (nd r.num.natAbs).length cn) (.slice ad (nd r.den).length cd) 29 w5.heap.size rfl
      obtain ⟨fc0, fc1, fc2, -, -, -, -, -⟩ := id hF
      clear hg hg6
      go_wp2_with fail
      generalize w5.alloc (.cells #[.bool true, .slice an (nd r.num.natAbs).length cn, .slice ad (nd r.den).length cd] 29) = w6 at *
      refine (fvalid_yes true _ _ _ HN.out HD.out HD0.out (fun _ => HPOS.out) (by omega) (by omega)).mono ?_
      rintro e w7 ⟨rfl, hg⟩
      replace hR := hR.gr hg
      replace hF := hF.gr hg
      replace hG := hG.step hg
      have HN := Lib.hid (HN.out.gr hg)
      have HD := Lib.hid (HD.out.gr hg)
      clear fc0 fc1 fc2 hg
      obtain ⟨fc0, fc1, fc2, -, -, -, -, -⟩ := id hF
      have hfl := hR.fill true an ad (nd r.num.natAbs).length (nd r.den).length cn cd
      obtain ⟨sc0, sc1, sc2, -, -, -, -, -⟩ := hfl.1
      obtain ⟨rc0, rc1, rc2, rf0, rf1, rf2, rlt, -⟩ := id hR
      go_wp2_with fail
      refine bodyPost_ret (v := .tuple #[.agg #[.bool true, .slice an (nd r.num.natAbs).length cn, .slice ad (nd r.den).length cd], .int .i64 0]) (by simp [results, Tryz.results25, go_sem, sc0, sc1, sc2]) rfl ?_
      exact ⟨_, _, _, _, _, _, _, rfl, ⟨_, _, by rw [HNEG.out], hfl.2 HN.out, hfl.2 HD.out⟩, C3.three hG (Nat.le_refl _) _ _ _⟩
  · have HNEG : Hid (decide (r.num < 0) = false) := Lib.hid (decide_eq_false hneg)
    have hft : ftext r = Lib.decDigits r.num.natAbs ++ (if r.den = 1 then [] else 47 :: Lib.decDigits r.den) := by unfold ftext; rw [if_neg hneg]; simp
    rw [hft]
    clear hft
    by_cases hd1 : r.den = 1
    · rw [if_pos hd1, List.append_nil]
      have HT1 : Hid (Lib.trimPrefix (Lib.decDigits r.num.natAbs) [45] = Lib.decDigits r.num.natAbs) := Lib.hid (by rw [hcl]; exact (pre_no hc).2)
      have HT2 : Hid (Lib.hasPrefix (Lib.decDigits r.num.natAbs) [45] = false) := Lib.hid (by rw [hcl]; exact (pre_no hc).1)
      have HLEN : Hid ((Lib.decDigits r.num.natAbs).length ≤ 1000000) := Lib.hid (by omega)
      have HCUT := Lib.hid (cut_no (dd_no r.num.natAbs 47 (by decide)))
      have d0 := str_ne (x := Lib.decDigits r.num.natAbs) (y := [45, 48]) (fun e => dd_no r.num.natAbs 45 (by decide) 45 (by rw [e]; simp) rfl)
      have e49 : (⟨#[49]⟩ : ByteArray) = str (Lib.decDigits r.den) := by rw [hd1, dd_one (by omega)]; rfl
      clear hneg hcl hd1
      go_enter Tryz.func25, Tryz.ntmps25
      go_wp2_with fail
      generalize w.alloc (.cells #[.bool false, .slice none 0 0, .slice none 0 0] 29) = W0 at *
      refine (cutp_any W0 HT1.out HT2.out).mono ?_
      rintro e w' ⟨rfl, rfl⟩
      go_wp2_with fail
      refine (cut_any W0 HLEN.out HM.out HCUT.out).mono ?_
      rintro e w1 ⟨rfl, hg⟩
      have hR := hR0.gr hg
      have hG := hG0.step hg
      clear hR0 hG0 hg
      go_wp2_with fail
      refine (parse_dd (N := r.num.natAbs) _ (by omega)).mono ?_
      rintro e w2 ⟨vn, rfl, hn, hg⟩
      replace hR := hR.gr hg
      replace hG := hG.step hg
      have HN := Lib.hid hn
      clear hg hn
      go_wp2_with fail
      skip
      refine (parse_dd (N := r.den) _ (by omega)).mono ?_
      rintro e w3 ⟨vd, rfl, hd, hg⟩
      replace hR := hR.gr hg
      replace hG := hG.step hg
      have HN := Lib.hid (HN.out.gr hg)
      have HD := Lib.hid hd
      clear hg hd
      go_wp2_with fail
      refine (gcd_any _ _ _ HN.out HD.out (by omega) (by omega)).mono ?_
      rintro e w4 ⟨vg, rfl, hgc, hg⟩
      replace hR := hR.gr hg
      replace hG := hG.step hg
      have HN := Lib.hid (HN.out.gr hg)
      have HD := Lib.hid (HD.out.gr hg)
      have HGC := Lib.hid hgc
      clear hg hgc
      go_wp2_with fail
      refine (isOne_eq _ _ HGC.out HCO.out).mono ?_
      rintro e w5 ⟨rfl, hg⟩
      obtain ⟨an, cn, rfl⟩ := num_slice HN.out
      obtain ⟨ad, cd, rfl⟩ := num_slice HD.out
      have hg6 : Gr w4 (w5.alloc (.cells #[.bool false, .slice an (nd r.num.natAbs).length cn, .slice ad (nd r.den).length cd] 29)) := hg.alloc _
      replace hR := hR.gr hg6
      replace hG := hG.step hg6
      have HN := Lib.hid (HN.out.gr hg6)
      have HD := Lib.hid (HD.out.gr hg6)
      have hF := C3.new w5 (.bool false) (.slice an (nd r.num.natAbs).length cn) (.slice ad (nd r.den).length cd) 29 w5.heap.size rfl
      obtain ⟨fc0, fc1, fc2, -, -, -, -, -⟩ := id hF
      clear hg hg6
      go_wp2_with fail
      generalize w5.alloc (.cells #[.bool false, .slice an (nd r.num.natAbs).length cn, .slice ad (nd r.den).length cd] 29) = w6 at *
      refine (fvalid_yes false _ _ _ HN.out HD.out HD0.out (fun h => by cases h) (by omega) (by omega)).mono ?_
      rintro e w7 ⟨rfl, hg⟩
      replace hR := hR.gr hg
      replace hF := hF.gr hg
      replace hG := hG.step hg
      have HN := Lib.hid (HN.out.gr hg)
      have HD := Lib.hid (HD.out.gr hg)
      clear fc0 fc1 fc2 hg
      obtain ⟨fc0, fc1, fc2, -, -, -, -, -⟩ := id hF
      have hfl := hR.fill false an ad (nd r.num.natAbs).length (nd r.den).length cn cd
      obtain ⟨sc0, sc1, sc2, -, -, -, -, -⟩ := hfl.1
      obtain ⟨rc0, rc1, rc2, rf0, rf1, rf2, rlt, -⟩ := id hR
      go_wp2_with fail
      refine bodyPost_ret (v := .tuple #[.agg #[.bool false, .slice an (nd r.num.natAbs).length cn, .slice ad (nd r.den).length cd], .int .i64 0]) (by simp [results, Tryz.results25, go_sem, sc0, sc1, sc2]) rfl ?_
      exact ⟨_, _, _, _, _, _, _, rfl, ⟨_, _, by rw [HNEG.out], hfl.2 HN.out, hfl.2 HD.out⟩, C3.three hG (Nat.le_refl _) _ _ _⟩
    · rw [if_neg hd1]
      have HT1 : Hid (Lib.trimPrefix (Lib.decDigits r.num.natAbs ++ 47 :: Lib.decDigits r.den) [45] = Lib.decDigits r.num.natAbs ++ 47 :: Lib.decDigits r.den) := Lib.hid (by rw [hcl]; exact (pre_no hc).2)
      have HT2 : Hid (Lib.hasPrefix (Lib.decDigits r.num.natAbs ++ 47 :: Lib.decDigits r.den) [45] = false) := Lib.hid (by rw [hcl]; exact (pre_no hc).1)
      have HLEN : Hid ((Lib.decDigits r.num.natAbs ++ 47 :: Lib.decDigits r.den).length ≤ 1000000) := Lib.hid (by simp; omega)
      have HCUT := Lib.hid (cut_at (b := Lib.decDigits r.den) (dd_no r.num.natAbs 47 (by decide)))
      have d0 := str_ne (x := Lib.decDigits r.num.natAbs ++ 47 :: Lib.decDigits r.den) (y := [45, 48]) (fun e => by
        rw [hcl] at e
        simp only [List.cons_append, List.cons.injEq] at e
        have := e.1; subst this; exact absurd hc (by decide))
      have d1 := str_ne (dd_ne_zero (n := r.den) (by have := HD0.out; omega))
      have d2 := str_ne (dd_ne_one (n := r.den) hd1)
      clear hneg hcl hd1
      go_enter Tryz.func25, Tryz.ntmps25
      go_wp2_with fail
      generalize w.alloc (.cells #[.bool false, .slice none 0 0, .slice none 0 0] 29) = W0 at *
      refine (cutp_any W0 HT1.out HT2.out).mono ?_
      rintro e w' ⟨rfl, rfl⟩
      go_wp2_with fail
      refine (cut_any W0 HLEN.out HM.out HCUT.out).mono ?_
      rintro e w1 ⟨rfl, hg⟩
      have hR := hR0.gr hg
      have hG := hG0.step hg
      clear hR0 hG0 hg
      go_wp2_with fail
      refine (parse_dd (N := r.num.natAbs) _ (by omega)).mono ?_
      rintro e w2 ⟨vn, rfl, hn, hg⟩
      replace hR := hR.gr hg
      replace hG := hG.step hg
      have HN := Lib.hid hn
      clear hg hn
      go_wp2_with fail
      skip
      refine (parse_dd (N := r.den) _ (by omega)).mono ?_
      rintro e w3 ⟨vd, rfl, hd, hg⟩
      replace hR := hR.gr hg
      replace hG := hG.step hg
      have HN := Lib.hid (HN.out.gr hg)
      have HD := Lib.hid hd
      clear hg hd
      go_wp2_with fail
      refine (gcd_any _ _ _ HN.out HD.out (by omega) (by omega)).mono ?_
      rintro e w4 ⟨vg, rfl, hgc, hg⟩
      replace hR := hR.gr hg
      replace hG := hG.step hg
      have HN := Lib.hid (HN.out.gr hg)
      have HD := Lib.hid (HD.out.gr hg)
      have HGC := Lib.hid hgc
      clear hg hgc
      go_wp2_with fail
      refine (isOne_eq _ _ HGC.out HCO.out).mono ?_
      rintro e w5 ⟨rfl, hg⟩
      obtain ⟨an, cn, rfl⟩ := num_slice HN.out
      obtain ⟨ad, cd, rfl⟩ := num_slice HD.out
      have hg6 : Gr w4 (w5.alloc (.cells #[.bool false, .slice an (nd r.num.natAbs).length cn, .slice ad (nd r.den).length cd] 29)) := hg.alloc _
      replace hR := hR.gr hg6
      replace hG := hG.step hg6
      have HN := Lib.hid (HN.out.gr hg6)
      have HD := Lib.hid (HD.out.gr hg6)
      have hF := C3.new w5 (.bool false) (.slice an (nd r.num.natAbs).length cn) (.slice ad (nd r.den).length cd) 29 w5.heap.size rfl
      obtain ⟨fc0, fc1, fc2, -, -, -, -, -⟩ := id hF
      clear hg hg6
      go_wp2_with fail
      generalize w5.alloc (.cells #[.bool false, .slice an (nd r.num.natAbs).length cn, .slice ad (nd r.den).length cd] 29) = w6 at *
      refine (fvalid_yes false _ _ _ HN.out HD.out HD0.out (fun h => by cases h) (by omega) (by omega)).mono ?_
      rintro e w7 ⟨rfl, hg⟩
      replace hR := hR.gr hg
      replace hF := hF.gr hg
      replace hG := hG.step hg
      have HN := Lib.hid (HN.out.gr hg)
      have HD := Lib.hid (HD.out.gr hg)
      clear fc0 fc1 fc2 hg
      obtain ⟨fc0, fc1, fc2, -, -, -, -, -⟩ := id hF
      have hfl := hR.fill false an ad (nd r.num.natAbs).length (nd r.den).length cn cd
      obtain ⟨sc0, sc1, sc2, -, -, -, -, -⟩ := hfl.1
      obtain ⟨rc0, rc1, rc2, rf0, rf1, rf2, rlt, -⟩ := id hR
      go_wp2_with fail
      refine bodyPost_ret (v := .tuple #[.agg #[.bool false, .slice an (nd r.num.natAbs).length cn, .slice ad (nd r.den).length cd], .int .i64 0]) (by simp [results, Tryz.results25, go_sem, sc0, sc1, sc2]) rfl ?_
      exact ⟨_, _, _, _, _, _, _, rfl, ⟨_, _, by rw [HNEG.out], hfl.2 HN.out, hfl.2 HD.out⟩, C3.three hG (Nat.le_refl _) _ _ _⟩
end Go.Proofs.YtoaboflepfmkpaaGreatDoor
/- The walk of the statement on texts. -/
namespace Go.Proofs.YtoaboflepfmkpaaGreatDoor
open Go Go.RowKit Go.Sort
set_option maxRecDepth 100000
set_option linter.unusedVariables false
theorem FraN.gr {n : Nat} {p : Nat → Prop} {w w' : World} {v : Value} {r : Rat} (h : FraN n p w v r) (g : Gr w w') : FraN n p w' v r := by
  obtain ⟨x, vn, vd, N, D, e, h1, h2, h3⟩ := h
  exact ⟨x, vn, vd, N, D, e, h1.gr g, h2.gr g, h3⟩
theorem max_gr {w w' : World} (h : ∃ m : Int, w.cell? ⟨0, 0, none⟩ = some (.int .i64 m)) (g : Gr w w') : ∃ m : Int, w'.cell? ⟨0, 0, none⟩ = some (.int .i64 m) := by
  obtain ⟨m, h⟩ := h
  exact ⟨m, by rw [(Gr.cells g).1 0 0 (World.block_lt_of_cell? w _ h)]; exact h⟩
theorem rat_scale {x : Bool} {A B k : Nat} (hk : 0 < k) : rat x (A * k) (B * k) = rat x A B := by
  unfold rat
  have e : sgn x (A * k) = sgn x A * (k : Int) := by unfold sgn; cases x <;> simp [Int.natCast_mul, Int.neg_mul]
  rw [e, Rat.mkRat_mul_right (by omega)]
theorem ftext_inj {r s : Rat} (h : ftext r = ftext s) : r = s := by
  have hn : ∀ r : Rat, ∀ c ∈ (if r.num < 0 then [45] else []) ++ Lib.decDigits r.num.natAbs, c ≠ (47 : UInt8) := by
    intro r c hc
    rcases List.mem_append.1 hc with hc | hc
    · by_cases hr : r.num < 0
      · rw [if_pos hr, List.mem_singleton] at hc
        subst hc; decide
      · rw [if_neg hr] at hc; cases hc
    · exact dd_no _ 47 (by decide) c hc
  have key : ∀ r : Rat, Lib.cut (ftext r) [47] = ((if r.num < 0 then [45] else []) ++ Lib.decDigits r.num.natAbs, (if r.den = 1 then [] else Lib.decDigits r.den), !decide (r.den = 1)) := by
    intro r
    unfold ftext
    by_cases hd : r.den = 1
    · rw [if_pos hd, if_pos hd, List.append_nil, cut_no (hn r), decide_eq_true hd]; rfl
    · rw [if_neg hd, if_neg hd, cut_at (hn r), decide_eq_false hd]; rfl
  have e := key r
  rw [h, key s] at e
  simp only [Prod.mk.injEq] at e
  obtain ⟨e1, e2, e3⟩ := e
  have ed : r.den = s.den := by
    by_cases hr : r.den = 1
    · by_cases hs : s.den = 1
      · omega
      · simp [hr, hs] at e3
    · by_cases hs : s.den = 1
      · simp [hr, hs] at e3
      · rw [if_neg hs, if_neg hr] at e2; exact (dd_inj e2).symm
  have en : r.num = s.num := by
    obtain ⟨c, l, hcl, hc⟩ := dd_head r.num.natAbs
    obtain ⟨d, m, hdm, hd⟩ := dd_head s.num.natAbs
    by_cases hr : r.num < 0
    · by_cases hs : s.num < 0
      · rw [if_pos hs, if_pos hr] at e1
        have := dd_inj (List.append_cancel_left e1)
        omega
      · rw [if_neg hs, if_pos hr, hdm] at e1
        simp only [List.nil_append, List.cons_append, List.cons.injEq] at e1
        have := e1.1; subst this; exact absurd hd (by decide)
    · by_cases hs : s.num < 0
      · rw [if_pos hs, if_neg hr, hcl] at e1
        simp only [List.nil_append, List.cons_append, List.cons.injEq] at e1
        have := e1.1; subst this; exact absurd hc (by decide)
      · rw [if_neg hs, if_neg hr] at e1
        have := dd_inj (List.append_cancel_left e1)
        omega
  exact Rat.ext en ed
theorem ftext_eq (X Y : Rat) : ((str (ftext X)).toList == (str (ftext Y)).toList) = (rcmp X Y == 0) := by
  rw [Lib.toList_data, Lib.toList_data, str_data, str_data, Bool.eq_iff_iff, beq_iff_eq, beq_iff_eq]
  constructor
  · intro h; rw [ftext_inj h, rcmp_self]
  · intro h
    rcases rat_tri X Y with k | k | k
    · rw [rcmp_lt k] at h; omega
    · rw [k]
    · rw [rcmp_gt k] at h; omega
set_option maxHeartbeats 4000000 in
theorem texts_walk (sv : Value) (len : Nat) (w : World) (ht : Tab w) (hm : ∃ m : Int, w.cell? ⟨0, 0, none⟩ = some (.int .i64 m)) (hl : len ≤ 9223372036854775807) (hb : BytesV w.heap.size w sv len) :
    Calls Tryz.prog 6 #[sv] w fun e w' => e = .returned (.bool true) ∧ Gr w w' := by
  have HT := Lib.hid ht
  have HM := Lib.hid hm
  clear ht hm
  go_enter Tryz.func6, Tryz.ntmps6
  go_wp2_with (go_at_call 9; refine (fawake_any _ HT.out).mono ?_; rintro e w1 ⟨rfl, hg1⟩)
  refine (new_any sv len 200 _ (by omega) hl (hb.gr hg1)).mono ?_
  rintro e w2 ⟨b, rfl, hbe, hc2, hg2⟩
  have hbw : w.heap.size ≤ b := by have := Gr.size hg1; omega
  have hG2 : Gr w w2 := (by repeat' (first | (with_reducible exact Gr.refl _) | (with_reducible assumption) | (with_reducible refine Gr.drewN ?_ _) | (with_reducible refine Gr.drew ?_) | (with_reducible refine Gr.alloc ?_ _) | (with_reducible refine Gr.setCell ?_ ?_ _) | (with_reducible refine Gr.grow ?_ _ _) | (refine Gr.step ?_ (by with_reducible assumption)) | go_size))
  clear hbe hg1 hg2 hb
  go_wp2_with fail
  refine (frac_n b 6 _ hc2 (Gr.size hG2) (by omega) (by omega)).mono ?_
  rintro e w3 ⟨bx, ax1, ax2, nx1, nx2, cx1, cx2, X, rfl, hx, dX, hc3, he3⟩
  have hG3 : Gr w w3 := Ex.gr hG2 hbw he3
  go_wp2_with fail
  refine (frac_n b 6 _ hc3 (Gr.size hG3) (by omega) (by omega)).mono ?_
  rintro e w4 ⟨by', ay1, ay2, ny1, ny2, cy1, cy2, Y, rfl, hy, dY, hc4, he4⟩
  have hG4 : Gr w w4 := Ex.gr hG3 hbw he4
  have hX4 := hx.ex he4
  have cX := (C3.new w4 (.bool bx) (.slice ax1 nx1 cx1) (.slice ax2 nx2 cx2) 29 w4.heap.size rfl).gr (Gr.alloc (Gr.refl _) (.cells #[.bool by', .slice ay1 ny1 cy1, .slice ay2 ny2 cy2] 29))
  have cY := C3.new (w4.alloc (.cells #[.bool bx, .slice ax1 nx1 cx1, .slice ax2 nx2 cx2] 29)) (.bool by') (.slice ay1 ny1 cy1) (.slice ay2 ny2 cy2) 29 (w4.heap.size + 1) (by simp)
  have g46 : Gr w4 ((w4.alloc (.cells #[.bool bx, .slice ax1 nx1 cx1, .slice ax2 nx2 cx2] 29)).alloc (.cells #[.bool by', .slice ay1 ny1 cy1, .slice ay2 ny2 cy2] 29)) := (Gr.alloc (Gr.refl _) _).alloc _
  have hX6 := hX4.gr g46
  have hY6 := hy.gr g46
  have hG6 := hG4.step g46
  have hc6 := hc4.gr g46
  have hbl := hc4.lt
  clear hG2 hG3 hG4 he3 he4 hc2 hc3 hc4 hx hy hX4 g46
  go_wp2_with fail
  generalize (w4.alloc (.cells #[.bool bx, .slice ax1 nx1 cx1, .slice ax2 nx2 cx2] 29)).alloc (.cells #[.bool by', .slice ay1 ny1 cy1, .slice ay2 ny2 cy2] 29) = w6 at *
  refine (next_any b 3 _ (by omega) (by omega) hc6).mono ?_
  rintro e w7 ⟨z, rfl, z0, z1, hc7, he7⟩
  have cX := cX.ex he7 (by omega)
  have cY := cY.ex he7 (by omega)
  have hX := hX6.ex he7
  have hY := hY6.ex he7
  have hG := Ex.gr hG6 hbw he7
  clear hX6 hY6 hG6 hc6 he7
  by_cases hz : z = 0
  · subst hz
    go_wp2_with fail
    refine (next_any b 50 _ (by omega) (by omega) hc7).mono ?_
    rintro e w8 ⟨y, rfl, y0, y1, hc8, he8⟩
    obtain ⟨y, rfl⟩ := Int.eq_ofNat_of_zero_le y0
    have cX := cX.ex he8 (by omega)
    have cY := cY.ex he8 (by omega)
    have hX := hX.ex he8
    have hG := Ex.gr hG hbw he8
    clear hc7 he8 hc8 hY
    go_wp2_with fail
    refine (word_int _ (1 + y) w8 (by omega) (by omega)).mono ?_
    rintro e w9 ⟨vk, rfl, hk, hg⟩
    have cX := cX.gr hg
    have cY := cY.gr hg
    have hX := hX.gr hg
    have hG := hG.step hg
    clear hg
    obtain ⟨ak, ck, rfl⟩ := num_slice hk
    obtain ⟨x, vn, vd, A, B, ex, hA, hB, hB0, hx0, lA, lB, rX⟩ := hX
    obtain ⟨an, cn, rfl⟩ := num_slice hA.any
    obtain ⟨ad, cd, rfl⟩ := num_slice hB.any
    simp only [Value.agg.injEq, Array.mk.injEq, List.cons.injEq, and_true, Value.bool.injEq, Value.slice.injEq] at ex
    obtain ⟨rfl, ⟨rfl, rfl, rfl⟩, rfl, rfl, rfl⟩ := ex
    obtain ⟨p0, p1, p2, -, -, -, -, -⟩ := id cX
    obtain ⟨q0, q1, q2, qf0, qf1, qf2, qlt, -⟩ := id cY
    go_wp2_with fail
    clear p0 p1 p2 q0 q1 q2 qf0 qf1 qf2 qlt
    have lK : (nd (1 + y)).length ≤ 1 := (nd_len (1 + y) 1).2 (by omega)
    have HA := Lib.hid hA.any
    have HB := Lib.hid hB.any
    have HK := Lib.hid hk
    have HB0 := Lib.hid hB0
    have HX0 := Lib.hid hx0
    have HRX := Lib.hid rX
    clear hA hB hk hB0 hx0 rX
    refine region_plain (fun W' => C3 W' w4.heap.size (.bool bx) (.slice ax1 (nd A).length cx1) (.slice ax2 (nd B).length cx2)) (by kernel_rfl) ?_
    have hS := cX.gr (Gr.drew (Gr.refl _))
    have hGd : Gr w9 w9.drew := Gr.drew (Gr.refl _)
    refine take_at 0 (some 27) (v := ?vx0) rfl rfl (by kernel_rfl) (by kernel_rfl) (by kernel_rfl) (by rfl) ?yx0 hS ?tx0
    case yx0 =>
      intro w' hSw
      obtain ⟨q0, q1, q2, -, -, -, -, -⟩ := hSw
      go_simp
      (try with_reducible rfl)
    simp only [Act.put, List.setIfInBounds_toArray, List.set_cons_zero, List.set_cons_succ]
    refine take_at 1 (some 28) (v := ?vx1) rfl rfl (by kernel_rfl) (by kernel_rfl) (by kernel_rfl) (by rfl) ?yx1 hS ?tx1
    case yx1 =>
      intro w' hSw
      obtain ⟨q0, q1, q2, -, -, -, -, -⟩ := hSw
      go_simp
      (try with_reducible rfl)
    simp only [Act.put, List.setIfInBounds_toArray, List.set_cons_zero, List.set_cons_succ]
    refine take_at 2 (some 29) (v := ?vx2) rfl rfl (by kernel_rfl) (by kernel_rfl) (by kernel_rfl) (by rfl) ?yx2 hS ?tx2
    case yx2 =>
      intro w' hSw
      obtain ⟨q0, q1, q2, -, -, -, -, -⟩ := hSw
      go_simp
      (try with_reducible rfl)
    simp only [Act.put, List.setIfInBounds_toArray, List.set_cons_zero, List.set_cons_succ]
    refine take_at 3 (some 30) (v := ?vx3) rfl rfl (by kernel_rfl) (by kernel_rfl) (by kernel_rfl) (by rfl) ?yx3 hS ?tx3
    case yx3 =>
      intro w' hSw
      obtain ⟨q0, q1, q2, -, -, -, -, -⟩ := hSw
      go_simp
      (try with_reducible rfl)
    simp only [Act.put, List.setIfInBounds_toArray, List.set_cons_zero, List.set_cons_succ]
    refine take_at 4 (some 31) (v := ?vx4) rfl rfl (by kernel_rfl) (by kernel_rfl) (by kernel_rfl) (by rfl) ?yx4 hS ?tx4
    case yx4 =>
      intro w' hSw
      obtain ⟨q0, q1, q2, -, -, -, -, -⟩ := hSw
      go_simp
      (try with_reducible rfl)
    simp only [Act.put, List.setIfInBounds_toArray, List.set_cons_zero, List.set_cons_succ]
    refine take_at 6 (some 33) (v := ?vx6) rfl rfl (by kernel_rfl) (by kernel_rfl) (by kernel_rfl) (by rfl) ?yx6 hS ?tx6
    case yx6 =>
      intro w' hSw
      obtain ⟨q0, q1, q2, -, -, -, -, -⟩ := hSw
      go_simp
      (try with_reducible rfl)
    simp only [Act.put, List.setIfInBounds_toArray, List.set_cons_zero, List.set_cons_succ]
    refine take_at 7 (some 34) (v := ?vx7) rfl rfl (by kernel_rfl) (by kernel_rfl) (by kernel_rfl) (by rfl) ?yx7 hS ?tx7
    case yx7 =>
      intro w' hSw
      obtain ⟨q0, q1, q2, -, -, -, -, -⟩ := hSw
      go_simp
      (try with_reducible rfl)
    simp only [Act.put, List.setIfInBounds_toArray, List.set_cons_zero, List.set_cons_succ]
    refine take_at 8 (some 35) (v := ?vx8) rfl rfl (by kernel_rfl) (by kernel_rfl) (by kernel_rfl) (by rfl) ?yx8 hS ?tx8
    case yx8 =>
      intro w' hSw
      obtain ⟨q0, q1, q2, -, -, -, -, -⟩ := hSw
      go_simp
      (try with_reducible rfl)
    simp only [Act.put, List.setIfInBounds_toArray, List.set_cons_zero, List.set_cons_succ]
    refine next_at 5 rfl (by kernel_rfl) (by rfl) (fun K hK => ?_)
    go_simp
    refine (times_any (A := A) (B := 1 + y) _ _ _ (HA.out.gr hGd) (HK.out.gr hGd) (by omega) (by omega)).mono ?_
    rintro e wb ⟨vq, rfl, hq, hg⟩
    replace hGd := hGd.step hg
    refine hK _ _ (hS.gr hg) ?_
    replace hS := hS.gr hg
    clear hK K hg
    refine next_at 9 rfl (by kernel_rfl) (by rfl) (fun K hK => ?_)
    go_simp
    refine (times_any (A := B) (B := 1 + y) _ _ _ (HB.out.gr hGd) (HK.out.gr hGd) (by omega) (by omega)).mono ?_
    rintro e wc ⟨vr, rfl, hr, hg⟩
    replace hGd := hGd.step hg
    replace hq := hq.gr hg
    refine hK _ _ (hS.gr hg) ?_
    replace hS := hS.gr hg
    clear hK K hg
    obtain ⟨aq, cq, rfl⟩ := num_slice hq
    obtain ⟨ar, cr, rfl⟩ := num_slice hr
    have HQ := Lib.hid hq
    have HR := Lib.hid hr
    clear hq hr
    refine next_at 10 rfl (by kernel_rfl) (by rfl) (fun K hK => ?_)
    go_simp
    refine hK _ _ hS ?_
    clear hK K
    obtain ⟨q0, q1, q2, qf0, qf1, qf2, qlt, -⟩ := id (cY.gr hGd)
    refine next_at 11 rfl (by kernel_rfl) (by rfl) (fun K hK => ?_)
    go_simp
    have hfl := (cY.gr hGd).fill bx aq ar (nd (A * (1 + y))).length (nd (B * (1 + y))).length cq cr
    have cX := ((hS.other (s := w4.heap.size + 1) (o := 0) (.bool bx) (by omega)).other (s := w4.heap.size + 1) (o := 1) (.slice aq (nd (A * (1 + y))).length cq) (by omega)).other (s := w4.heap.size + 1) (o := 2) (.slice ar (nd (B * (1 + y))).length cr) (by omega)
    refine hK _ _ cX ?_
    clear hK K
    refine wpAnyH_done (by kernel_rfl) ?_ _
    have fX : Fra _ (.agg #[.bool bx, .slice ax1 (nd A).length cx1, .slice ax2 (nd B).length cx2]) X := ⟨bx, _, _, A, B, rfl, hfl.2 (HA.out.gr hGd), hfl.2 (HB.out.gr hGd), HB0.out, HX0.out, by omega, by omega, HRX.out⟩
    have fY : Fra _ (.agg #[.bool bx, .slice aq (nd (A * (1 + y))).length cq, .slice ar (nd (B * (1 + y))).length cr]) X := ⟨bx, _, _, A * (1 + y), B * (1 + y), rfl, hfl.2 HQ.out, hfl.2 HR.out, Nat.mul_pos HB0.out (by omega), fun h => Nat.mul_pos (HX0.out h) (by omega), Nat.le_trans (nd_mul' lA lK) (by omega), Nat.le_trans (nd_mul' lB lK) (by omega), by rw [HRX.out, rat_scale (by omega)]⟩
    have cY := hfl.1
    have hG := C3.three (hG.step hGd) (by omega : w.heap.size ≤ w4.heap.size + 1) (.bool bx) (.slice aq (nd (A * (1 + y))).length cq) (.slice ar (nd (B * (1 + y))).length cr)
    clear hfl hS hGd HA HB HK HQ HR HB0 HX0 q0 q1 q2 qf0 qf1 qf2 qlt
    generalize ((wc.setCell ⟨w4.heap.size + 1, 0, none⟩ (.bool bx)).setCell ⟨w4.heap.size + 1, 1, none⟩ (.slice aq (nd (A * (1 + y))).length cq)).setCell ⟨w4.heap.size + 1, 2, none⟩ (.slice ar (nd (B * (1 + y))).length cr) = W9 at *
    refine qz_normal ?_
    have FX := Lib.hid fX
    have FY := Lib.hid fY
    clear fX fY
    obtain ⟨p0, p1, p2, -, -, -, -, -⟩ := id cX
    go_wp2_with fail
    refine (ftext_any _ _ FX.out (HT.out.gr hG)).mono ?_
    rintro e wa ⟨rfl, hg⟩
    replace cX := cX.gr hg
    replace cY := cY.gr hg
    replace hG := hG.step hg
    have FX := Lib.hid (FX.out.gr hg)
    have FY := Lib.hid (FY.out.gr hg)
    clear p0 p1 p2 hg
    obtain ⟨p0, p1, p2, -, -, -, -, -⟩ := id cX
    go_wp2_with fail
    refine (fparse_text _ (dX.mono (by omega)) (max_gr HM.out hG)).mono ?_
    rintro e wb ⟨bp, ap1, ap2, np1, np2, cp1, cp2, rfl, hred, hg⟩
    replace cX := cX.gr hg
    replace cY := cY.gr hg
    replace hG := hG.step hg
    have FX := Lib.hid (FX.out.gr hg)
    have FY := Lib.hid (FY.out.gr hg)
    clear p0 p1 p2 hg
    obtain ⟨p0, p1, p2, -, -, -, -, -⟩ := id cX
    have hg : Gr wb (wb.alloc (.cells #[.bool bp, .slice ap1 np1 cp1, .slice ap2 np2 cp2] 29)) := Gr.alloc (Gr.refl _) _
    have cP := C3.new wb (.bool bp) (.slice ap1 np1 cp1) (.slice ap2 np2 cp2) 29 wb.heap.size rfl
    have HRED := Lib.hid (hred.gr hg)
    clear hred
    replace cX := cX.gr hg
    replace cY := cY.gr hg
    replace hG := hG.step hg
    have FX := Lib.hid (FX.out.gr hg)
    have FY := Lib.hid (FY.out.gr hg)
    clear p0 p1 p2 hg
    obtain ⟨p0, p1, p2, -, -, -, -, -⟩ := id cX
    obtain ⟨q0, q1, q2, -, -, -, -, -⟩ := id cY
    go_wp2_with fail
    clear q0 q1 q2
    refine (fcompare_any _ _ _ FX.out FY.out).mono ?_
    rintro e Wc ⟨rfl, hg⟩
    have HRED := Lib.hid (HRED.out.gr hg)
    have cP := cP.gr hg
    replace cX := cX.gr hg
    replace cY := cY.gr hg
    replace hG := hG.step hg
    have FX := Lib.hid (FX.out.gr hg)
    have FY := Lib.hid (FY.out.gr hg)
    clear p0 p1 p2 hg
    obtain ⟨p0, p1, p2, -, -, -, -, -⟩ := id cX
    clear p0 p1 p2
    go_wp2_with fail
    have hS : Gr Wc Wc.drew := Gr.drew (Gr.refl _)
    refine region_plain (fun W' => Gr Wc W') (by kernel_rfl) ?_
    refine next_at 0 rfl (by kernel_rfl) (by rfl) (fun K hK => ?_)
    go_simp
    refine hK _ _ hS ?_
    clear hK K
    refine next_at 1 rfl (by kernel_rfl) (by rfl) (fun K hK => ?_)
    go_simp
    refine hK _ _ hS ?_
    clear hK K
    refine next_at 2 rfl (by kernel_rfl) (by rfl) (fun K hK => ?_)
    go_simp
    refine hK _ _ hS ?_
    clear hK K
    refine take_at 3 (some 53) (v := ?vta3) rfl rfl (by kernel_rfl) (by kernel_rfl) (by kernel_rfl) (by rfl) ?yta3 hS ?tta3
    case yta3 =>
      intro w' hSw
      obtain ⟨q0, q1, q2, -, -, -, -, -⟩ := cP.gr hSw
      go_simp
      (try with_reducible rfl)
    simp only [Act.put, List.setIfInBounds_toArray, List.set_cons_zero, List.set_cons_succ]
    refine take_at 4 (some 54) (v := ?vta4) rfl rfl (by kernel_rfl) (by kernel_rfl) (by kernel_rfl) (by rfl) ?yta4 hS ?tta4
    case yta4 =>
      intro w' hSw
      obtain ⟨q0, q1, q2, -, -, -, -, -⟩ := cX.gr hSw
      go_simp
      (try with_reducible rfl)
    simp only [Act.put, List.setIfInBounds_toArray, List.set_cons_zero, List.set_cons_succ]
    refine next_at 5 rfl (by kernel_rfl) (by rfl) (fun K hK => ?_)
    go_simp
    refine (freduce_any _ _ (FX.out.gr hS)).mono ?_
    rintro e wr1 ⟨u, rfl, hru, -, hg⟩
    replace hS := Gr.step hS hg
    refine hK _ _ hS ?_
    clear hK K hg
    refine next_at 6 rfl (by kernel_rfl) (by rfl) (fun K hK => ?_)
    go_simp
    refine (fsame_yes (r := X) _ _ _ (HRED.out.gr hS) hru (dX.mono (by omega))).mono ?_
    rintro e ws6 ⟨rfl, hg⟩
    replace hS := Gr.step hS hg
    refine hK _ _ hS ?_
    clear hK K hg
    refine next_at 7 rfl (by kernel_rfl) (by rfl) (fun K hK => ?_)
    go_simp
    refine hK _ _ hS ?_
    clear hK K
    refine next_at 8 rfl (by kernel_rfl) (by rfl) (fun K hK => ?_)
    go_simp
    refine hK _ _ hS ?_
    clear hK K
    refine take_at 9 (some 59) (v := ?vta9) rfl rfl (by kernel_rfl) (by kernel_rfl) (by kernel_rfl) (by rfl) ?yta9 hS ?tta9
    case yta9 =>
      intro w' hSw
      obtain ⟨q0, q1, q2, -, -, -, -, -⟩ := cX.gr hSw
      go_simp
      (try with_reducible rfl)
    simp only [Act.put, List.setIfInBounds_toArray, List.set_cons_zero, List.set_cons_succ]
    refine take_at 11 (some 61) (v := ?vta11) rfl rfl (by kernel_rfl) (by kernel_rfl) (by kernel_rfl) (by rfl) ?yta11 hS ?tta11
    case yta11 =>
      intro w' hSw
      obtain ⟨q0, q1, q2, -, -, -, -, -⟩ := cY.gr hSw
      go_simp
      (try with_reducible rfl)
    simp only [Act.put, List.setIfInBounds_toArray, List.set_cons_zero, List.set_cons_succ]
    refine take_at 14 (some 64) (v := ?vta14) rfl rfl (by kernel_rfl) (by kernel_rfl) (by kernel_rfl) (by rfl) ?yta14 hS ?tta14
    case yta14 =>
      intro w' hSw
      go_simp
      (try with_reducible rfl)
    simp only [Act.put, List.setIfInBounds_toArray, List.set_cons_zero, List.set_cons_succ]
    refine take_at 15 (some 65) (v := ?vta15) rfl rfl (by kernel_rfl) (by kernel_rfl) (by kernel_rfl) (by rfl) ?yta15 hS ?tta15
    case yta15 =>
      intro w' hSw
      go_simp
      (try with_reducible rfl)
    simp only [Act.put, List.setIfInBounds_toArray, List.set_cons_zero, List.set_cons_succ]
    refine next_at 10 rfl (by kernel_rfl) (by rfl) (fun K hK => ?_)
    go_simp
    refine (ftext_any _ _ (FX.out.gr hS) (HT.out.gr (hG.step hS))).mono ?_
    rintro e wf ⟨rfl, hg⟩
    replace hS := Gr.step hS hg
    refine hK _ _ hS ?_
    clear hK K hg
    refine next_at 12 rfl (by kernel_rfl) (by rfl) (fun K hK => ?_)
    go_simp
    refine (ftext_any _ _ (FY.out.gr hS) (HT.out.gr (hG.step hS))).mono ?_
    rintro e wg ⟨rfl, hg⟩
    replace hS := Gr.step hS hg
    refine hK _ _ hS ?_
    clear hK K hg
    refine next_at 13 rfl (by kernel_rfl) (by rfl) (fun K hK => ?_)
    go_simp
    refine hK _ _ hS ?_
    clear hK K
    rw [rcmp_self]
    refine next_at 16 rfl (by kernel_rfl) (by rfl) (fun K hK => ?_)
    go_simp
    refine hK _ _ hS ?_
    clear hK K
    refine next_at 17 rfl (by kernel_rfl) (by rfl) (fun K hK => ?_)
    go_simp
    refine hK _ _ hS ?_
    clear hK K
    refine next_at 18 rfl (by kernel_rfl) (by rfl) (fun K hK => ?_)
    go_simp
    refine hK _ _ hS ?_
    clear hK K
    refine wpAnyH_done (by kernel_rfl) ?_ _
    refine qz_normal ?_
    go_wp2_with fail
    go_ret
    exact ⟨rfl, hG.step hS⟩
  · have dz : (z == 0) = false := by rw [beq_eq_false_iff_ne]; exact hz
    have fX := FraP.fra (hX.mono (j := 64) (by omega))
    have fY := FraP.fra (hY.mono (j := 64) (by omega))
    clear hX hY hc7 hz z0 z1
    generalize w7 = W9 at *
    have FX := Lib.hid fX
    have FY := Lib.hid fY
    clear fX fY
    obtain ⟨p0, p1, p2, -, -, -, -, -⟩ := id cX
    go_wp2_with fail
    refine (ftext_any _ _ FX.out (HT.out.gr hG)).mono ?_
    rintro e wa ⟨rfl, hg⟩
    replace cX := cX.gr hg
    replace cY := cY.gr hg
    replace hG := hG.step hg
    have FX := Lib.hid (FX.out.gr hg)
    have FY := Lib.hid (FY.out.gr hg)
    clear p0 p1 p2 hg
    obtain ⟨p0, p1, p2, -, -, -, -, -⟩ := id cX
    go_wp2_with fail
    refine (fparse_text _ (dX.mono (by omega)) (max_gr HM.out hG)).mono ?_
    rintro e wb ⟨bp, ap1, ap2, np1, np2, cp1, cp2, rfl, hred, hg⟩
    replace cX := cX.gr hg
    replace cY := cY.gr hg
    replace hG := hG.step hg
    have FX := Lib.hid (FX.out.gr hg)
    have FY := Lib.hid (FY.out.gr hg)
    clear p0 p1 p2 hg
    obtain ⟨p0, p1, p2, -, -, -, -, -⟩ := id cX
    have hg : Gr wb (wb.alloc (.cells #[.bool bp, .slice ap1 np1 cp1, .slice ap2 np2 cp2] 29)) := Gr.alloc (Gr.refl _) _
    have cP := C3.new wb (.bool bp) (.slice ap1 np1 cp1) (.slice ap2 np2 cp2) 29 wb.heap.size rfl
    have HRED := Lib.hid (hred.gr hg)
    clear hred
    replace cX := cX.gr hg
    replace cY := cY.gr hg
    replace hG := hG.step hg
    have FX := Lib.hid (FX.out.gr hg)
    have FY := Lib.hid (FY.out.gr hg)
    clear p0 p1 p2 hg
    obtain ⟨p0, p1, p2, -, -, -, -, -⟩ := id cX
    obtain ⟨q0, q1, q2, -, -, -, -, -⟩ := id cY
    go_wp2_with fail
    clear q0 q1 q2
    refine (fcompare_any _ _ _ FX.out FY.out).mono ?_
    rintro e Wc ⟨rfl, hg⟩
    have HRED := Lib.hid (HRED.out.gr hg)
    have cP := cP.gr hg
    replace cX := cX.gr hg
    replace cY := cY.gr hg
    replace hG := hG.step hg
    have FX := Lib.hid (FX.out.gr hg)
    have FY := Lib.hid (FY.out.gr hg)
    clear p0 p1 p2 hg
    obtain ⟨p0, p1, p2, -, -, -, -, -⟩ := id cX
    clear p0 p1 p2
    go_wp2_with fail
    have hS : Gr Wc Wc.drew := Gr.drew (Gr.refl _)
    refine region_plain (fun W' => Gr Wc W') (by kernel_rfl) ?_
    refine next_at 0 rfl (by kernel_rfl) (by rfl) (fun K hK => ?_)
    go_simp
    refine hK _ _ hS ?_
    clear hK K
    refine next_at 1 rfl (by kernel_rfl) (by rfl) (fun K hK => ?_)
    go_simp
    refine hK _ _ hS ?_
    clear hK K
    refine next_at 2 rfl (by kernel_rfl) (by rfl) (fun K hK => ?_)
    go_simp
    refine hK _ _ hS ?_
    clear hK K
    refine take_at 3 (some 53) (v := ?vtb3) rfl rfl (by kernel_rfl) (by kernel_rfl) (by kernel_rfl) (by rfl) ?ytb3 hS ?ttb3
    case ytb3 =>
      intro w' hSw
      obtain ⟨q0, q1, q2, -, -, -, -, -⟩ := cP.gr hSw
      go_simp
      (try with_reducible rfl)
    simp only [Act.put, List.setIfInBounds_toArray, List.set_cons_zero, List.set_cons_succ]
    refine take_at 4 (some 54) (v := ?vtb4) rfl rfl (by kernel_rfl) (by kernel_rfl) (by kernel_rfl) (by rfl) ?ytb4 hS ?ttb4
    case ytb4 =>
      intro w' hSw
      obtain ⟨q0, q1, q2, -, -, -, -, -⟩ := cX.gr hSw
      go_simp
      (try with_reducible rfl)
    simp only [Act.put, List.setIfInBounds_toArray, List.set_cons_zero, List.set_cons_succ]
    refine next_at 5 rfl (by kernel_rfl) (by rfl) (fun K hK => ?_)
    go_simp
    refine (freduce_any _ _ (FX.out.gr hS)).mono ?_
    rintro e wr1 ⟨u, rfl, hru, -, hg⟩
    replace hS := Gr.step hS hg
    refine hK _ _ hS ?_
    clear hK K hg
    refine next_at 6 rfl (by kernel_rfl) (by rfl) (fun K hK => ?_)
    go_simp
    refine (fsame_yes (r := X) _ _ _ (HRED.out.gr hS) hru (dX.mono (by omega))).mono ?_
    rintro e ws6 ⟨rfl, hg⟩
    replace hS := Gr.step hS hg
    refine hK _ _ hS ?_
    clear hK K hg
    refine next_at 7 rfl (by kernel_rfl) (by rfl) (fun K hK => ?_)
    go_simp
    refine hK _ _ hS ?_
    clear hK K
    refine next_at 8 rfl (by kernel_rfl) (by rfl) (fun K hK => ?_)
    go_simp
    refine hK _ _ hS ?_
    clear hK K
    refine take_at 9 (some 59) (v := ?vtb9) rfl rfl (by kernel_rfl) (by kernel_rfl) (by kernel_rfl) (by rfl) ?ytb9 hS ?ttb9
    case ytb9 =>
      intro w' hSw
      obtain ⟨q0, q1, q2, -, -, -, -, -⟩ := cX.gr hSw
      go_simp
      (try with_reducible rfl)
    simp only [Act.put, List.setIfInBounds_toArray, List.set_cons_zero, List.set_cons_succ]
    refine take_at 11 (some 61) (v := ?vtb11) rfl rfl (by kernel_rfl) (by kernel_rfl) (by kernel_rfl) (by rfl) ?ytb11 hS ?ttb11
    case ytb11 =>
      intro w' hSw
      obtain ⟨q0, q1, q2, -, -, -, -, -⟩ := cY.gr hSw
      go_simp
      (try with_reducible rfl)
    simp only [Act.put, List.setIfInBounds_toArray, List.set_cons_zero, List.set_cons_succ]
    refine take_at 14 (some 64) (v := ?vtb14) rfl rfl (by kernel_rfl) (by kernel_rfl) (by kernel_rfl) (by rfl) ?ytb14 hS ?ttb14
    case ytb14 =>
      intro w' hSw
      go_simp
      (try with_reducible rfl)
    simp only [Act.put, List.setIfInBounds_toArray, List.set_cons_zero, List.set_cons_succ]
    refine take_at 15 (some 65) (v := ?vtb15) rfl rfl (by kernel_rfl) (by kernel_rfl) (by kernel_rfl) (by rfl) ?ytb15 hS ?ttb15
    case ytb15 =>
      intro w' hSw
      go_simp
      (try with_reducible rfl)
    simp only [Act.put, List.setIfInBounds_toArray, List.set_cons_zero, List.set_cons_succ]
    refine next_at 10 rfl (by kernel_rfl) (by rfl) (fun K hK => ?_)
    go_simp
    refine (ftext_any _ _ (FX.out.gr hS) (HT.out.gr (hG.step hS))).mono ?_
    rintro e wf ⟨rfl, hg⟩
    replace hS := Gr.step hS hg
    refine hK _ _ hS ?_
    clear hK K hg
    refine next_at 12 rfl (by kernel_rfl) (by rfl) (fun K hK => ?_)
    go_simp
    refine (ftext_any _ _ (FY.out.gr hS) (HT.out.gr (hG.step hS))).mono ?_
    rintro e wg ⟨rfl, hg⟩
    replace hS := Gr.step hS hg
    refine hK _ _ hS ?_
    clear hK K hg
    refine next_at 13 rfl (by kernel_rfl) (by rfl) (fun K hK => ?_)
    go_simp
    refine hK _ _ hS ?_
    clear hK K
    rw [ftext_eq]
    refine next_at 16 rfl (by kernel_rfl) (by rfl) (fun K hK => ?_)
    go_simp
    refine hK _ _ hS ?_
    clear hK K
    refine next_at 17 rfl (by kernel_rfl) (by rfl) (fun K hK => ?_)
    go_simp
    refine hK _ _ hS ?_
    clear hK K
    refine next_at 18 rfl (by kernel_rfl) (by rfl) (fun K hK => ?_)
    go_simp
    refine hK _ _ hS ?_
    clear hK K
    refine wpAnyH_done (by kernel_rfl) ?_ _
    refine qz_normal ?_
    go_wp2_with fail
    go_ret
    exact ⟨rfl, hG.step hS⟩
end Go.Proofs.YtoaboflepfmkpaaGreatDoor
