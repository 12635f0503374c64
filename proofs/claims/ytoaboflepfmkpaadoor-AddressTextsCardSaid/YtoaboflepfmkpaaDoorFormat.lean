/- Writing: Format, and awake. -/
import Derived.Test.YtoaboflepfmkpaaDoorParse
import Derived.WalkKit
import Derived.WalkSpells
import Derived.WalkLawsBesides
import Derived.WalkSmall
import Derived.Handy
import Derived.BigQuiet
import Derived.Deep.QuietTactic
import Derived.Deep.RegionHeld3
import Derived.Deep.DeepFit
import Derived.Below
import Derived.Lib.Hide
import Derived.Lib.QuietBelow
import Derived.Lib.LaidTab
import Derived.Laws.BitsAllLaws
namespace Go.Proofs.YtoaboflepfmkpaaDoor
open Go Go.RowKit Go.Sort
set_option maxRecDepth 100000
set_option linter.unusedVariables false

/-- the table that strconv.Itoa reads -/
def Tab (w : World) : Prop := Lib.TabIs Tryd.prog w "internal/strconv.uint64pow10" .u64 Lib.pow10Tab
theorem Tab.gr {w w' : World} (h : Tab w) (g : Gr w w') : Tab w' := by
  have hg : Tryd.prog.globalNamed "internal/strconv.uint64pow10" = some 1 := by kernel_rfl
  have hb : 1 < w.heap.size := by
    have hc := Lib.TabIs.cell h hg 0 (by decide)
    exact World.block_lt_of_cell? w _ hc
  exact var?_below g hg hb h
theorem gr_grow (w : World) (os : Array Obj) : Gr w (Sort.grow w os) :=
  ⟨rfl, rfl, rfl, by simp [Sort.grow], fun k hk => by simp [Sort.grow, Array.getElem?_append, hk]⟩
theorem itoa_any (n : Int) (w : World) (h0 : 0 ≤ n) (h1 : n ≤ 9223372036854775807) (ht : Tab w) :
    Calls Tryd.prog 37 #[.int .i64 n] w fun e w' => e = .returned (.string (str (Lib.decDigits n.toNat))) ∧ Gr w w' := by
  refine (Tryd.strconv_Itoa n (by omega) h1 w ht).mono fun e w' ⟨he, hw⟩ => ?_
  obtain ⟨k, os, rfl⟩ := hw
  refine ⟨?_, ?_⟩
  · rw [he]
    have e : Lib.itoa n = Lib.decDigits n.toNat := by unfold Lib.itoa; rw [if_neg (by omega)]
    rw [e]; rfl
  · exact Gr.step (Gr.drewN (Gr.refl w) k) (gr_grow _ _)

def dd (n : Int) : List UInt8 := Lib.decDigits n.toNat
/-- the text of an address -/
def fmtA (a : Int) : List UInt8 := dd (a / 16777216) ++ (46 :: dd (a / 65536 % 256)) ++ (46 :: dd (a / 256 % 256)) ++ (46 :: dd (a % 256))
theorem and255_u32 (x : Int) (h0 : 0 ≤ x) (h1 : x < 4294967296) : bits .and .u32 x 255 = x % 256 := by
  rw [u32_and x 255 h0 h1 (by omega) (by omega)]
  have : x.toNat &&& 255 = x.toNat % 256 := Nat.and_two_pow_sub_one_eq_mod x.toNat 8
  rw [show (255 : Int).toNat = 255 by rfl, this]; omega
theorem str_append (x y : List UInt8) : str x ++ str y = str (x ++ y) := by
  simp [str, ByteArray.ext_iff]
/-- concatenation, as the walk meets it -/
theorem add_str (x y : List UInt8) (h : x.length + y.length ≤ 9223372036854775807) (w : World) : (Op.stringOp .add (str x) (str y)).run Tryd.prog w = .ok (.string (str (x ++ y))) w := by
  exact (run_string_add_sum (P := Tryd.prog) (w := w) (str x) (str y) (by rw [str_size, str_size]; exact h)).trans (by rw [str_append])
theorem add_c (c : UInt8) (y : List UInt8) (h : y.length ≤ 1000000) (w : World) : (Op.stringOp .add ⟨#[c]⟩ (str y)).run Tryd.prog w = .ok (.string (str (c :: y))) w :=
  add_str [c] y (by simp; omega) w
theorem dd_len (n : Int) (h0 : 0 ≤ n) (h1 : n ≤ 255) : (dd n).length ≤ 3 := by
  obtain ⟨k, rfl⟩ := Int.eq_ofNat_of_zero_le h0
  have H : ∀ k : Nat, k ≤ 255 → (dd k).length ≤ 3 := by decide +kernel
  exact H k (by omega)
theorem itoa_is (n : Int) (d : List UInt8) (w : World) (h0 : 0 ≤ n) (h1 : n ≤ 9223372036854775807) (hd : dd n = d) (ht : Tab w) :
    Calls Tryd.prog 37 #[.int .i64 n] w fun e w' => e = .returned (.string (str d)) ∧ Gr w w' := by
  rw [← hd]; exact itoa_any n w h0 h1 ht
theorem format_any (a : Int) (w : World) (h0 : 0 ≤ a) (h1 : a < 4294967296) (ht : Tab w) :
    Calls Tryd.prog 15 #[.int .u32 a] w fun e w' => e = .returned (.string (str (fmtA a))) ∧ Gr w w' := by
  have l1 := dd_len (a / 16777216) (by omega) (by omega)
  have l2 := dd_len (a / 65536 % 256) (by omega) (by omega)
  have l3 := dd_len (a / 256 % 256) (by omega) (by omega)
  have l4 := dd_len (a % 256) (by omega) (by omega)
  have HF : fmtA a = dd (a / 16777216) ++ (46 :: dd (a / 65536 % 256)) ++ (46 :: dd (a / 256 % 256)) ++ (46 :: dd (a % 256)) := rfl
  generalize hd1 : dd (a / 16777216) = d1 at *
  generalize hd2 : dd (a / 65536 % 256) = d2 at *
  generalize hd3 : dd (a / 256 % 256) = d3 at *
  generalize hd4 : dd (a % 256) = d4 at *
  have r1 := add_c 46 d2 (by omega)
  have r2 := add_c 46 d3 (by omega)
  have r3 := add_c 46 d4 (by omega)
  have s1 := add_str d1 (46 :: d2) (by simp; omega)
  have s2 := add_str (d1 ++ 46 :: d2) (46 :: d3) (by simp; omega)
  have s3 := add_str (d1 ++ 46 :: (d2 ++ 46 :: d3)) (46 :: d4) (by simp; omega)
  have HF2 := Lib.hid HF
  have Hd1 := Lib.hid hd1
  have Hd2 := Lib.hid hd2
  have Hd3 := Lib.hid hd3
  have Hd4 := Lib.hid hd4
  have Ht := Lib.hid ht
  clear ht HF hd1 hd2 hd3 hd4 l1 l2 l3 l4
  have q0 : 0 ≤ a / 16777216 := by omega
  have q1 : a / 16777216 ≤ 255 := by omega
  have e1 := and255_u32 (a / 65536) (by omega) (by omega)
  have e2 := and255_u32 (a / 256) (by omega) (by omega)
  have e3 := and255_u32 a (by omega) (by omega)
  go_enter Tryd.func15, Tryd.ntmps15
  go_wp2_with (go_at_call 37; refine (itoa_is _ d1 _ ?_ ?_ Hd1.out Ht.out).mono ?_; omega; omega; rintro e w1 ⟨rfl, hg1⟩)
  refine wp_loop_rounds 4 ?_
  rw [rounds_succ]
  go_wp2_with (go_at_call 37; refine (itoa_is _ d2 _ ?_ ?_ Hd2.out ?_).mono ?_; omega; omega; (exact Tab.gr Ht.out (by repeat' (first | (with_reducible exact Gr.refl _) | (with_reducible assumption) | (with_reducible refine Gr.drewN ?_ _) | (with_reducible refine Gr.drew ?_) | (with_reducible refine Gr.alloc ?_ _) | (with_reducible refine Gr.setCell ?_ ?_ _) | (with_reducible refine Gr.grow ?_ _ _) | (refine Gr.step ?_ (by with_reducible assumption)) | go_size))); rintro e w2 ⟨rfl, hg2⟩)
  rw [rounds_succ]
  go_wp2_with (go_at_call 37; refine (itoa_is _ d3 _ ?_ ?_ Hd3.out ?_).mono ?_; omega; omega; (exact Tab.gr Ht.out (by repeat' (first | (with_reducible exact Gr.refl _) | (with_reducible assumption) | (with_reducible refine Gr.drewN ?_ _) | (with_reducible refine Gr.drew ?_) | (with_reducible refine Gr.alloc ?_ _) | (with_reducible refine Gr.setCell ?_ ?_ _) | (with_reducible refine Gr.grow ?_ _ _) | (refine Gr.step ?_ (by with_reducible assumption)) | go_size))); rintro e w3 ⟨rfl, hg3⟩)
  rw [rounds_succ]
  go_wp2_with (go_at_call 37; refine (itoa_is _ d4 _ ?_ ?_ Hd4.out ?_).mono ?_; omega; omega; (exact Tab.gr Ht.out (by repeat' (first | (with_reducible exact Gr.refl _) | (with_reducible assumption) | (with_reducible refine Gr.drewN ?_ _) | (with_reducible refine Gr.drew ?_) | (with_reducible refine Gr.alloc ?_ _) | (with_reducible refine Gr.setCell ?_ ?_ _) | (with_reducible refine Gr.grow ?_ _ _) | (refine Gr.step ?_ (by with_reducible assumption)) | go_size))); rintro e w4 ⟨rfl, hg4⟩)
  rw [rounds_succ]
  go_wp2
  go_ret
  refine ⟨by rw [HF2.out]; simp, (by repeat' (first | (with_reducible exact Gr.refl _) | (with_reducible assumption) | (with_reducible refine Gr.drewN ?_ _) | (with_reducible refine Gr.drew ?_) | (with_reducible refine Gr.alloc ?_ _) | (with_reducible refine Gr.setCell ?_ ?_ _) | (with_reducible refine Gr.grow ?_ _ _) | (refine Gr.step ?_ (by with_reducible assumption)) | go_size))⟩
end Go.Proofs.YtoaboflepfmkpaaDoor
