/- Strings as lists of bytes; the table that strconv.Itoa reads; the library's functions of strings. -/
import Derived.Test.YtikkobmccagdlaaGreatDoorGr
import Derived.Test.YtikkobmccagdlaaGreatDoorText
import Derived.Test.YtikkobmccagdlaaGreatDoorShelf
import Derived.WalkKit
import Derived.WalkSpells
import Derived.WalkLawsBesides
import Derived.WalkSmall
import Derived.Handy
import Derived.BigQuiet
import Derived.Deep.QuietTactic
import Derived.Deep.RegionHeld3
import Derived.Deep.DeepFit
import Derived.Below
import Derived.Lib.Hide
import Derived.Lib.QuietBelow
import Derived.Lib.Repeat
namespace Go.Proofs.YtikkobmccagdlaaGreatDoor
open Go Go.RowKit Go.Sort
set_option maxRecDepth 100000
set_option linter.unusedVariables false
def str (l : List UInt8) : ByteArray := ⟨l.toArray⟩
theorem str_data (l : List UInt8) : (str l).data.toList = l := by simp [str]
theorem str_size (l : List UInt8) : (str l).size = l.length := by rw [Lib.size_eq, str_data]
theorem str_of (s : ByteArray) : str s.data.toList = s := Lib.mk_data s
theorem str_ext (s : ByteArray) (a b : Nat) : s.extract a b = str ((s.data.toList.drop a).take (b - a)) := Lib.extract_eq s a b
theorem str_append (x y : List UInt8) : str x ++ str y = str (x ++ y) := by
  simp [str, ByteArray.ext_iff]
theorem str_inj {x y : List UInt8} (h : str x = str y) : x = y := by rw [← str_data x, h, str_data]
/-- concatenation, as the walk meets it -/
theorem add_str (x y : List UInt8) (h : x.length + y.length ≤ 9223372036854775807) (w : World) : (Op.stringOp .add (str x) (str y)).run Tryz.prog w = .ok (.string (str (x ++ y))) w := by
  exact (run_string_add_sum (P := Tryz.prog) (w := w) (str x) (str y) (by rw [str_size, str_size]; exact h)).trans (by rw [str_append])
/-- the table that strconv.Itoa reads -/
def Tab (w : World) : Prop := Lib.TabIs Tryz.prog w "internal/strconv.uint64pow10" .u64 Lib.pow10Tab
theorem Tab.gr {w w' : World} (h : Tab w) (g : Gr w w') : Tab w' := by
  have hg : Tryz.prog.globalNamed "internal/strconv.uint64pow10" = some 5 := by kernel_rfl
  have hb : 5 < w.heap.size := by
    have hc := Lib.TabIs.cell h hg 0 (by decide)
    exact World.block_lt_of_cell? w _ hc
  exact var?_below g hg hb h
theorem gr_grow (w : World) (os : Array Obj) : Gr w (Sort.grow w os) :=
  ⟨rfl, rfl, rfl, by simp [Sort.grow], fun k hk => by simp [Sort.grow, Array.getElem?_append, hk]⟩
theorem itoa_any (n : Int) (w : World) (h0 : 0 ≤ n) (h1 : n ≤ 9223372036854775807) (ht : Tab w) :
    Calls Tryz.prog 113 #[.int .i64 n] w fun e w' => e = .returned (.string (str (Lib.decDigits n.toNat))) ∧ Gr w w' := by
  refine (Tryz.strconv_Itoa n (by omega) h1 w ht).mono fun e w' ⟨he, hw⟩ => ?_
  obtain ⟨k, os, rfl⟩ := hw
  refine ⟨?_, ?_⟩
  · rw [he]
    have e : Lib.itoa n = Lib.decDigits n.toNat := by unfold Lib.itoa; rw [if_neg (by omega)]
    rw [e]; rfl
  · exact Gr.step (Gr.drewN (Gr.refl w) k) (gr_grow _ _)
end Go.Proofs.YtikkobmccagdlaaGreatDoor
