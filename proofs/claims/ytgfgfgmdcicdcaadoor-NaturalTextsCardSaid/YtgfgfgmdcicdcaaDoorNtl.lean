/- The walk of the statement on texts. -/
import Derived.Test.YtgfgfgmdcicdcaaDoorNtw
import Derived.Test.YtgfgfgmdcicdcaaDoorNdr
import Derived.WalkKit
import Derived.WalkSpells
import Derived.WalkLawsBesides
import Derived.WalkSmall
import Derived.Handy
import Derived.BigQuiet
import Derived.Deep.QuietTactic
import Derived.Deep.RegionHeld3
import Derived.Deep.DeepFit
import Derived.Below
import Derived.Lib.Hide
import Derived.Lib.QuietBelow
import Derived.Deep.DeepCutAuto
namespace Go.Proofs.YtgfgfgmdcicdcaaDoor
open Go Go.RowKit Go.Sort
set_option maxRecDepth 100000
set_option maxHeartbeats 4000000 in
theorem texts_walk (sv : Value) (len : Nat) (w : World) (ht : Tab w) (hl : len ≤ 9223372036854775807) (hb : BytesV w.heap.size w sv len) :
    Calls Tryd.prog 3 #[sv] w fun e w' => e = .returned (.bool true) ∧ Gr w w' := by
  have HT := Lib.hid ht
  clear ht
  go_enter Tryd.func3, Tryd.ntmps3
  go_wp2_with (go_at_call 4; refine (awake_any _).mono ?_; rintro e w1 ⟨rfl, hg1⟩)
  refine (new_any sv len 200 _ (by omega) hl (hb.gr hg1)).mono ?_
  rintro e w2 ⟨b, rfl, hbe, hc2, hg2⟩
  have hbw : w.heap.size ≤ b := by have := Gr.size hg1; omega
  have hG2 : Gr w w2 := (by repeat' (first | (with_reducible exact Gr.refl _) | (with_reducible assumption) | (with_reducible refine Gr.drewN ?_ _) | (with_reducible refine Gr.drew ?_) | (with_reducible refine Gr.alloc ?_ _) | (with_reducible refine Gr.setCell ?_ ?_ _) | (with_reducible refine Gr.grow ?_ _ _) | (refine Gr.step ?_ (by with_reducible assumption)) | go_size))
  clear hbe hg1 hg2 hb
  go_wp2_with fail
  refine (nat_any b 20 _ hc2 (Gr.size hG2) (by omega)).mono ?_
  rintro e w3 ⟨vx, X, rfl, hx3, lx, hc3, he3⟩
  have hG3 : Gr w w3 := Ex.gr hG2 hbw he3
  go_wp2_with fail
  refine (nat_any b 20 _ hc3 (Gr.size hG3) (by omega)).mono ?_
  rintro e w4 ⟨vy, Y, rfl, hy4, ly, hc4, he4⟩
  have hG : Gr w w4 := Ex.gr hG3 hbw he4
  have hx := (hx3.ex he4).any
  have hy := hy4.any
  clear hG2 hG3 he3 he4 hc2 hc3 hc4 hx3 hy4
  go_wp2_with fail
  refine (text_full (N := X) vx _ hx (by omega) (HT.out.gr hG)).mono ?_
  rintro e w5 ⟨rfl, hg⟩
  have hx := Num.gr hx hg
  have hy := Num.gr hy hg
  have hG := hG.step hg
  clear hg
  go_wp2_with fail
  refine (text_full (N := Y) vy _ hy (by omega) (HT.out.gr hG)).mono ?_
  rintro e w6 ⟨rfl, hg⟩
  have hx := Num.gr hx hg
  have hy := Num.gr hy hg
  have hG := hG.step hg
  clear hg
  go_wp2_with fail
  refine (parse_dd (N := X) _ lx).mono ?_
  rintro e w7 ⟨vz, rfl, hz, hg⟩
  have hx := Num.gr hx hg
  have hy := Num.gr hy hg
  have hG := hG.step hg
  clear hg
  go_wp2_with fail
  refine (num_same (A := X) (B := X) vz vx _ hz hx rfl (by omega)).mono ?_
  rintro e w8 ⟨rfl, hg⟩
  have hx := Num.gr hx hg
  have hy := Num.gr hy hg
  have hG := hG.step hg
  clear hg
  have ls := dd_short lx (by omega)
  have lt := dd_short ly (by omega)
  have ps := dd_pos X
  have hadd := add_str [48] (Lib.decDigits X) (by simp; omega)
  have HLL := Lib.hid (show (Lib.decDigits Y).length < (Lib.decDigits X).length → Y < X from dd_len_lt)
  have hadd : ∀ w : World, (Op.stringOp .add ⟨#[48]⟩ (str (Lib.decDigits X))).run Tryd.prog w = .ok (.string (str (48 :: Lib.decDigits X))) w := hadd
  have hi : X ≠ Y → Lib.decDigits X ≠ Lib.decDigits Y := fun h e => h (dd_inj e)
  have HI := Lib.hid hi
  have hpl := fun w => parse_lead (Lib.decDigits X) w ps (by omega)
  have HPL := Lib.hid hpl
  have HXY := Lib.hid (show X = Y → Lib.decDigits X = Lib.decDigits Y from fun h => by rw [h])
  clear hi hpl ls lt
  generalize Lib.decDigits X = x at *
  generalize Lib.decDigits Y = y at *
  have sx : (str x).size = x.length := str_size x
  have sy : (str y).size = y.length := str_size y
  go_wp2_with fail
  refine (HPL.out _).mono ?_
  rintro e w9 ⟨rfl, rfl⟩
  by_cases hXY : X = Y
  · obtain rfl := HXY.out hXY
    subst hXY
    have hle : decide (x.length ≤ x.length) = true := by simp
    go_wp2_with fail
    refine (num_same (A := X) (B := X) vx vy _ hx hy rfl (by omega)).mono ?_
    rintro e w10 ⟨rfl, hg⟩
    go_wp2_with fail
    go_ret
    exact ⟨rfl, hG.step hg⟩
  · have HNE := Lib.hid hXY
    have q1 : ((str x).toList == (str y).toList) = false := by
      rw [beq_eq_false_iff_ne, Lib.toList_data, Lib.toList_data, str_data, str_data]; exact HI.out hXY
    clear hXY
    by_cases hle : x.length ≤ y.length
    · have d1 : decide (x.length ≤ y.length) = true := by simpa using hle
      go_wp2_with fail
      refine (same_no (A := X) (B := Y) vx vy _ hx hy HNE.out (by omega)).mono ?_
      rintro e w11 ⟨rfl, hg⟩
      go_wp2_with fail
      go_ret
      exact ⟨rfl, hG.step hg⟩
    · have d1 : decide (x.length ≤ y.length) = false := by simpa using hle
      have hlt := HLL.out (by omega)
      have HLT := Lib.hid (ncmp_gt hlt)
      clear hlt
      go_wp2_with fail
      refine (cmp_any (A := X) (B := Y) vx vy _ hx hy (by omega)).mono ?_
      rintro e w10 ⟨rfl, hg⟩
      have hx := Num.gr hx hg
      have hy := Num.gr hy hg
      have hG := hG.step hg
      clear hg
      rw [HLT.out]
      go_wp2_with fail
      refine (same_no (A := X) (B := Y) vx vy _ hx hy HNE.out (by omega)).mono ?_
      rintro e w11 ⟨rfl, hg⟩
      go_wp2_with fail
      go_ret
      exact ⟨rfl, hG.step hg⟩
end Go.Proofs.YtgfgfgmdcicdcaaDoor
