/- The walk of the statement on texts. -/
import Derived.Test.YtgfgfgmdcicdcaaDoorNtx
import Derived.Test.YtgfgfgmdcicdcaaDoorNpr
import Derived.WalkKit
import Derived.WalkSpells
import Derived.WalkLawsBesides
import Derived.WalkSmall
import Derived.Handy
import Derived.BigQuiet
import Derived.Deep.QuietTactic
import Derived.Deep.RegionHeld3
import Derived.Deep.DeepFit
import Derived.Below
import Derived.Lib.Hide
import Derived.Lib.QuietBelow
namespace Go.Proofs.YtgfgfgmdcicdcaaDoor
open Go Go.RowKit Go.Sort
set_option maxRecDepth 100000
theorem same_no {A B : Nat} {p q : Nat → Prop} (va vb : Value) (w : World) (hA : Rd p w va (nd A)) (hB : Rd q w vb (nd B)) (hne : A ≠ B) (hl : (nd A).length ≤ 1000000) :
    Calls Tryd.prog 9 #[va, vb] w fun e w' => e = .returned (.bool false) ∧ Gr w w' := by
  obtain ⟨aa, acap, rfl, -, -, hA⟩ := hA
  obtain ⟨ab, bcap, rfl, -, -, hB⟩ := hB
  have HA := Lib.hid hA
  have HB := Lib.hid hB
  have HNE := Lib.hid hne
  clear hA hB hne
  by_cases hL : (nd A).length = (nd B).length
  · have HL := Lib.hid hL
    have d : (((nd A).length : Int) != ((nd B).length : Int)) = false := by simp [hL]
    clear hL
    go_enter Tryd.func9, Tryd.ntmps9
    go_wp2
    go_loopw [5] (fun s wr => ∃ k : Nat, s = .int .i64 k ∧ k ≤ (nd A).length ∧ (∀ i, i < k → (nd A).getD i 0 = (nd B).getD i 0) ∧ Gr w wr) (fun s _ => (nd A).length - (intOf s).toNat)
    case atStart => exact ⟨0, rfl, Nat.zero_le _, fun i hi => by omega, Gr.refl _⟩
    case round =>
      obtain ⟨k, rfl, hk, he, hg⟩ := hrel
      have HE := Lib.hid he
      clear he
      by_cases hlt : k < (nd A).length
      · obtain ⟨ba, oa, rfl, -, ha⟩ := HA.out k hlt
        obtain ⟨bb, ob, rfl, -, hb⟩ := HB.out k (by rw [← HL.out]; exact hlt)
        have ha2 : wr.cell? ⟨ba, oa + k, none⟩ = some (.int .i64 ((nd A).getD k 0 : Nat)) := by rw [(Gr.cells hg).1 _ _ (World.block_lt_of_cell? _ _ ha)]; exact ha
        have hb2 : wr.cell? ⟨bb, ob + k, none⟩ = some (.int .i64 ((nd B).getD k 0 : Nat)) := by rw [(Gr.cells hg).1 _ _ (World.block_lt_of_cell? _ _ hb)]; exact hb
        have k2 : k < (nd B).length := by rw [← HL.out]; exact hlt
        clear ha hb
        by_cases hxy : (nd A).getD k 0 = (nd B).getD k 0
        · have HXY := Lib.hid hxy
          rw [← hxy] at hb2
          clear hxy
          generalize (nd A).getD k 0 = x at ha2 hb2
          have d2 : ((x : Int) != (x : Int)) = false := by simp
          have k0 : (0 : Int) ≤ (k : Int) := by omega
          have k1 : (k : Int) < ((nd A).length : Int) := by omega
          have k3 : (k : Int) < ((nd B).length : Int) := by omega
          go_wp2_with fail
          go_quiet (fail)
          go_wp2_with fail
          go_roundw
          case rel =>
            refine ⟨k + 1, by go_num, by omega, fun i hi => ?_, (by repeat' (first | (with_reducible exact Gr.refl _) | (with_reducible assumption) | (with_reducible refine Gr.drewN ?_ _) | (with_reducible refine Gr.drew ?_) | (with_reducible refine Gr.alloc ?_ _) | (with_reducible refine Gr.setCell ?_ ?_ _) | (with_reducible refine Gr.grow ?_ _ _) | (refine Gr.step ?_ (by with_reducible assumption)) | go_size))⟩
            rcases Nat.lt_or_ge i k with h | h
            · exact HE.out i h
            · obtain rfl : i = k := by omega
              exact HXY.out
          case measure => simp [intOf]; omega
        · generalize (nd A).getD k 0 = x at ha2 hxy
          generalize (nd B).getD k 0 = y at hb2 hxy
          have d2 : ((x : Int) != (y : Int)) = true := by simp; omega
          have k0 : (0 : Int) ≤ (k : Int) := by omega
          have k1 : (k : Int) < ((nd A).length : Int) := by omega
          have k3 : (k : Int) < ((nd B).length : Int) := by omega
          clear hxy
          go_wp2_with fail
          go_quiet (fail)
          go_wp2_with fail
          go_ret
          exact ⟨rfl, (by repeat' (first | (with_reducible exact Gr.refl _) | (with_reducible assumption) | (with_reducible refine Gr.drewN ?_ _) | (with_reducible refine Gr.drew ?_) | (with_reducible refine Gr.alloc ?_ _) | (with_reducible refine Gr.setCell ?_ ?_ _) | (with_reducible refine Gr.grow ?_ _ _) | (refine Gr.step ?_ (by with_reducible assumption)) | go_size))⟩
      · exact absurd (nd_ext HL.out fun i hi => HE.out i (by omega)) HNE.out
  · have d : (((nd A).length : Int) != ((nd B).length : Int)) = true := by simp; omega
    go_enter Tryd.func9, Tryd.ntmps9
    go_wp2
    go_ret
    exact ⟨rfl, Gr.refl _⟩
theorem text_nought (v : Value) (w : World) (hN : Num w v 0) :
    Calls Tryd.prog 7 #[v] w fun e w' => e = .returned (.string (str (Lib.decDigits 0))) ∧ Gr w w' := by
  have hV := Lib.hid (num_valid hN (by rw [nd_zero]; simp))
  unfold Num at hN
  rw [nd_zero] at hN
  obtain ⟨a, c, rfl, -, -, -⟩ := hN
  have e0 : str (Lib.decDigits 0) = ⟨#[48]⟩ := by rw [dd_one (by omega)]; rfl
  rw [e0]
  go_enter Tryd.func7, Tryd.ntmps7
  go_wp2_with fail
  refine hV.out.mono ?_
  rintro e w' ⟨rfl, rfl⟩
  go_wp2_with fail
  go_ret
  exact ⟨rfl, Gr.refl _⟩
theorem text_full {N : Nat} (v : Value) (w : World) (hN : Num w v N) (hl : (nd N).length ≤ 256) (ht : Tab w) :
    Calls Tryd.prog 7 #[v] w fun e w' => e = .returned (.string (str (Lib.decDigits N))) ∧ Gr w w' := by
  rcases Nat.eq_zero_or_pos N with rfl | h0
  · exact text_nought v w hN
  · exact text_any v w hN h0 hl ht
theorem dd_pos (N : Nat) : 0 < (Lib.decDigits N).length := by rw [Lib.decDigits_length]; exact Lib.nDigits_pos N
theorem dd_short {N k : Nat} (hN : (nd N).length ≤ k) (hk : 0 < k) : (Lib.decDigits N).length ≤ 10 * k := by
  rw [nd_len] at hN
  have h2 : (1073741824 : Nat) ^ k ≤ (10 ^ 10) ^ k := Nat.pow_le_pow_left (by decide) k
  rw [← Nat.pow_mul] at h2
  rw [Lib.decDigits_length]
  exact (pd_digits (10 * k) N (Nat.lt_of_lt_of_le hN h2) (by omega)).1
theorem isText_dd (N : Nat) (hl : (Lib.decDigits N).length ≤ 1000000) (w : World) :
    Calls Tryd.prog 22 #[.string (str (Lib.decDigits N))] w fun e w' => e = .returned (.bool true) ∧ w = w' := by
  rcases Nat.eq_zero_or_pos N with rfl | h0
  · exact isText_nought _ w (by rw [str_data, dd_one (by omega)]; rfl)
  · have hs := str_size (Lib.decDigits N)
    have hp := dd_pos N
    refine isText_yes _ w (by rw [str_data]; exact digs_dd N) (by omega) (by omega) ?_
    obtain ⟨c, l, e, hc⟩ := dd_lead h0
    have e2 : (str (Lib.decDigits N)).data.toList[0]'(by rw [str_data]; exact hp) = (str (Lib.decDigits N))[0]'(by omega) := rfl
    rw [← e2]
    simp only [str_data, e, List.getElem_cons_zero]
    intro h
    rw [beq_eq_false_iff_ne] at hc
    exact hc (UInt8.toNat_inj.1 (by show c.toNat = 48; omega))
theorem parse_dd {N : Nat} (w : World) (hN : (nd N).length ≤ 20) :
    Calls Tryd.prog 8 #[.string (str (Lib.decDigits N))] w fun e w' => ∃ v, e = .returned (.tuple #[v, .int .i64 0]) ∧ Num w' v N ∧ Gr w w' := by
  have hs := dd_short hN (by omega)
  have := parse_ok (Lib.decDigits N) w (digs_dd N) (by omega) (isText_dd N (by omega))
  rw [nval_digits] at this
  refine this.mono ?_
  rintro e w' ⟨v, er, rfl, ⟨-, rfl, hn⟩ | ⟨hf, -⟩, hg⟩
  · exact ⟨v, rfl, hn, hg⟩
  · omega
theorem parse_lead (l : List UInt8) (w : World) (h0 : 0 < l.length) (hl : l.length ≤ 1000000) :
    Calls Tryd.prog 8 #[.string (str (48 :: l))] w fun e w' => e = .returned (.tuple #[.slice none 0 0, .int .i64 2]) ∧ w = w' := by
  have hs := str_size (48 :: l)
  rw [List.length_cons] at hs
  have hi := isText_lead (str (48 :: l)) w (by omega) (by omega) (by
    have e2 : (str (48 :: l)).data.toList[0]'(by rw [str_data]; simp) = (str (48 :: l))[0]'(by omega) := rfl
    rw [← e2]; simp [str_data])
  have HI := Lib.hid hi
  clear hi
  go_enter Tryd.func8, Tryd.ntmps8
  go_wp2_with fail
  refine HI.out.mono ?_
  rintro e w' ⟨rfl, rfl⟩
  go_wp2_with fail
  go_ret2
  exact ⟨rfl, rfl⟩
end Go.Proofs.YtgfgfgmdcicdcaaDoor
