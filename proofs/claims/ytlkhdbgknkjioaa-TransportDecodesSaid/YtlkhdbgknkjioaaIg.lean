/- Grow, Clone and Concat of bytes. -/
import Derived.Test.YtlkhdbgknkjioaaWp
import Derived.WalkKit
import Derived.WalkSpells
import Derived.WalkLawsBesides
import Derived.WalkSmall
import Derived.Handy
import Derived.BigQuiet
import Derived.Deep.QuietTactic
import Derived.Deep.RegionHeld3
import Derived.Deep.DeepFit
import Derived.Below
import Derived.Lib.Hide
import Derived.Lib.QuietBelow
import Derived.Lib.AppendZeros
import Derived.Deep.DeepCutAuto
namespace Go.Proofs.Ytlkhdbgknkjioaa
open Go Go.RowKit Go.Sort
set_option maxRecDepth 100000
set_option linter.unusedVariables false
theorem owb_empty {w : World} {base g cap : Nat} {cur : Array Value} (hg : base ≤ g) (hh : w.heap[g]? = some (.cells cur 5 (0, 0))) (hc : cap ≤ maxLen) (hs : cur.size = cap) : OwB base w (.slice (some ⟨g, 0, none⟩) 0 cap) [] :=
  ⟨⟨by simp [cellsB], .inr ⟨g, cap, cur, rfl, hg, hh, Nat.zero_le _, hc, by rw [hs, Nat.mul_one], by simp [cellsB]⟩⟩, fun x h => by cases h⟩
theorem grow_nil (n : Nat) (w : World) (h0 : 0 < n) (hn : n ≤ 100000) :
    Calls Try.prog 88 #[.slice none 0 0, .int .i64 n] w fun e w' => ∃ g cap, e = .returned (.slice (some ⟨g, 0, none⟩) 0 cap) ∧ OwB w.heap.size w' (.slice (some ⟨g, 0, none⟩) 0 cap) [] ∧ Gr w w' := by
  obtain ⟨ti, hi1, hi2, hi3, hi4⟩ := byteInfoB
  have hr := fun ty => Lib.run_append_nil_zeros (P := Try.prog) w 22 3 ty 5 ti (.int .u8 0) .i64 .i64 Try.underlying22 Try.underlying3 hi1 hi2 n h0 (by omega) (by omega) (by rw [hi4]; omega)
  have hge := grownCap_ge w n 0 5
  have hle := grownCap_le_maxLen w n 0 5 (by unfold maxLen; omega)
  have hsz : (Builtin.zeroCells (Value.int .u8 0).cells n ++ Builtin.zeroCells (Value.int .u8 0).cells (grownCap w n 0 5 - n)).size = grownCap w n 0 5 := by
    simp only [Array.size_append, size_zeroCells, show (Value.int .u8 0).cells.size = 1 from rfl, Nat.mul_one]; omega
  have HO := Lib.hid (owb_empty (w := w.drew.alloc (.cells (Builtin.zeroCells (Value.int .u8 0).cells n ++ Builtin.zeroCells (Value.int .u8 0).cells (grownCap w n 0 5 - n)) 5)) (Nat.le_refl w.heap.size) (heap_alloc_new w.drew _) hle hsz)
  have HR := Lib.hid hr
  have HG := Lib.hid (Gr.alloc (Gr.drew (Gr.refl w)) (.cells (Builtin.zeroCells (Value.int .u8 0).cells n ++ Builtin.zeroCells (Value.int .u8 0).cells (grownCap w n 0 5 - n)) 5))
  clear hr hsz hle
  generalize w.drew.alloc (.cells (Builtin.zeroCells (Value.int .u8 0).cells n ++ Builtin.zeroCells (Value.int .u8 0).cells (grownCap w n 0 5 - n)) 5) = w1 at *
  generalize grownCap w n 0 5 = cap at *
  have d0 : decide ((n : Int) < 0) = false := by rw [decide_eq_false_iff_not]; omega
  have d1 : decide ((0 : Int) < (n : Int)) = true := by rw [decide_eq_true_eq]; omega
  go_enter Try.func88, Try.ntmps88
  go_wp2_with (at_builtin; refine Lib.wpList_append_run _ rfl _ _ _ _ rfl _ _ rfl rfl _ _ (HR.out _) ?_)
  go_ret
  exact ⟨_, _, rfl, HO.out, HG.out⟩
theorem clone_bytes {p : Nat → Prop} {v : Value} {l : List Nat} (w : World) (h : Rb p w v l) (hl : l.length ≤ 90000) :
    Calls Try.prog 65 #[v] w fun e w' => ∃ v', e = .returned v' ∧ OwB w.heap.size w' v' l ∧ Gr w w' := by
  obtain ⟨a, cap, rfl, hcap, hmx⟩ := h.form
  have hnil := fun (w : World) (a : Option Addr) (n c : Nat) => Lib.run_eql_slice_nil (P := Try.prog) w 22 5 a n c 0 0 Try.underlying22
  cases a with
  | none =>
    obtain rfl : l = [] := by
      cases l with
      | nil => rfl
      | cons x t => obtain ⟨b, off, e, -⟩ := h.at' (i := 0) (by simp); cases e
    go_enter Try.func65, Try.ntmps65
    go_wp2
    go_ret
    exact ⟨_, rfl, OwB.nil _ _, Gr.refl _⟩
  | some ad =>
    have HR := Lib.hid h
    have HO : Hid (OwB w.heap.size (w.alloc (.cells #[] 5)) (.slice (some ⟨w.heap.size, 0, none⟩) 0 0) []) := Lib.hid (owb_empty (Nat.le_refl _) (heap_alloc_new w _) (Nat.zero_le _) rfl)
    clear h
    go_enter Try.func65, Try.ntmps65
    go_wp2_with (at_builtin; refine wpList_app (base := w.heap.size) rfl (.tmp 5) (.tmp 6) rfl rfl HO.out rfl (HR.out.gr (Gr.alloc (Gr.refl _) _)) (by simp; omega) (by simp) ?_; intro v2 w2 ho2 g2)
    go_ret
    exact ⟨_, rfl, ho2, (Gr.alloc (Gr.refl _) _).grownNew g2 (fun k hk => by cases hk; exact Nat.le_refl _)⟩
theorem concat_two {p q : Nat → Prop} {v1 v2 : Value} {l1 l2 : List Nat} (g cap : Nat) (w : World) (h1 : Rb p w v1 l1) (h2 : Rb q w v2 l2) (hl1 : l1.length ≤ 40000) (hl2 : l2.length ≤ 40000) (h0 : 0 < l1.length)
    (hc1 : w.cell? ⟨g, 0, none⟩ = some v1) (hc2 : w.cell? ⟨g, 1, none⟩ = some v2) :
    Calls Try.prog 58 #[.slice (some ⟨g, 0, none⟩) 2 cap] w fun e w' => ∃ v', e = .returned v' ∧ OwB w.heap.size w' v' (l1 ++ l2) ∧ Gr w w' := by
  obtain ⟨a1, cap1, rfl, hcap1, hmx1⟩ := h1.form
  obtain ⟨a2, cap2, rfl, hcap2, hmx2⟩ := h2.form
  have H1 := Lib.hid h1
  have H2 := Lib.hid h2
  have HG := Lib.hid (fun w => grow_nil (l1.length + l2.length) w (by omega) (by omega))
  have hb := World.block_lt_of_cell? w _ hc1
  have c1 := fun w' (k : Gr w w') => ((Gr.cells k).1 g 0 hb).trans hc1
  have c2 := fun w' (k : Gr w w') => ((Gr.cells k).1 g 1 hb).trans hc2
  have C1 := Lib.hid c1
  have C2 := Lib.hid c2
  clear h1 h2 c1 c2 hb
  go_enter Try.func58, Try.ntmps58
  go_wp2
  go_loop [3, 11] (fun s i => (i = .int .i64 0 ∧ s = .int .i64 0) ∨ (i = .int .i64 1 ∧ s = .int .i64 (l1.length : Nat)) ∨ (i = .int .i64 2 ∧ s = .int .i64 (l1.length + l2.length : Nat))) (fun _ i => 2 - (intOf i).toNat)
  case atStart => exact .inl ⟨rfl, rfl⟩
  case round =>
    rcases hrel with ⟨rfl, rfl⟩ | ⟨rfl, rfl⟩ | ⟨rfl, rfl⟩
    · go_wp2
      go_round
      case rel => exact .inr (.inl ⟨by go_num, by go_num⟩)
      case measure => simp [intOf]
    · have d1 : decide ((l1.length : Int) + (l2.length : Int) < 0) = false := by rw [decide_eq_false_iff_not]; omega
      go_wp2
      go_round
      case rel => exact .inr (.inr ⟨by go_num, by go_num⟩)
      case measure => simp [intOf]
    · go_wp2_with (go_at_call 88; refine (HG.out _).mono ?_; rintro e w1 ⟨g1, k1, rfl, ho, hg⟩)
      have HO := Lib.hid ho
      have HGR := Lib.hid hg
      clear ho hg hc1 hc2 HG
      go_loopw [6, 27] (fun s i wr => Gr w wr ∧ ((i = .int .i64 0 ∧ OwB w.heap.size wr s []) ∨ (i = .int .i64 1 ∧ OwB w.heap.size wr s l1) ∨ (i = .int .i64 2 ∧ OwB w.heap.size wr s (l1 ++ l2)))) (fun _ i _ => 2 - (intOf i).toNat)
      case atStart => exact ⟨HGR.out, .inl ⟨rfl, HO.out⟩⟩
      case round =>
        obtain ⟨hgr, hrel⟩ := hrel
        have hsz := Gr.size hgr
        have k1 := C1.out _ hgr
        have k2 := C2.out _ hgr
        rcases hrel with ⟨rfl, ho⟩ | ⟨rfl, ho⟩ | ⟨rfl, ho⟩
        · have HO := Lib.hid ho
          clear ho
          go_wp2_with (at_builtin; refine wpList_app (base := w.heap.size) rfl (.tmp 31) (.tmp 32) rfl rfl HO.out rfl (H1.out.gr hgr) (by simp; omega) hsz ?_; intro v2 w2 ho2 g2; have hG2 : Gr w w2 := hgr.grownNew g2 HO.out.above; clear g2)
          go_roundw
          case rel => exact ⟨hG2, .inr (.inl ⟨by go_num, ho2⟩)⟩
          case measure => simp [intOf]
        · have HO := Lib.hid ho
          clear ho
          go_wp2_with (at_builtin; refine wpList_app (base := w.heap.size) rfl (.tmp 31) (.tmp 32) rfl rfl HO.out rfl (H2.out.gr hgr) (by omega) hsz ?_; intro v2 w2 ho2 g2; have hG2 : Gr w w2 := hgr.grownNew g2 HO.out.above; clear g2)
          go_roundw
          case rel => exact ⟨hG2, .inr (.inr ⟨by go_num, ho2⟩)⟩
          case measure => simp [intOf]
        · go_wp2
          go_ret
          exact ⟨_, rfl, ho, hgr⟩
end Go.Proofs.Ytlkhdbgknkjioaa
