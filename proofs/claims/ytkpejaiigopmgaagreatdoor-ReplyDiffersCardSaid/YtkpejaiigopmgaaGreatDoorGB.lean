/- Several texts in one. -/
import Derived.Test.YtkpejaiigopmgaaGreatDoorGA
import Derived.WalkKit
import Derived.WalkSpells
import Derived.WalkLawsBesides
import Derived.WalkSmall
import Derived.Handy
import Derived.BigQuiet
import Derived.Deep.QuietTactic
import Derived.Deep.RegionHeld3
import Derived.Deep.DeepFit
import Derived.Below
import Derived.Lib.Hide
import Derived.Lib.QuietBelow
import Derived.Lib.AppendZeros
import Derived.Deep.DeepCutAuto
/- Grow, Clone and Concat of bytes. -/
namespace Go.Proofs.YtkpejaiigopmgaaGreatDoor
open Go Go.RowKit Go.Sort
set_option maxRecDepth 100000
set_option linter.unusedVariables false
theorem owb_empty {w : World} {base g cap : Nat} {cur : Array Value} (hg : base ≤ g) (hh : w.heap[g]? = some (.cells cur 5 (0, 0))) (hc : cap ≤ maxLen) (hs : cur.size = cap) : OwB base w (.slice (some ⟨g, 0, none⟩) 0 cap) [] :=
  ⟨⟨by simp [cellsB], .inr ⟨g, cap, cur, rfl, hg, hh, Nat.zero_le _, hc, by rw [hs, Nat.mul_one], by simp [cellsB]⟩⟩, fun x h => by cases h⟩
theorem grow_nil (n : Nat) (w : World) (h0 : 0 < n) (hn : n ≤ 100000) :
    Calls Tryz.prog 88 #[.slice none 0 0, .int .i64 n] w fun e w' => ∃ g cap, e = .returned (.slice (some ⟨g, 0, none⟩) 0 cap) ∧ OwB w.heap.size w' (.slice (some ⟨g, 0, none⟩) 0 cap) [] ∧ Gr w w' := by
  obtain ⟨ti, hi1, hi2, hi3, hi4⟩ := byteInfoB
  have hr := fun ty => Lib.run_append_nil_zeros (P := Tryz.prog) w 22 3 ty 5 ti (.int .u8 0) .i64 .i64 Tryz.underlying22 Tryz.underlying3 hi1 hi2 n h0 (by omega) (by omega) (by rw [hi4]; omega)
  have hge := grownCap_ge w n 0 5
  have hle := grownCap_le_maxLen w n 0 5 (by unfold maxLen; omega)
  have hsz : (Builtin.zeroCells (Value.int .u8 0).cells n ++ Builtin.zeroCells (Value.int .u8 0).cells (grownCap w n 0 5 - n)).size = grownCap w n 0 5 := by
    simp only [Array.size_append, size_zeroCells, show (Value.int .u8 0).cells.size = 1 from rfl, Nat.mul_one]; omega
  have HO := Lib.hid (owb_empty (w := w.drew.alloc (.cells (Builtin.zeroCells (Value.int .u8 0).cells n ++ Builtin.zeroCells (Value.int .u8 0).cells (grownCap w n 0 5 - n)) 5)) (Nat.le_refl w.heap.size) (heap_alloc_new w.drew _) hle hsz)
  have HR := Lib.hid hr
  have HG := Lib.hid (Gr.alloc (Gr.drew (Gr.refl w)) (.cells (Builtin.zeroCells (Value.int .u8 0).cells n ++ Builtin.zeroCells (Value.int .u8 0).cells (grownCap w n 0 5 - n)) 5))
  clear hr hsz hle
  generalize w.drew.alloc (.cells (Builtin.zeroCells (Value.int .u8 0).cells n ++ Builtin.zeroCells (Value.int .u8 0).cells (grownCap w n 0 5 - n)) 5) = w1 at *
  generalize grownCap w n 0 5 = cap at *
  have d0 : decide ((n : Int) < 0) = false := by rw [decide_eq_false_iff_not]; omega
  have d1 : decide ((0 : Int) < (n : Int)) = true := by rw [decide_eq_true_eq]; omega
  go_enter Tryz.func88, Tryz.ntmps88
  go_wp2_with (at_builtin; refine Lib.wpList_append_run _ rfl _ _ _ _ rfl _ _ rfl rfl _ _ (HR.out _) ?_)
  go_ret
  exact ⟨_, _, rfl, HO.out, HG.out⟩
theorem clone_bytes {p : Nat → Prop} {v : Value} {l : List Nat} (w : World) (h : Rb p w v l) (hl : l.length ≤ 90000) :
    Calls Tryz.prog 51 #[v] w fun e w' => ∃ v', e = .returned v' ∧ OwB w.heap.size w' v' l ∧ Gr w w' := by
  obtain ⟨a, cap, rfl, hcap, hmx⟩ := h.form
  have hnil := fun (w : World) (a : Option Addr) (n c : Nat) => Lib.run_eql_slice_nil (P := Tryz.prog) w 22 5 a n c 0 0 Tryz.underlying22
  cases a with
  | none =>
    obtain rfl : l = [] := by
      cases l with
      | nil => rfl
      | cons x t => obtain ⟨b, off, e, -⟩ := h.at' (i := 0) (by simp); cases e
    go_enter Tryz.func51, Tryz.ntmps51
    go_wp2
    go_ret
    exact ⟨_, rfl, OwB.nil _ _, Gr.refl _⟩
  | some ad =>
    have HR := Lib.hid h
    have HO : Hid (OwB w.heap.size (w.alloc (.cells #[] 5)) (.slice (some ⟨w.heap.size, 0, none⟩) 0 0) []) := Lib.hid (owb_empty (Nat.le_refl _) (heap_alloc_new w _) (Nat.zero_le _) rfl)
    clear h
    go_enter Tryz.func51, Tryz.ntmps51
    go_wp2_with (at_builtin; refine wpList_app (base := w.heap.size) rfl (.tmp 5) (.tmp 6) rfl rfl HO.out rfl (HR.out.gr (Gr.alloc (Gr.refl _) _)) (by simp; omega) (by simp) ?_; intro v2 w2 ho2 g2)
    go_ret
    exact ⟨_, rfl, ho2, (Gr.alloc (Gr.refl _) _).grownNew g2 (fun k hk => by cases hk; exact Nat.le_refl _)⟩
theorem concat_two {p q : Nat → Prop} {v1 v2 : Value} {l1 l2 : List Nat} (g cap : Nat) (w : World) (h1 : Rb p w v1 l1) (h2 : Rb q w v2 l2) (hl1 : l1.length ≤ 40000) (hl2 : l2.length ≤ 40000) (h0 : 0 < l1.length)
    (hc1 : w.cell? ⟨g, 0, none⟩ = some v1) (hc2 : w.cell? ⟨g, 1, none⟩ = some v2) :
    Calls Tryz.prog 58 #[.slice (some ⟨g, 0, none⟩) 2 cap] w fun e w' => ∃ v', e = .returned v' ∧ OwB w.heap.size w' v' (l1 ++ l2) ∧ Gr w w' := by
  obtain ⟨a1, cap1, rfl, hcap1, hmx1⟩ := h1.form
  obtain ⟨a2, cap2, rfl, hcap2, hmx2⟩ := h2.form
  have H1 := Lib.hid h1
  have H2 := Lib.hid h2
  have HG := Lib.hid (fun w => grow_nil (l1.length + l2.length) w (by omega) (by omega))
  have hb := World.block_lt_of_cell? w _ hc1
  have c1 := fun w' (k : Gr w w') => ((Gr.cells k).1 g 0 hb).trans hc1
  have c2 := fun w' (k : Gr w w') => ((Gr.cells k).1 g 1 hb).trans hc2
  have C1 := Lib.hid c1
  have C2 := Lib.hid c2
  clear h1 h2 c1 c2 hb
  go_enter Tryz.func58, Tryz.ntmps58
  go_wp2
  go_loop [3, 11] (fun s i => (i = .int .i64 0 ∧ s = .int .i64 0) ∨ (i = .int .i64 1 ∧ s = .int .i64 (l1.length : Nat)) ∨ (i = .int .i64 2 ∧ s = .int .i64 (l1.length + l2.length : Nat))) (fun _ i => 2 - (intOf i).toNat)
  case atStart => exact .inl ⟨rfl, rfl⟩
  case round =>
    rcases hrel with ⟨rfl, rfl⟩ | ⟨rfl, rfl⟩ | ⟨rfl, rfl⟩
    · go_wp2
      go_round
      case rel => exact .inr (.inl ⟨by go_num, by go_num⟩)
      case measure => simp [intOf]
    · have d1 : decide ((l1.length : Int) + (l2.length : Int) < 0) = false := by rw [decide_eq_false_iff_not]; omega
      go_wp2
      go_round
      case rel => exact .inr (.inr ⟨by go_num, by go_num⟩)
      case measure => simp [intOf]
    · go_wp2_with (go_at_call 88; refine (HG.out _).mono ?_; rintro e w1 ⟨g1, k1, rfl, ho, hg⟩)
      have HO := Lib.hid ho
      have HGR := Lib.hid hg
      clear ho hg hc1 hc2 HG
      go_loopw [6, 27] (fun s i wr => Gr w wr ∧ ((i = .int .i64 0 ∧ OwB w.heap.size wr s []) ∨ (i = .int .i64 1 ∧ OwB w.heap.size wr s l1) ∨ (i = .int .i64 2 ∧ OwB w.heap.size wr s (l1 ++ l2)))) (fun _ i _ => 2 - (intOf i).toNat)
      case atStart => exact ⟨HGR.out, .inl ⟨rfl, HO.out⟩⟩
      case round =>
        obtain ⟨hgr, hrel⟩ := hrel
        have hsz := Gr.size hgr
        have k1 := C1.out _ hgr
        have k2 := C2.out _ hgr
        rcases hrel with ⟨rfl, ho⟩ | ⟨rfl, ho⟩ | ⟨rfl, ho⟩
        · have HO := Lib.hid ho
          clear ho
          go_wp2_with (at_builtin; refine wpList_app (base := w.heap.size) rfl (.tmp 31) (.tmp 32) rfl rfl HO.out rfl (H1.out.gr hgr) (by simp; omega) hsz ?_; intro v2 w2 ho2 g2; have hG2 : Gr w w2 := hgr.grownNew g2 HO.out.above; clear g2)
          go_roundw
          case rel => exact ⟨hG2, .inr (.inl ⟨by go_num, ho2⟩)⟩
          case measure => simp [intOf]
        · have HO := Lib.hid ho
          clear ho
          go_wp2_with (at_builtin; refine wpList_app (base := w.heap.size) rfl (.tmp 31) (.tmp 32) rfl rfl HO.out rfl (H2.out.gr hgr) (by omega) hsz ?_; intro v2 w2 ho2 g2; have hG2 : Gr w w2 := hgr.grownNew g2 HO.out.above; clear g2)
          go_roundw
          case rel => exact ⟨hG2, .inr (.inr ⟨by go_num, ho2⟩)⟩
          case measure => simp [intOf]
        · go_wp2
          go_ret
          exact ⟨_, rfl, ho, hgr⟩
end Go.Proofs.YtkpejaiigopmgaaGreatDoor
/- Headers of packets as lists of bytes. -/
namespace Go.Proofs.YtkpejaiigopmgaaGreatDoor
open Go
set_option maxRecDepth 100000
set_option linter.unusedVariables false
/-- a header as plain numbers -/
structure Hd where
  tos : Nat
  id : Nat
  ttl : Nat
  proto : Nat
  keep : Bool
  src : Nat
  dst : Nat
structure Hd.ok (h : Hd) : Prop where
  tos : h.tos ≤ 255
  id : h.id ≤ 65535
  ttl : h.ttl ≤ 255
  proto : h.proto ≤ 255
  src : h.src < 4294967296
  dst : h.dst < 4294967296
def Hd.fl (h : Hd) : Nat := if h.keep then 16384 else 0
theorem Hd.fl_le (h : Hd) : h.fl ≤ 16384 := by unfold Hd.fl; split <;> omega
/-- the bytes of a header with this number in the place of the checksum -/
def hraw (h : Hd) (n s : Nat) : List Nat :=
  [69, h.tos, n / 256 % 256, n % 256, h.id / 256 % 256, h.id % 256, h.fl / 256 % 256, h.fl % 256, h.ttl, h.proto, s / 256 % 256, s % 256,
   h.src / 16777216 % 256, h.src / 65536 % 256, h.src / 256 % 256, h.src % 256, h.dst / 16777216 % 256, h.dst / 65536 % 256, h.dst / 256 % 256, h.dst % 256]
def hsum (h : Hd) (n : Nat) : Nat := 65535 - oc (wsum false (hraw h n 0))
def hbytes (h : Hd) (n : Nat) : List Nat := hraw h n (hsum h n)
theorem hraw_len (h : Hd) (n s : Nat) : (hraw h n s).length = 20 := rfl
theorem hbytes_len (h : Hd) (n : Nat) : (hbytes h n).length = 20 := rfl
theorem hsum_le (h : Hd) (n : Nat) : hsum h n ≤ 65535 := by unfold hsum; omega
theorem hraw_lt {h : Hd} (k : h.ok) (n s : Nat) : ∀ x ∈ hraw h n s, x < 256 := by
  have := k.tos; have := k.ttl; have := k.proto
  intro x hx
  simp only [hraw, List.mem_cons, List.not_mem_nil, or_false] at hx
  rcases hx with rfl | rfl | rfl | rfl | rfl | rfl | rfl | rfl | rfl | rfl | rfl | rfl | rfl | rfl | rfl | rfl | rfl | rfl | rfl | rfl <;> omega
theorem hbytes_lt {h : Hd} (k : h.ok) (n : Nat) : ∀ x ∈ hbytes h n, x < 256 := hraw_lt k n _
/-- the numbers of a header and their widths, in the order of writing -/
def hfields (h : Hd) (n : Nat) : List (Nat × Nat) := [(69, 1), (h.tos, 1), (n, 2), (h.id, 2), (h.fl, 2), (h.ttl, 1), (h.proto, 1), (0, 2), (h.src, 4), (h.dst, 4)]
def fput (l : List (Nat × Nat)) : List Nat := l.flatMap fun x => bput x.1 x.2
theorem fput_snoc (l : List (Nat × Nat)) (x : Nat × Nat) : fput (l ++ [x]) = fput l ++ bput x.1 x.2 := by simp [fput]
theorem fput_take (l : List (Nat × Nat)) {t : Nat} (h : t < l.length) : fput (l.take (t + 1)) = fput (l.take t) ++ bput (l.getD t (0, 0)).1 (l.getD t (0, 0)).2 := by
  rw [List.take_succ_eq_append_getElem h, fput_snoc, List.getD_eq_getElem?_getD, List.getElem?_eq_getElem h]; rfl
theorem fput_len (l : List (Nat × Nat)) : (fput l).length = (l.map (·.2)).sum := by
  induction l with
  | nil => rfl
  | cons x t ih => simp [fput, bput_len] at ih ⊢; try omega
theorem hfields_raw {h : Hd} (k : h.ok) (n : Nat) : fput (hfields h n) = hraw h n 0 := by
  have := k.tos; have := k.ttl; have := k.proto
  simp only [hfields, fput, List.flatMap_cons, List.flatMap_nil, bput, hraw, List.cons_append, List.nil_append, List.append_nil, Nat.pow_zero, Nat.div_one, Nat.zero_div, Nat.zero_mod]
  rw [Nat.mod_eq_of_lt (show h.tos < 256 by omega), Nat.mod_eq_of_lt (show h.ttl < 256 by omega), Nat.mod_eq_of_lt (show h.proto < 256 by omega)]
/-- the checksum in its place -/
theorem hraw_splice (h : Hd) (n s : Nat) : (hraw h n 0).take 10 ++ bput s 2 ++ (hraw h n 0).drop 12 = hraw h n s := by
  simp [hraw, bput]
/-- the number of k bytes at i -/
def gN (l : List Nat) (i k : Nat) : Nat := bnum ((l.drop i).take k)
/-- what is read at the beginning of bytes -/
def hdAt (l : List Nat) : Hd := ⟨gN l 1 1, gN l 4 2, gN l 8 1, gN l 9 1, decide (gN l 6 2 = 16384), gN l 12 4, gN l 16 4⟩
theorem gN_lt {l : List Nat} (h : ∀ x ∈ l, x < 256) (i k : Nat) : gN l i k < 256 ^ k :=
  bnum_lt (fun x hx => h x (List.mem_of_mem_drop hx)) k
theorem hdAt_ok {l : List Nat} (h : ∀ x ∈ l, x < 256) : (hdAt l).ok := by
  have h1 := gN_lt h 1 1; have h2 := gN_lt h 4 2; have h3 := gN_lt h 8 1; have h4 := gN_lt h 9 1; have h5 := gN_lt h 12 4; have h6 := gN_lt h 16 4
  simp only [Nat.reducePow] at h1 h2 h3 h4 h5 h6
  constructor <;> simp only [hdAt] <;> omega
/-- what Peek answers: 3, 2, 4 or 0 -/
def formOk (l : List Nat) : Prop := gN l 0 1 = 69 ∧ (gN l 6 2 = 0 ∨ gN l 6 2 = 16384) ∧ 20 ≤ gN l 2 2
instance (l : List Nat) : Decidable (formOk l) := by unfold formOk; infer_instance
def pkE (l : List Nat) : Nat := if l.length < 20 then 3 else if ¬ formOk l then 2 else if l.take 20 = hbytes (hdAt l) (gN l 2 2) then 0 else 4
theorem hdAt_raw {h : Hd} (k : h.ok) {n s : Nat} (hn : n < 65536) (m : List Nat) : hdAt (hraw h n s ++ m) = h ∧ gN (hraw h n s ++ m) 2 2 = n ∧ gN (hraw h n s ++ m) 0 1 = 69 ∧ gN (hraw h n s ++ m) 6 2 = h.fl := by
  have hf := h.fl_le
  have k1 := k.id; have k2 := k.src; have k3 := k.dst
  have e1 : ∀ a b : Nat, bnum [a, b] = a * 256 + b := fun a b => by simp [bnum]
  have e2 : ∀ a b c d : Nat, bnum [a, b, c, d] = ((a * 256 + b) * 256 + c) * 256 + d := fun a b c d => by simp [bnum]
  have e0 : ∀ a : Nat, bnum [a] = a := fun a => by simp [bnum]
  have d2 : ∀ x : Nat, x < 65536 → x / 256 % 256 * 256 + x % 256 = x := fun x hx => by omega
  have d4 : ∀ x : Nat, x < 4294967296 → ((x / 16777216 % 256 * 256 + x / 65536 % 256) * 256 + x / 256 % 256) * 256 + x % 256 = x := fun x hx => by omega
  have hfl : gN (hraw h n s ++ m) 6 2 = h.fl := by
    show bnum [h.fl / 256 % 256, h.fl % 256] = _
    rw [e1, d2 _ (by omega)]
  refine ⟨?_, ?_, ?_, hfl⟩
  · have a1 : gN (hraw h n s ++ m) 1 1 = h.tos := e0 _
    have a2 : gN (hraw h n s ++ m) 4 2 = h.id := (e1 _ _).trans (d2 _ (by omega))
    have a3 : gN (hraw h n s ++ m) 8 1 = h.ttl := e0 _
    have a4 : gN (hraw h n s ++ m) 9 1 = h.proto := e0 _
    have a5 : gN (hraw h n s ++ m) 12 4 = h.src := (e2 _ _ _ _).trans (d4 _ k2)
    have a6 : gN (hraw h n s ++ m) 16 4 = h.dst := (e2 _ _ _ _).trans (d4 _ k3)
    unfold hdAt
    rw [a1, a2, a3, a4, a5, a6, hfl]
    cases h with
    | mk tos id ttl proto keep src dst => cases keep <;> simp [Hd.fl]
  · exact (e1 _ _).trans (d2 _ hn)
  · exact e0 _
theorem hdAt_bytes {h : Hd} (k : h.ok) {n : Nat} (hn : n < 65536) (m : List Nat) : hdAt (hbytes h n ++ m) = h ∧ gN (hbytes h n ++ m) 2 2 = n := ⟨(hdAt_raw k hn m).1, (hdAt_raw k hn m).2.1⟩
theorem pkE_bytes {h : Hd} (k : h.ok) {n : Nat} (hn : n < 65536) (h20 : 20 ≤ n) (m : List Nat) : pkE (hbytes h n ++ m) = 0 := by
  obtain ⟨e1, e2, e3, e4⟩ := hdAt_raw (s := hsum h n) k hn m
  unfold pkE
  rw [if_neg (by rw [List.length_append, hbytes_len]; omega), if_neg, if_pos]
  · show List.take 20 (hbytes h n ++ m) = hbytes (hdAt (hraw h n (hsum h n) ++ m)) (gN (hraw h n (hsum h n) ++ m) 2 2)
    rw [e1, e2, List.take_append_of_le_length (by rw [hbytes_len]; exact Nat.le_refl _), List.take_of_length_le (by rw [hbytes_len]; exact Nat.le_refl _)]
  · intro hc
    refine hc ⟨e3, ?_, by show 20 ≤ gN (hraw h n (hsum h n) ++ m) 2 2; omega⟩
    show gN (hraw h n (hsum h n) ++ m) 6 2 = 0 ∨ gN (hraw h n (hsum h n) ++ m) 6 2 = 16384
    rw [e4]; unfold Hd.fl; split <;> simp
/-- the TTL lowered by 1 -/
def Hd.low (h : Hd) : Hd := { h with ttl := h.ttl - 1 }
theorem Hd.low_ok {h : Hd} (k : h.ok) : h.low.ok := ⟨k.tos, k.id, by have := k.ttl; simp only [Hd.low]; omega, k.proto, k.src, k.dst⟩
end Go.Proofs.YtkpejaiigopmgaaGreatDoor
