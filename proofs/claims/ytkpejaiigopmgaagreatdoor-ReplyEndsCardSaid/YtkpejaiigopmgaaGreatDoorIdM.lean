/- The package ipv4: Decode. -/
import Derived.Test.YtkpejaiigopmgaaGreatDoorIkM
import Derived.Test.YtkpejaiigopmgaaGreatDoorIeM
import Derived.WalkKit
import Derived.WalkSpells
import Derived.WalkLawsBesides
import Derived.WalkSmall
import Derived.Handy
import Derived.BigQuiet
import Derived.Deep.QuietTactic
import Derived.Deep.RegionHeld3
import Derived.Deep.DeepFit
import Derived.Below
import Derived.Lib.Hide
import Derived.Lib.QuietBelow
namespace Go.Proofs.YtkpejaiigopmgaaGreatDoor
open Go Go.RowKit Go.Sort
set_option maxRecDepth 100000
set_option linter.unusedVariables false
/-- a packet is stored -/
theorem CL.fill8 {w : World} {g : Nat} {x0 x1 x2 x3 x4 x5 x6 x7 : Value} (h : CL w g [x0, x1, x2, x3, x4, x5, x6, x7]) (a b c d e f i j : Value) :
    CL ((((((((w.setCell ⟨g, 0, none⟩ a).setCell ⟨g, 1, none⟩ b).setCell ⟨g, 2, none⟩ c).setCell ⟨g, 3, none⟩ d).setCell ⟨g, 4, none⟩ e).setCell ⟨g, 5, none⟩ f).setCell ⟨g, 6, none⟩ i).setCell ⟨g, 7, none⟩ j) g [a, b, c, d, e, f, i, j] :=
  (((((((h.set 0 a (by simp)).set 1 b (by simp)).set 2 c (by simp)).set 3 d (by simp)).set 4 e (by simp)).set 5 f (by simp)).set 6 i (by simp)).set 7 j (by simp)
theorem gr_fill8 {w0 w : World} {g : Nat} (h : Gr w0 w) (hg : w0.heap.size ≤ g) (a b c d e f i j : Value) :
    Gr w0 ((((((((w.setCell ⟨g, 0, none⟩ a).setCell ⟨g, 1, none⟩ b).setCell ⟨g, 2, none⟩ c).setCell ⟨g, 3, none⟩ d).setCell ⟨g, 4, none⟩ e).setCell ⟨g, 5, none⟩ f).setCell ⟨g, 6, none⟩ i).setCell ⟨g, 7, none⟩ j) :=
  (gr_fill7 h hg a b c d e f i).setCell hg j
theorem ex_fill8 {w0 w : World} {g : Nat} (h : Ex g w0 w) (a b c d e f i j : Value) :
    Ex g w0 ((((((((w.setCell ⟨g, 0, none⟩ a).setCell ⟨g, 1, none⟩ b).setCell ⟨g, 2, none⟩ c).setCell ⟨g, 3, none⟩ d).setCell ⟨g, 4, none⟩ e).setCell ⟨g, 5, none⟩ f).setCell ⟨g, 6, none⟩ i).setCell ⟨g, 7, none⟩ j) :=
  ((((((((h.set 0 a).set 1 b).set 2 c).set 3 d).set 4 e).set 5 f).set 6 i).set 7 j)
theorem OwB.cellset {base g o : Nat} {w : World} {v : Value} {l : List Nat} (h : OwB base w v l) (hn : ∀ k, v.ownBlock = some k → k ≠ g) (x : Value) : OwB base (w.setCell ⟨g, o, none⟩ x) v l := by
  refine h.grow (row := some g) ⟨rfl, rfl, rfl, by simp, fun k hk hne => Below.heap_setCell w ⟨g, o, none⟩ x k (fun e => hne (by rw [e]))⟩ ?_
  cases hv : v.ownBlock with
  | none => exact .inl rfl
  | some k => exact .inr (fun e => hn k hv (Option.some.inj e))
theorem ownsRow_fill8 {base g : Nat} {w : World} {v : Value} {l : List Nat} (h : OwB base w v l) (hn : ∀ k, v.ownBlock = some k → k ≠ g) (a b c d e f i j : Value) :
    OwB base ((((((((w.setCell ⟨g, 0, none⟩ a).setCell ⟨g, 1, none⟩ b).setCell ⟨g, 2, none⟩ c).setCell ⟨g, 3, none⟩ d).setCell ⟨g, 4, none⟩ e).setCell ⟨g, 5, none⟩ f).setCell ⟨g, 6, none⟩ i).setCell ⟨g, 7, none⟩ j) v l :=
  (((((((h.cellset hn a).cellset hn b).cellset hn c).cellset hn d).cellset hn e).cellset hn f).cellset hn i).cellset hn j
def hz8 : List Value := [.int .i64 0, .int .i64 0, .int .i64 0, .int .i64 0, .bool false, .int .u32 0, .int .u32 0, .slice none 0 0]
/-- what Decode answers -/
def dcE (l : List Nat) : Nat := if pkE l ≠ 0 then pkE l else if gN l 2 2 ≠ l.length then 2 else if 1500 < gN l 2 2 then 5 else 0
theorem dcE_bad {l : List Nat} (h : pkE l ≠ 0) : dcE l = pkE l := if_pos h
theorem dcE_form {l : List Nat} (h : pkE l = 0) (h2 : gN l 2 2 ≠ l.length) : dcE l = 2 := (if_neg (fun k => k h)).trans (if_pos h2)
theorem dcE_limit {l : List Nat} (h : pkE l = 0) (h2 : gN l 2 2 = l.length) (h3 : 1500 < gN l 2 2) : dcE l = 5 := (if_neg (fun k => k h)).trans ((if_neg (fun k => k h2)).trans (if_pos h3))
theorem dcE_ok {l : List Nat} (h : pkE l = 0) (h2 : gN l 2 2 = l.length) (h3 : ¬ 1500 < gN l 2 2) : dcE l = 0 := (if_neg (fun k => k h)).trans ((if_neg (fun k => k h2)).trans (if_neg h3))
theorem pkE_len {l : List Nat} (h : pkE l = 0) : 20 ≤ l.length := by
  unfold pkE at h
  by_cases k : l.length < 20
  · rw [if_pos k] at h; omega
  · omega
/-- an error -/
def DcErr (w : World) (n : Nat) (e : Ending) (w' : World) : Prop := e = .returned (.tuple #[pkV 0 0 0 0 false 0 0 (.slice none 0 0), .int .i64 n]) ∧ Gr w w'
set_option maxHeartbeats 1000000 in
theorem decode_err {p : Nat → Prop} {v : Value} {l : List Nat} (w : World) (hr : Rb p w v l) (hl : l.length ≤ 90000) (hn : dcE l ≠ 0) :
    Calls Tryz.prog 28 #[v] w (DcErr w (dcE l)) := by
  have hC := CL.new w hz8 55 _ rfl
  unfold hz8 at hC
  by_cases h0 : pkE l = 0
  · have h20 := pkE_len h0
    obtain ⟨pe1, pe2⟩ := pk_ok h0
    have hb := gN_lt hr.bytes 2 2
    simp only [Nat.reducePow] at hb
    have hcase : (gN l 2 2 ≠ l.length ∧ dcE l = 2) ∨ (gN l 2 2 = l.length ∧ 1500 < gN l 2 2 ∧ dcE l = 5) := by
      by_cases h2 : gN l 2 2 = l.length
      · by_cases h3 : 1500 < gN l 2 2
        · exact .inr ⟨h2, h3, dcE_limit h0 h2 h3⟩
        · exact absurd (dcE_ok h0 h2 h3) hn
      · exact .inl ⟨h2, dcE_form h0 h2⟩
    obtain ⟨a, cap, rfl, hcap, hmx⟩ := hr.form
    have HP := Lib.hid (peek_any _ (hr.gr (Gr.alloc (Gr.refl w) (.cells #[.int .i64 0, .int .i64 0, .int .i64 0, .int .i64 0, .bool false, .int .u32 0, .int .u32 0, .slice none 0 0] 55))) hl)
    go_enter Tryz.func28, Tryz.ntmps28
    rw [pe1, pe2, h0] at HP
    unfold Hd.v hdV at HP
    clear h0 pe1 pe2 hn hr
    generalize hdAt l = h at *
    generalize gN l 2 2 = N at *
    rcases hcase with ⟨h2, hE⟩ | ⟨h2, h3, hE⟩
    · have s1 : ((N : Int) == (l.length : Int)) = false := by rw [beq_eq_false_iff_ne]; omega
      have HE := Lib.hid hE
      clear hE h2
      go_wp2_with fail
      refine HP.out.mono ?_
      rintro e w1 ⟨rfl, hg⟩
      have hG := ((Gr.alloc (Gr.refl w) _).step hg).alloc (.cells #[.int .i64 h.tos, .int .i64 h.id, .int .i64 h.ttl, .int .i64 h.proto, .bool h.keep, .int .u32 h.src, .int .u32 h.dst] 52)
      replace hC := (hC.gr hg).gr (Gr.alloc (Gr.refl _) (.cells #[.int .i64 h.tos, .int .i64 h.id, .int .i64 h.ttl, .int .i64 h.proto, .bool h.keep, .int .u32 h.src, .int .u32 h.dst] 52))
      obtain ⟨⟨y0, y1, y2, y3, y4, y5, y6, y7⟩, v0, v1, v2, v3, v4, v5, v6, v7⟩ := hC.eight
      clear hg
      go_wp2_with fail
      generalize w1.alloc (.cells #[.int .i64 h.tos, .int .i64 h.id, .int .i64 h.ttl, .int .i64 h.proto, .bool h.keep, .int .u32 h.src, .int .u32 h.dst] 52) = w2 at *
      have hc8 := hC.fill8 (.int .i64 0) (.int .i64 0) (.int .i64 0) (.int .i64 0) (.bool false) (.int .u32 0) (.int .u32 0) (.slice none 0 0)
      have hgf := gr_fill8 hG (Nat.le_refl w.heap.size) (.int .i64 0) (.int .i64 0) (.int .i64 0) (.int .i64 0) (.bool false) (.int .u32 0) (.int .u32 0) (.slice none 0 0)
      clear y0 y1 y2 y3 y4 y5 y6 y7 v0 v1 v2 v3 v4 v5 v6 v7
      generalize ((((((((w2.setCell ⟨w.heap.size, 0, none⟩ (.int .i64 0)).setCell ⟨w.heap.size, 1, none⟩ (.int .i64 0)).setCell ⟨w.heap.size, 2, none⟩ (.int .i64 0)).setCell ⟨w.heap.size, 3, none⟩ (.int .i64 0)).setCell ⟨w.heap.size, 4, none⟩ (.bool false)).setCell ⟨w.heap.size, 5, none⟩ (.int .u32 0)).setCell ⟨w.heap.size, 6, none⟩ (.int .u32 0)).setCell ⟨w.heap.size, 7, none⟩ (.slice none 0 0)) = wf at *
      obtain ⟨⟨c0, c1, c2, c3, c4, c5, c6, c7⟩, -⟩ := hc8.eight
      exact bodyPost_ret (v := .tuple #[.agg #[.int .i64 0, .int .i64 0, .int .i64 0, .int .i64 0, .bool false, .int .u32 0, .int .u32 0, .slice none 0 0], .int .i64 2]) (by simp [results, Tryz.results28, go_sem, c0, c1, c2, c3, c4, c5, c6, c7]) rfl ⟨by rw [HE.out]; rfl, hgf⟩
    · have s1 : ((N : Int) == (l.length : Int)) = true := by rw [beq_iff_eq]; omega
      have s2 : decide ((1500 : Int) < (N : Int)) = true := by rw [decide_eq_true_eq]; omega
      have HE := Lib.hid hE
      clear hE h2 h3
      go_wp2_with fail
      refine HP.out.mono ?_
      rintro e w1 ⟨rfl, hg⟩
      have hG := ((Gr.alloc (Gr.refl w) _).step hg).alloc (.cells #[.int .i64 h.tos, .int .i64 h.id, .int .i64 h.ttl, .int .i64 h.proto, .bool h.keep, .int .u32 h.src, .int .u32 h.dst] 52)
      replace hC := (hC.gr hg).gr (Gr.alloc (Gr.refl _) (.cells #[.int .i64 h.tos, .int .i64 h.id, .int .i64 h.ttl, .int .i64 h.proto, .bool h.keep, .int .u32 h.src, .int .u32 h.dst] 52))
      obtain ⟨⟨y0, y1, y2, y3, y4, y5, y6, y7⟩, v0, v1, v2, v3, v4, v5, v6, v7⟩ := hC.eight
      clear hg
      go_wp2_with fail
      generalize w1.alloc (.cells #[.int .i64 h.tos, .int .i64 h.id, .int .i64 h.ttl, .int .i64 h.proto, .bool h.keep, .int .u32 h.src, .int .u32 h.dst] 52) = w2 at *
      have hc8 := hC.fill8 (.int .i64 0) (.int .i64 0) (.int .i64 0) (.int .i64 0) (.bool false) (.int .u32 0) (.int .u32 0) (.slice none 0 0)
      have hgf := gr_fill8 hG (Nat.le_refl w.heap.size) (.int .i64 0) (.int .i64 0) (.int .i64 0) (.int .i64 0) (.bool false) (.int .u32 0) (.int .u32 0) (.slice none 0 0)
      clear y0 y1 y2 y3 y4 y5 y6 y7 v0 v1 v2 v3 v4 v5 v6 v7
      generalize ((((((((w2.setCell ⟨w.heap.size, 0, none⟩ (.int .i64 0)).setCell ⟨w.heap.size, 1, none⟩ (.int .i64 0)).setCell ⟨w.heap.size, 2, none⟩ (.int .i64 0)).setCell ⟨w.heap.size, 3, none⟩ (.int .i64 0)).setCell ⟨w.heap.size, 4, none⟩ (.bool false)).setCell ⟨w.heap.size, 5, none⟩ (.int .u32 0)).setCell ⟨w.heap.size, 6, none⟩ (.int .u32 0)).setCell ⟨w.heap.size, 7, none⟩ (.slice none 0 0)) = wf at *
      obtain ⟨⟨c0, c1, c2, c3, c4, c5, c6, c7⟩, -⟩ := hc8.eight
      exact bodyPost_ret (v := .tuple #[.agg #[.int .i64 0, .int .i64 0, .int .i64 0, .int .i64 0, .bool false, .int .u32 0, .int .u32 0, .slice none 0 0], .int .i64 5]) (by simp [results, Tryz.results28, go_sem, c0, c1, c2, c3, c4, c5, c6, c7]) rfl ⟨by rw [HE.out]; rfl, hgf⟩
  · have HE := Lib.hid (dcE_bad h0)
    have hle : pkE l ≤ 4 := by unfold pkE; split <;> (try split) <;> (try split) <;> omega
    obtain ⟨pe1, pe2⟩ := pk_err rfl h0
    obtain ⟨a, cap, rfl, hcap, hmx⟩ := hr.form
    have HP := Lib.hid (peek_any _ (hr.gr (Gr.alloc (Gr.refl w) (.cells #[.int .i64 0, .int .i64 0, .int .i64 0, .int .i64 0, .bool false, .int .u32 0, .int .u32 0, .slice none 0 0] 55))) hl)
    go_enter Tryz.func28, Tryz.ntmps28
    rw [pe1, pe2] at HP
    unfold hdV at HP
    clear pe1 pe2 hn hr
    have s1 : ((pkE l : Int) == 0) = false := by rw [beq_eq_false_iff_ne]; omega
    generalize pkE l = E at *
    go_wp2_with fail
    refine HP.out.mono ?_
    rintro e w1 ⟨rfl, hg⟩
    have hG := ((Gr.alloc (Gr.refl w) _).step hg).alloc (.cells #[.int .i64 0, .int .i64 0, .int .i64 0, .int .i64 0, .bool false, .int .u32 0, .int .u32 0] 52)
    replace hC := (hC.gr hg).gr (Gr.alloc (Gr.refl _) (.cells #[.int .i64 0, .int .i64 0, .int .i64 0, .int .i64 0, .bool false, .int .u32 0, .int .u32 0] 52))
    obtain ⟨⟨y0, y1, y2, y3, y4, y5, y6, y7⟩, v0, v1, v2, v3, v4, v5, v6, v7⟩ := hC.eight
    clear hg h0
    go_wp2_with fail
    generalize w1.alloc (.cells #[.int .i64 0, .int .i64 0, .int .i64 0, .int .i64 0, .bool false, .int .u32 0, .int .u32 0] 52) = w2 at *
    have hc8 := hC.fill8 (.int .i64 0) (.int .i64 0) (.int .i64 0) (.int .i64 0) (.bool false) (.int .u32 0) (.int .u32 0) (.slice none 0 0)
    have hgf := gr_fill8 hG (Nat.le_refl w.heap.size) (.int .i64 0) (.int .i64 0) (.int .i64 0) (.int .i64 0) (.bool false) (.int .u32 0) (.int .u32 0) (.slice none 0 0)
    clear y0 y1 y2 y3 y4 y5 y6 y7 v0 v1 v2 v3 v4 v5 v6 v7
    generalize ((((((((w2.setCell ⟨w.heap.size, 0, none⟩ (.int .i64 0)).setCell ⟨w.heap.size, 1, none⟩ (.int .i64 0)).setCell ⟨w.heap.size, 2, none⟩ (.int .i64 0)).setCell ⟨w.heap.size, 3, none⟩ (.int .i64 0)).setCell ⟨w.heap.size, 4, none⟩ (.bool false)).setCell ⟨w.heap.size, 5, none⟩ (.int .u32 0)).setCell ⟨w.heap.size, 6, none⟩ (.int .u32 0)).setCell ⟨w.heap.size, 7, none⟩ (.slice none 0 0)) = wf at *
    obtain ⟨⟨c0, c1, c2, c3, c4, c5, c6, c7⟩, -⟩ := hc8.eight
    exact bodyPost_ret (v := .tuple #[.agg #[.int .i64 0, .int .i64 0, .int .i64 0, .int .i64 0, .bool false, .int .u32 0, .int .u32 0, .slice none 0 0], .int .i64 E]) (by simp [results, Tryz.results28, go_sem, c0, c1, c2, c3, c4, c5, c6, c7]) rfl ⟨by rw [HE.out]; rfl, hgf⟩
set_option maxHeartbeats 2000000 in
theorem decode_ok {p : Nat → Prop} {v : Value} {l : List Nat} (w : World) (hr : Rb p w v l) (hl : l.length ≤ 90000) (hn : dcE l = 0) :
    Calls Tryz.prog 28 #[v] w fun e w' => ∃ v', e = .returned (.tuple #[(hdAt l).p v', .int .i64 0]) ∧ OwB w.heap.size w' v' (l.drop 20) ∧ Gr w w' := by
  have h0 : pkE l = 0 := by
    by_cases h : pkE l = 0
    · exact h
    · rw [dcE_bad h] at hn; exact hn
  have h2 : gN l 2 2 = l.length := by
    by_cases h : gN l 2 2 = l.length
    · exact h
    · rw [dcE_form h0 h] at hn; omega
  have h3 : ¬ 1500 < gN l 2 2 := by
    intro h
    rw [dcE_limit h0 h2 h] at hn; omega
  have hC := CL.new w hz8 55 _ rfl
  unfold hz8 at hC
  have h20 := pkE_len h0
  obtain ⟨pe1, pe2⟩ := pk_ok h0
  have hr0 := hr
  obtain ⟨a, cap, rfl, hcap, hmx⟩ := hr.form
  have HP := Lib.hid (peek_any _ (hr.gr (Gr.alloc (Gr.refl w) (.cells #[.int .i64 0, .int .i64 0, .int .i64 0, .int .i64 0, .bool false, .int .u32 0, .int .u32 0, .slice none 0 0] 55))) hl)
  go_enter Tryz.func28, Tryz.ntmps28
  rw [pe1, pe2, h0] at HP
  unfold Hd.v hdV at HP
  unfold Hd.p pkV
  clear h0 pe1 pe2 hn hr
  generalize hdAt l = h at *
  generalize gN l 2 2 = N at *
  have s1 : ((N : Int) == (l.length : Int)) = true := by rw [beq_iff_eq]; omega
  have s2 : decide ((1500 : Int) < (N : Int)) = false := by rw [decide_eq_false_iff_not]; omega
  obtain ⟨bk, off, rfl, -, -⟩ := hr0.at' (i := 0) (by omega)
  have HR := Lib.hid hr0
  clear hr0
  go_wp2_with fail
  refine HP.out.mono ?_
  rintro e w1 ⟨rfl, hg⟩
  have hG := ((Gr.alloc (Gr.refl w) _).step hg).alloc (.cells #[.int .i64 h.tos, .int .i64 h.id, .int .i64 h.ttl, .int .i64 h.proto, .bool h.keep, .int .u32 h.src, .int .u32 h.dst] 52)
  have hg7 := CL.new w1 [.int .i64 h.tos, .int .i64 h.id, .int .i64 h.ttl, .int .i64 h.proto, .bool h.keep, .int .u32 h.src, .int .u32 h.dst] 52 _ rfl
  have hne : w1.heap.size ≠ w.heap.size := by have := Gr.size hg; simp at this; omega
  replace hC := (hC.gr hg).gr (Gr.alloc (Gr.refl _) (.cells #[.int .i64 h.tos, .int .i64 h.id, .int .i64 h.ttl, .int .i64 h.proto, .bool h.keep, .int .u32 h.src, .int .u32 h.dst] 52))
  clear hg
  go_wp2_with fail
  have HC7 := Lib.hid (show CL (w1.alloc (.cells #[.int .i64 h.tos, .int .i64 h.id, .int .i64 h.ttl, .int .i64 h.proto, .bool h.keep, .int .u32 h.src, .int .u32 h.dst] 52)) w1.heap.size [.int .i64 h.tos, .int .i64 h.id, .int .i64 h.ttl, .int .i64 h.proto, .bool h.keep, .int .u32 h.src, .int .u32 h.dst] from hg7)
  clear hg7
  generalize w1.alloc (.cells #[.int .i64 h.tos, .int .i64 h.id, .int .i64 h.ttl, .int .i64 h.proto, .bool h.keep, .int .u32 h.src, .int .u32 h.dst] 52) = w2 at *
  generalize w1.heap.size = g7 at *
  obtain ⟨L, hL⟩ : ∃ L, L = l.length := ⟨_, rfl⟩
  have HL := Lib.hid hL
  rw [← hL] at hcap h20 HR ⊢
  have hL5 : L ≤ 1500 := by omega
  clear hL h2 h3 s1 s2 hl HP
  have hS : Ex w.heap.size w2 w2.drew := Ex.drew (Ex.refl _ _)
  have e1 : (L : Int) - 20 = ((L - 20 : Nat) : Int) := by omega
  by_cases hcq : cap = 20
  · obtain rfl : L = 20 := by omega
    subst hcq
    have hd0 : l.drop 20 = [] := List.drop_of_length_le (by rw [← HL.out]; exact Nat.le_refl _)
    have HD0 := Lib.hid hd0
    have HRB := Lib.hid (fun (a : Option Addr) (W : World) => (⟨a, 0, rfl, Nat.le_refl _, by omega, fun _ => rfl, (fun _ h => by cases h), fun i hi => absurd hi (Nat.not_lt_zero i)⟩ : Rb (fun _ => True) W (.slice a 0 0) []))
    rw [← hd0] at HRB
    clear hd0
    refine region_plain (Ex w.heap.size w2) (by kernel_rfl) ?_
    refine take_at 0 (some 25) (v := ?va0) rfl rfl (by kernel_rfl) (by kernel_rfl) (by kernel_rfl) (by rfl) ?ya0 hS ?ta0
    case ya0 =>
      intro w' hSw
      obtain ⟨⟨q0, q1, q2, q3, q4, q5, q6⟩, -⟩ := (HC7.out.ex hSw hne).seven
      go_simp
      (try rw [if_pos (by omega)])
      (try with_reducible rfl)
    simp only [Act.put, List.setIfInBounds_toArray, List.set_cons_zero, List.set_cons_succ]
    refine take_at 1 (some 26) (v := ?va1) rfl rfl (by kernel_rfl) (by kernel_rfl) (by kernel_rfl) (by rfl) ?ya1 hS ?ta1
    case ya1 =>
      intro w' hSw
      obtain ⟨⟨q0, q1, q2, q3, q4, q5, q6⟩, -⟩ := (HC7.out.ex hSw hne).seven
      go_simp
      (try rw [if_pos (by omega)])
      (try with_reducible rfl)
    simp only [Act.put, List.setIfInBounds_toArray, List.set_cons_zero, List.set_cons_succ]
    refine take_at 2 (some 27) (v := ?va2) rfl rfl (by kernel_rfl) (by kernel_rfl) (by kernel_rfl) (by rfl) ?ya2 hS ?ta2
    case ya2 =>
      intro w' hSw
      obtain ⟨⟨q0, q1, q2, q3, q4, q5, q6⟩, -⟩ := (HC7.out.ex hSw hne).seven
      go_simp
      (try rw [if_pos (by omega)])
      (try with_reducible rfl)
    simp only [Act.put, List.setIfInBounds_toArray, List.set_cons_zero, List.set_cons_succ]
    refine next_at 3 rfl (by kernel_rfl) (by rfl) (fun K hK => ?_)
    go_simp
    refine (clone_bytes (l := l.drop 20) _ (HRB.out _ _) (by rw [HD0.out]; simp)).mono ?_
    rintro e w4 ⟨vc, rfl, hvc, hg4⟩
    obtain ⟨ac, cc, rfl, -, -⟩ := hvc.rb.form
    have hS4 := hS.trans (Ex.ofGr hg4)
    have HVC := Lib.hid (hvc.base (b := w.heap.size) (by have := Gr.size hG; have := hS.size; omega))
    have hnv : ∀ k, (Value.slice ac (l.drop 20).length cc).ownBlock = some k → k ≠ w.heap.size := by
      intro k hk
      have := hvc.above k hk
      have := hC.lt
      have := hS.size
      omega
    have HNV := Lib.hid hnv
    clear hnv
    generalize (l.drop 20).length = M at *
    have hC4 := (hC.gr (Gr.drew (Gr.refl _))).gr hg4
    have hG4 := (hG.step (Gr.drew (Gr.refl _))).step hg4
    refine hK _ _ hS4 ?_
    clear hK K hvc hS hg4
    have hS := hS4
    clear hS4
    refine next_at 4 rfl (by kernel_rfl) (by rfl) (fun K hK => ?_)
    go_simp
    refine hK _ _ hS ?_
    clear hK K
    have hc8 := hC4.fill8 (.int .i64 h.tos) (.int .i64 h.id) (.int .i64 h.ttl) (.int .i64 h.proto) (.bool h.keep) (.int .u32 h.src) (.int .u32 h.dst) (.slice ac M cc)
    have hgf := gr_fill8 hG4 (Nat.le_refl w.heap.size) (.int .i64 h.tos) (.int .i64 h.id) (.int .i64 h.ttl) (.int .i64 h.proto) (.bool h.keep) (.int .u32 h.src) (.int .u32 h.dst) (.slice ac M cc)
    have hxf := ex_fill8 hS (.int .i64 h.tos) (.int .i64 h.id) (.int .i64 h.ttl) (.int .i64 h.proto) (.bool h.keep) (.int .u32 h.src) (.int .u32 h.dst) (.slice ac M cc)
    have hvf := ownsRow_fill8 HVC.out HNV.out (.int .i64 h.tos) (.int .i64 h.id) (.int .i64 h.ttl) (.int .i64 h.proto) (.bool h.keep) (.int .u32 h.src) (.int .u32 h.dst) (.slice ac M cc)
    obtain ⟨⟨y0, y1, y2, y3, y4, y5, y6, y7⟩, v0, v1, v2, v3, v4, v5, v6, v7⟩ := hC4.eight
    refine next_at 5 rfl (by kernel_rfl) (by rfl) (fun K hK => ?_)
    go_simp
    refine hK _ _ hxf ?_
    clear hK K y0 y1 y2 y3 y4 y5 y6 y7 v0 v1 v2 v3 v4 v5 v6 v7
    generalize ((((((((w4.setCell ⟨w.heap.size, 0, none⟩ (.int .i64 h.tos)).setCell ⟨w.heap.size, 1, none⟩ (.int .i64 h.id)).setCell ⟨w.heap.size, 2, none⟩ (.int .i64 h.ttl)).setCell ⟨w.heap.size, 3, none⟩ (.int .i64 h.proto)).setCell ⟨w.heap.size, 4, none⟩ (.bool h.keep)).setCell ⟨w.heap.size, 5, none⟩ (.int .u32 h.src)).setCell ⟨w.heap.size, 6, none⟩ (.int .u32 h.dst)).setCell ⟨w.heap.size, 7, none⟩ (.slice ac M cc)) = wf at *
    refine next_at 6 rfl (by kernel_rfl) (by rfl) (fun K hK => ?_)
    go_simp
    refine hK _ _ hxf ?_
    clear hK K
    refine wpAnyH_done (by kernel_rfl) ?_ _
    refine qz_normal ?_
    obtain ⟨⟨c0, c1, c2, c3, c4, c5, c6, c7⟩, -⟩ := hc8.eight
    go_wp2_with fail
    exact bodyPost_ret (v := .tuple #[.agg #[.int .i64 h.tos, .int .i64 h.id, .int .i64 h.ttl, .int .i64 h.proto, .bool h.keep, .int .u32 h.src, .int .u32 h.dst, .slice ac M cc], .int .i64 0]) (by simp [results, Tryz.results28, go_sem, c0, c1, c2, c3, c4, c5, c6, c7]) rfl ⟨_, rfl, hvf, hgf⟩
  · have u1 : ¬ cap = 20 := hcq
    have HRB := Lib.hid (fun (W : World) (k : Ex w.heap.size w2 W) => ((HR.out.gr (Ex.gr hG (Nat.le_refl _) k)).any.part (k := 20) (m := L - 20) (by rw [← HL.out]; omega)))
    rw [List.take_of_length_le (show (l.drop 20).length ≤ L - 20 by rw [List.length_drop, ← HL.out]; exact Nat.le_refl _)] at HRB
    refine region_plain (Ex w.heap.size w2) (by kernel_rfl) ?_
    refine take_at 0 (some 25) (v := ?vb0) rfl rfl (by kernel_rfl) (by kernel_rfl) (by kernel_rfl) (by rfl) ?yb0 hS ?tb0
    case yb0 =>
      intro w' hSw
      obtain ⟨⟨q0, q1, q2, q3, q4, q5, q6⟩, -⟩ := (HC7.out.ex hSw hne).seven
      go_simp
      (try rw [if_pos (by omega)])
      (try with_reducible rfl)
    simp only [Act.put, List.setIfInBounds_toArray, List.set_cons_zero, List.set_cons_succ]
    refine take_at 1 (some 26) (v := ?vb1) rfl rfl (by kernel_rfl) (by kernel_rfl) (by kernel_rfl) (by rfl) ?yb1 hS ?tb1
    case yb1 =>
      intro w' hSw
      obtain ⟨⟨q0, q1, q2, q3, q4, q5, q6⟩, -⟩ := (HC7.out.ex hSw hne).seven
      go_simp
      (try rw [if_pos (by omega)])
      (try with_reducible rfl)
    simp only [Act.put, List.setIfInBounds_toArray, List.set_cons_zero, List.set_cons_succ]
    refine take_at 2 (some 27) (v := ?vb2) rfl rfl (by kernel_rfl) (by kernel_rfl) (by kernel_rfl) (by rfl) ?yb2 hS ?tb2
    case yb2 =>
      intro w' hSw
      obtain ⟨⟨q0, q1, q2, q3, q4, q5, q6⟩, -⟩ := (HC7.out.ex hSw hne).seven
      go_simp
      (try rw [if_pos (by omega)])
      (try with_reducible rfl)
    simp only [Act.put, List.setIfInBounds_toArray, List.set_cons_zero, List.set_cons_succ]
    refine next_at 3 rfl (by kernel_rfl) (by rfl) (fun K hK => ?_)
    go_simp
    refine (clone_bytes _ (HRB.out _ hS) (by rw [List.length_drop, ← HL.out]; omega)).mono ?_
    rintro e w4 ⟨vc, rfl, hvc, hg4⟩
    obtain ⟨ac, cc, rfl, -, -⟩ := hvc.rb.form
    have hS4 := hS.trans (Ex.ofGr hg4)
    have HVC := Lib.hid (hvc.base (b := w.heap.size) (by have := Gr.size hG; have := hS.size; omega))
    have hnv : ∀ k, (Value.slice ac (l.drop 20).length cc).ownBlock = some k → k ≠ w.heap.size := by
      intro k hk
      have := hvc.above k hk
      have := hC.lt
      have := hS.size
      omega
    have HNV := Lib.hid hnv
    clear hnv
    generalize (l.drop 20).length = M at *
    have hC4 := (hC.gr (Gr.drew (Gr.refl _))).gr hg4
    have hG4 := (hG.step (Gr.drew (Gr.refl _))).step hg4
    refine hK _ _ hS4 ?_
    clear hK K hvc hS hg4
    have hS := hS4
    clear hS4
    refine next_at 4 rfl (by kernel_rfl) (by rfl) (fun K hK => ?_)
    go_simp
    refine hK _ _ hS ?_
    clear hK K
    have hc8 := hC4.fill8 (.int .i64 h.tos) (.int .i64 h.id) (.int .i64 h.ttl) (.int .i64 h.proto) (.bool h.keep) (.int .u32 h.src) (.int .u32 h.dst) (.slice ac M cc)
    have hgf := gr_fill8 hG4 (Nat.le_refl w.heap.size) (.int .i64 h.tos) (.int .i64 h.id) (.int .i64 h.ttl) (.int .i64 h.proto) (.bool h.keep) (.int .u32 h.src) (.int .u32 h.dst) (.slice ac M cc)
    have hxf := ex_fill8 hS (.int .i64 h.tos) (.int .i64 h.id) (.int .i64 h.ttl) (.int .i64 h.proto) (.bool h.keep) (.int .u32 h.src) (.int .u32 h.dst) (.slice ac M cc)
    have hvf := ownsRow_fill8 HVC.out HNV.out (.int .i64 h.tos) (.int .i64 h.id) (.int .i64 h.ttl) (.int .i64 h.proto) (.bool h.keep) (.int .u32 h.src) (.int .u32 h.dst) (.slice ac M cc)
    obtain ⟨⟨y0, y1, y2, y3, y4, y5, y6, y7⟩, v0, v1, v2, v3, v4, v5, v6, v7⟩ := hC4.eight
    refine next_at 5 rfl (by kernel_rfl) (by rfl) (fun K hK => ?_)
    go_simp
    refine hK _ _ hxf ?_
    clear hK K y0 y1 y2 y3 y4 y5 y6 y7 v0 v1 v2 v3 v4 v5 v6 v7
    generalize ((((((((w4.setCell ⟨w.heap.size, 0, none⟩ (.int .i64 h.tos)).setCell ⟨w.heap.size, 1, none⟩ (.int .i64 h.id)).setCell ⟨w.heap.size, 2, none⟩ (.int .i64 h.ttl)).setCell ⟨w.heap.size, 3, none⟩ (.int .i64 h.proto)).setCell ⟨w.heap.size, 4, none⟩ (.bool h.keep)).setCell ⟨w.heap.size, 5, none⟩ (.int .u32 h.src)).setCell ⟨w.heap.size, 6, none⟩ (.int .u32 h.dst)).setCell ⟨w.heap.size, 7, none⟩ (.slice ac M cc)) = wf at *
    refine next_at 6 rfl (by kernel_rfl) (by rfl) (fun K hK => ?_)
    go_simp
    refine hK _ _ hxf ?_
    clear hK K
    refine wpAnyH_done (by kernel_rfl) ?_ _
    refine qz_normal ?_
    obtain ⟨⟨c0, c1, c2, c3, c4, c5, c6, c7⟩, -⟩ := hc8.eight
    go_wp2_with fail
    exact bodyPost_ret (v := .tuple #[.agg #[.int .i64 h.tos, .int .i64 h.id, .int .i64 h.ttl, .int .i64 h.proto, .bool h.keep, .int .u32 h.src, .int .u32 h.dst, .slice ac M cc], .int .i64 0]) (by simp [results, Tryz.results28, go_sem, c0, c1, c2, c3, c4, c5, c6, c7]) rfl ⟨_, rfl, hvf, hgf⟩
end Go.Proofs.YtkpejaiigopmgaaGreatDoor
