/- A packet from choices, right or wrong. -/
import Derived.Test.YtcpaphehhjnemaaIa
import Derived.Test.YtcpaphehhjnemaaId
import Derived.Test.YtcpaphehhjnemaaWc
import Derived.WalkKit
import Derived.WalkSpells
import Derived.WalkLawsBesides
import Derived.WalkSmall
import Derived.Handy
import Derived.BigQuiet
import Derived.Deep.QuietTactic
import Derived.Deep.RegionHeld3
import Derived.Deep.DeepFit
import Derived.Below
import Derived.Lib.Hide
import Derived.Lib.QuietBelow
import Derived.Deep.DeepCutAuto
namespace Go.Proofs.Ytcpaphehhjnemaa
open Go Go.RowKit Go.Sort
set_option maxRecDepth 100000
set_option linter.unusedVariables false
def PkPost (vd : Value) (w : World) (e : Ending) (w' : World) : Prop := ∃ (tos id ttl proto : Int) (kb : Bool) (src dst : Nat), e = .returned (pkV tos id ttl proto kb src dst vd) ∧ src < 4294967296 ∧ dst < 4294967296 ∧ Gr w w'
theorem CL.other7 {w : World} {g r : Nat} {vs : List Value} (h : CL w g vs) (hr : g ≠ r) (a b c d e f i : Value) :
    CL (((((((w.setCell ⟨r, 0, none⟩ a).setCell ⟨r, 1, none⟩ b).setCell ⟨r, 2, none⟩ c).setCell ⟨r, 3, none⟩ d).setCell ⟨r, 4, none⟩ e).setCell ⟨r, 5, none⟩ f).setCell ⟨r, 6, none⟩ i) g vs :=
  ((((((h.other a hr).other b hr).other c hr).other d hr).other e hr).other f hr).other i hr
set_option maxHeartbeats 1000000 in
theorem packet_any (sv : Value) (len : Nat) (a b0 c d : Int) (e : Bool) (f i : Nat) (ad : Option Addr) (n cd : Nat) (B : Nat) (w : World) (hl : len ≤ 9223372036854775807) (hb : BytesV B w sv len) (hf : f < 4294967296) (hi : i < 4294967296) :
    Calls Try.prog 7 #[sv, hdV a b0 c d e f i, .slice ad n cd] w (PkPost (.slice ad n cd) w) := by
  have HC4 := Lib.hid (CL.new w [.int .i64 a, .int .i64 b0, .int .i64 c, .int .i64 d, .bool e, .int .u32 f, .int .u32 i] 26 _ rfl)
  have HC6 := Lib.hid (CL.new (w.alloc (.cells #[.int .i64 a, .int .i64 b0, .int .i64 c, .int .i64 d, .bool e, .int .u32 f, .int .u32 i] 26)) hz8 29 (w.heap.size + 1) (by simp))
  have hg := Gr.alloc (Gr.alloc (Gr.refl w) (.cells #[.int .i64 a, .int .i64 b0, .int .i64 c, .int .i64 d, .bool e, .int .u32 f, .int .u32 i] 26)) (.cells #[.int .i64 0, .int .i64 0, .int .i64 0, .int .i64 0, .bool false, .int .u32 0, .int .u32 0, .slice none 0 0] 29)
  have HC4 := Lib.hid (HC4.out.gr (Gr.alloc (Gr.refl _) (.cells #[.int .i64 0, .int .i64 0, .int .i64 0, .int .i64 0, .bool false, .int .u32 0, .int .u32 0, .slice none 0 0] 29)))
  have HB := Lib.hid (hb.gr hg)
  unfold hz8 at HC6
  unfold hdV
  clear hb
  go_enter Try.func7, Try.ntmps7
  go_wp2_with fail
  refine (new_any sv len 80 _ (by omega) hl HB.out).mono ?_
  rintro e w2 ⟨b, rfl, hbe, hc2, hg2⟩
  have hbw : w.heap.size + 2 ≤ b := by have h0 : ((w.alloc (.cells #[.int .i64 a, .int .i64 b0, .int .i64 c, .int .i64 d, .bool e, .int .u32 f, .int .u32 i] 26)).alloc (.cells #[.int .i64 0, .int .i64 0, .int .i64 0, .int .i64 0, .bool false, .int .u32 0, .int .u32 0, .slice none 0 0] 29)).heap.size = w.heap.size + 2 := by simp
                                       omega
  replace hg := hg.step hg2
  have HC4 := Lib.hid (HC4.out.gr hg2)
  have HC6 := Lib.hid (HC6.out.gr hg2)
  have HC := Lib.hid hc2
  clear hbe hc2 hg2 HB
  go_wp2_with fail
  refine (next_nat b 256 _ (by omega) (by omega) HC.out).mono ?_
  rintro e w3 ⟨tos, rfl, htos, hc3, he3⟩
  go_wp2_with fail
  refine (next_nat b 65536 _ (by omega) (by omega) hc3).mono ?_
  rintro e w4 ⟨id, rfl, hid, hc4, he4⟩
  replace he3 := he3.trans he4
  clear he4 hc3
  go_wp2_with fail
  refine (next_nat b 256 _ (by omega) (by omega) hc4).mono ?_
  rintro e w5 ⟨ttl, rfl, httl, hc5, he5⟩
  replace he3 := he3.trans he5
  clear he5 hc4
  go_wp2_with fail
  refine (next_nat b 256 _ (by omega) (by omega) hc5).mono ?_
  rintro e w6 ⟨proto, rfl, hproto, hc6, he6⟩
  replace he3 := he3.trans he6
  clear he6 hc5
  go_wp2_with fail
  refine (next_nat b 2 _ (by omega) (by omega) hc6).mono ?_
  rintro e w7 ⟨kp, rfl, hkp, hc7, he7⟩
  replace he3 := he3.trans he7
  obtain ⟨kb, hkb⟩ : ∃ kb : Bool, ((kp : Int) == 1) = kb := ⟨_, rfl⟩
  clear he7 hc6
  go_wp2_with fail
  refine (address_any b _ hc7).mono ?_
  rintro e w8 ⟨src, rfl, hsrc, hc8, he8⟩
  replace he3 := he3.trans he8
  clear he8 hc7
  go_wp2_with fail
  refine (address_any b _ hc8).mono ?_
  rintro e w9 ⟨dst, rfl, hdst, hc9, he9⟩
  replace he3 := he3.trans he9
  have hg9 := Ex.gr hg (by omega) he3
  have h8 := CL.new w9 [.int .i64 tos, .int .i64 id, .int .i64 ttl, .int .i64 proto, .bool kb, .int .u32 src, .int .u32 dst] 26 _ rfl
  have hga := Gr.alloc (Gr.refl w9) (.cells #[.int .i64 tos, .int .i64 id, .int .i64 ttl, .int .i64 proto, .bool kb, .int .u32 src, .int .u32 dst] 26)
  have HC4 := Lib.hid ((HC4.out.ex he3 (by omega)).gr hga)
  have HC6 := Lib.hid ((HC6.out.ex he3 (by omega)).gr hga)
  replace hg := hg9.step hga
  have HC := Lib.hid (hc9.gr hga)
  have hb9 := hc9.lt
  have hs9 := Gr.size hg9
  have hw2 : w.heap.size + 2 ≤ w9.heap.size := by omega
  clear he9 he3 hc8 hc9 hg9 htos hid httl hproto hkp
  go_wp2_with fail
  have H8 := Lib.hid h8
  clear h8 hga hkb
  generalize w9.alloc (.cells #[.int .i64 tos, .int .i64 id, .int .i64 ttl, .int .i64 proto, .bool kb, .int .u32 src, .int .u32 dst] 26) = w10 at *
  generalize w9.heap.size = g8 at *
  refine (next_nat b 6 _ (by omega) (by omega) HC.out).mono ?_
  rintro e w11 ⟨x, rfl, hx, hc11, he11⟩
  replace hg := Ex.gr hg (by omega) he11
  have HC4 := Lib.hid (HC4.out.ex he11 (by omega))
  have HC6 := Lib.hid (HC6.out.ex he11 (by omega))
  have H8 := Lib.hid (H8.out.ex he11 (by omega))
  have HC := Lib.hid hc11
  clear he11 hc11
  obtain ⟨⟨x0, x1, x2, x3, x4, x5, x6⟩, z0, z1, z2, z3, z4, z5, z6⟩ := H8.out.seven
  by_cases hx4 : x = 4
  · have s1 : ((x : Int) == 4) = true := by rw [beq_iff_eq]; omega
    obtain ⟨⟨m0, m1, m2, m3, m4, m5, m6⟩, -⟩ := HC4.out.seven
    obtain ⟨⟨k0, k1, k2, k3, k4, k5, k6, k7⟩, l0, l1, l2, l3, l4, l5, l6, l7⟩ := HC6.out.eight
    have hm6 : ¬ w.heap.size + 1 = g8 := by omega
    have hm7 : ¬ g8 = w.heap.size + 1 := by omega
    have hle6 : w.heap.size ≤ w.heap.size + 1 := by omega
    have hle8 : w.heap.size ≤ g8 := by omega
    generalize w.heap.size + 1 = g6 at *
    go_upto_region 8 with fail
    have H8 := Lib.hid (H8.out.fill7 (.int .i64 a) (.int .i64 b0) (.int .i64 c) (.int .i64 d) (.bool e) (.int .u32 f) (.int .u32 i))
    have HC6 := Lib.hid (HC6.out.other7 hm6 (.int .i64 a) (.int .i64 b0) (.int .i64 c) (.int .i64 d) (.bool e) (.int .u32 f) (.int .u32 i))
    have hg := gr_fill7 hg hle8 (.int .i64 a) (.int .i64 b0) (.int .i64 c) (.int .i64 d) (.bool e) (.int .u32 f) (.int .u32 i)
    generalize (((((((w11.setCell ⟨g8, 0, none⟩ (.int .i64 a)).setCell ⟨g8, 1, none⟩ (.int .i64 b0)).setCell ⟨g8, 2, none⟩ (.int .i64 c)).setCell ⟨g8, 3, none⟩ (.int .i64 d)).setCell ⟨g8, 4, none⟩ (.bool e)).setCell ⟨g8, 5, none⟩ (.int .u32 f)).setCell ⟨g8, 6, none⟩ (.int .u32 i)) = w12 at *
    clear m0 m1 m2 m3 m4 m5 m6 x0 x1 x2 x3 x4 x5 x6 z0 z1 z2 z3 z4 z5 z6 k0 k1 k2 k3 k4 k5 k6 k7 l0 l1 l2 l3 l4 l5 l6 l7
    obtain ⟨⟨x0, x1, x2, x3, x4, x5, x6⟩, z0, z1, z2, z3, z4, z5, z6⟩ := H8.out.seven
    obtain ⟨⟨k0, k1, k2, k3, k4, k5, k6, k7⟩, l0, l1, l2, l3, l4, l5, l6, l7⟩ := HC6.out.eight
    go_wp2_with fail
    have hc := HC6.out.fill8 (.int .i64 a) (.int .i64 b0) (.int .i64 c) (.int .i64 d) (.bool e) (.int .u32 f) (.int .u32 i) (.slice ad n cd)
    have hgf := gr_fill8 hg hle6 (.int .i64 a) (.int .i64 b0) (.int .i64 c) (.int .i64 d) (.bool e) (.int .u32 f) (.int .u32 i) (.slice ad n cd)
    clear x0 x1 x2 x3 x4 x5 x6 z0 z1 z2 z3 z4 z5 z6 k0 k1 k2 k3 k4 k5 k6 k7 l0 l1 l2 l3 l4 l5 l6 l7
    generalize ((((((((w12.setCell ⟨g6, 0, none⟩ (.int .i64 a)).setCell ⟨g6, 1, none⟩ (.int .i64 b0)).setCell ⟨g6, 2, none⟩ (.int .i64 c)).setCell ⟨g6, 3, none⟩ (.int .i64 d)).setCell ⟨g6, 4, none⟩ (.bool e)).setCell ⟨g6, 5, none⟩ (.int .u32 f)).setCell ⟨g6, 6, none⟩ (.int .u32 i)).setCell ⟨g6, 7, none⟩ (.slice ad n cd)) = wf at *
    obtain ⟨⟨c0, c1, c2, c3, c4, c5, c6, c7⟩, -⟩ := hc.eight
    exact bodyPost_ret (v := .agg #[.int .i64 a, .int .i64 b0, .int .i64 c, .int .i64 d, .bool e, .int .u32 f, .int .u32 i, .slice ad n cd]) (by simp [results, Try.results7, go_sem, c0, c1, c2, c3, c4, c5, c6, c7]) rfl ⟨a, b0, c, d, e, f, i, rfl, hf, hi, hgf⟩
  · have s1 : ((x : Int) == 4) = false := by rw [beq_eq_false_iff_ne]; omega
    by_cases hx5 : x = 5
    · have s2 : ((x : Int) == 5) = true := by rw [beq_iff_eq]; omega
      have hm6 : w.heap.size + 1 ≠ g8 := by omega
      go_wp2_with fail
      refine (int_c b _ HC.out).mono ?_
      rintro e w12 ⟨y1, rfl, p1, q1, hc12, he12⟩
      replace hg := Ex.gr hg (by omega) he12
      have HC6 := Lib.hid (HC6.out.ex he12 (by omega))
      have H8 := Lib.hid (H8.out.ex he12 (by omega))
      have HC := Lib.hid hc12
      clear he12 hc12

      go_wp2_with fail
      refine (int_c b _ HC.out).mono ?_
      rintro e w13 ⟨y2, rfl, p2, q2, hc13, he13⟩
      replace hg := Ex.gr hg (by omega) he13
      have HC6 := Lib.hid (HC6.out.ex he13 (by omega))
      have H8 := Lib.hid (H8.out.ex he13 (by omega))
      have HC := Lib.hid hc13
      clear he13 hc13

      go_wp2_with fail
      refine (int_c b _ HC.out).mono ?_
      rintro e w14 ⟨y3, rfl, p3, q3, hc14, he14⟩
      replace hg := Ex.gr hg (by omega) he14
      have HC6 := Lib.hid (HC6.out.ex he14 (by omega))
      have H8 := Lib.hid (H8.out.ex he14 (by omega))
      have HC := Lib.hid hc14
      clear he14 hc14

      clear x0 x1 x2 x3 x4 x5 x6 z0 z1 z2 z3 z4 z5 z6
      obtain ⟨⟨x0, x1, x2, x3, x4, x5, x6⟩, z0, z1, z2, z3, z4, z5, z6⟩ := H8.out.seven
      obtain ⟨⟨k0, k1, k2, k3, k4, k5, k6, k7⟩, l0, l1, l2, l3, l4, l5, l6, l7⟩ := HC6.out.eight
      go_upto_region 8 with fail
      have H8 := Lib.hid (show CL _ g8 [.int .i64 y3, .int .i64 y1, .int .i64 y2, .int .i64 proto, .bool kb, .int .u32 src, .int .u32 dst] from ((H8.out.set 1 (.int .i64 y1) (by simp)).set 2 (.int .i64 y2) (by simp)).set 0 (.int .i64 y3) (by simp))
      have HC6 := Lib.hid (((HC6.out.other (o := 1) (.int .i64 y1) hm6).other (o := 2) (.int .i64 y2) hm6).other (o := 0) (.int .i64 y3) hm6)
      have hg := ((hg.setCell (p := ⟨g8, 1, none⟩) (show w.heap.size ≤ g8 by omega) (.int .i64 y1)).setCell (p := ⟨g8, 2, none⟩) (show w.heap.size ≤ g8 by omega) (.int .i64 y2)).setCell (p := ⟨g8, 0, none⟩) (show w.heap.size ≤ g8 by omega) (.int .i64 y3)
      generalize (((w14.setCell ⟨g8, 1, none⟩ (.int .i64 y1)).setCell ⟨g8, 2, none⟩ (.int .i64 y2)).setCell ⟨g8, 0, none⟩ (.int .i64 y3)) = w15 at *
      clear x0 x1 x2 x3 x4 x5 x6 z0 z1 z2 z3 z4 z5 z6 k0 k1 k2 k3 k4 k5 k6 k7 l0 l1 l2 l3 l4 l5 l6 l7
      obtain ⟨⟨x0, x1, x2, x3, x4, x5, x6⟩, z0, z1, z2, z3, z4, z5, z6⟩ := H8.out.seven
      obtain ⟨⟨k0, k1, k2, k3, k4, k5, k6, k7⟩, l0, l1, l2, l3, l4, l5, l6, l7⟩ := HC6.out.eight
      go_wp2_with fail
      have hc := HC6.out.fill8 (.int .i64 y3) (.int .i64 y1) (.int .i64 y2) (.int .i64 proto) (.bool kb) (.int .u32 src) (.int .u32 dst) (.slice ad n cd)
      have hgf := gr_fill8 hg (show w.heap.size ≤ w.heap.size + 1 by omega) (.int .i64 y3) (.int .i64 y1) (.int .i64 y2) (.int .i64 proto) (.bool kb) (.int .u32 src) (.int .u32 dst) (.slice ad n cd)
      clear x0 x1 x2 x3 x4 x5 x6 z0 z1 z2 z3 z4 z5 z6 k0 k1 k2 k3 k4 k5 k6 k7 l0 l1 l2 l3 l4 l5 l6 l7
      generalize ((((((((w15.setCell ⟨w.heap.size + 1, 0, none⟩ (.int .i64 y3)).setCell ⟨w.heap.size + 1, 1, none⟩ (.int .i64 y1)).setCell ⟨w.heap.size + 1, 2, none⟩ (.int .i64 y2)).setCell ⟨w.heap.size + 1, 3, none⟩ (.int .i64 proto)).setCell ⟨w.heap.size + 1, 4, none⟩ (.bool kb)).setCell ⟨w.heap.size + 1, 5, none⟩ (.int .u32 src)).setCell ⟨w.heap.size + 1, 6, none⟩ (.int .u32 dst)).setCell ⟨w.heap.size + 1, 7, none⟩ (.slice ad n cd)) = wf at *
      obtain ⟨⟨c0, c1, c2, c3, c4, c5, c6, c7⟩, -⟩ := hc.eight
      exact bodyPost_ret (v := .agg #[.int .i64 y3, .int .i64 y1, .int .i64 y2, .int .i64 proto, .bool kb, .int .u32 src, .int .u32 dst, .slice ad n cd]) (by simp [results, Try.results7, go_sem, c0, c1, c2, c3, c4, c5, c6, c7]) rfl ⟨y3, y1, y2, proto, kb, src, dst, rfl, hsrc, hdst, hgf⟩
    · have s2 : ((x : Int) == 5) = false := by rw [beq_eq_false_iff_ne]; omega
      obtain ⟨⟨k0, k1, k2, k3, k4, k5, k6, k7⟩, l0, l1, l2, l3, l4, l5, l6, l7⟩ := HC6.out.eight
      go_wp2_with fail
      have hc := HC6.out.fill8 (.int .i64 tos) (.int .i64 id) (.int .i64 ttl) (.int .i64 proto) (.bool kb) (.int .u32 src) (.int .u32 dst) (.slice ad n cd)
      have hgf := gr_fill8 hg (show w.heap.size ≤ w.heap.size + 1 by omega) (.int .i64 tos) (.int .i64 id) (.int .i64 ttl) (.int .i64 proto) (.bool kb) (.int .u32 src) (.int .u32 dst) (.slice ad n cd)
      clear x0 x1 x2 x3 x4 x5 x6 z0 z1 z2 z3 z4 z5 z6 k0 k1 k2 k3 k4 k5 k6 k7 l0 l1 l2 l3 l4 l5 l6 l7
      generalize ((((((((w11.setCell ⟨w.heap.size + 1, 0, none⟩ (.int .i64 tos)).setCell ⟨w.heap.size + 1, 1, none⟩ (.int .i64 id)).setCell ⟨w.heap.size + 1, 2, none⟩ (.int .i64 ttl)).setCell ⟨w.heap.size + 1, 3, none⟩ (.int .i64 proto)).setCell ⟨w.heap.size + 1, 4, none⟩ (.bool kb)).setCell ⟨w.heap.size + 1, 5, none⟩ (.int .u32 src)).setCell ⟨w.heap.size + 1, 6, none⟩ (.int .u32 dst)).setCell ⟨w.heap.size + 1, 7, none⟩ (.slice ad n cd)) = wf at *
      obtain ⟨⟨c0, c1, c2, c3, c4, c5, c6, c7⟩, -⟩ := hc.eight
      exact bodyPost_ret (v := .agg #[.int .i64 tos, .int .i64 id, .int .i64 ttl, .int .i64 proto, .bool kb, .int .u32 src, .int .u32 dst, .slice ad n cd]) (by simp [results, Try.results7, go_sem, c0, c1, c2, c3, c4, c5, c6, c7]) rfl ⟨tos, id, ttl, proto, kb, src, dst, rfl, hsrc, hdst, hgf⟩
end Go.Proofs.Ytcpaphehhjnemaa
