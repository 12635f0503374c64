/- What the encoders of transport answer to anything, both sides. -/
import Derived.Test.YtlkhdbgknkjioaaKe
import Derived.Test.YtlkhdbgknkjioaaKn
import Derived.Test.YtlkhdbgknkjioaaKu
import Derived.Test.YtlkhdbgknkjioaaKp
import Derived.WalkKit
import Derived.WalkSpells
import Derived.WalkLawsBesides
import Derived.WalkSmall
import Derived.Handy
import Derived.BigQuiet
import Derived.Deep.QuietTactic
import Derived.Deep.RegionHeld3
import Derived.Deep.DeepFit
import Derived.Below
import Derived.Lib.Hide
import Derived.Lib.QuietBelow
namespace Go.Proofs.Ytlkhdbgknkjioaa
open Go Go.RowKit Go.Sort
set_option maxRecDepth 100000
set_option linter.unusedVariables false
set_option linter.unusedSimpArgs false
def EncRes (w : World) (E : Nat) (L : List Nat) (e : Ending) (w' : World) : Prop := ∃ v', e = .returned (.tuple #[v', .int .i64 E]) ∧ OwB w.heap.size w' v' L ∧ Gr w w'
def in16 (x : Int) : Prop := 0 ≤ x ∧ x ≤ 65535
def in8 (x : Int) : Prop := 0 ≤ x ∧ x ≤ 255
def in32 (x : Int) : Prop := 0 ≤ x ∧ x < 4294967296
instance (x : Int) : Decidable (in16 x) := by unfold in16; infer_instance
instance (x : Int) : Decidable (in8 x) := by unfold in8; infer_instance
instance (x : Int) : Decidable (in32 x) := by unfold in32; infer_instance
def echoOk (x y : Int) : Prop := in16 x ∧ in16 y
def noteOk (t c : Int) : Prop := ntOk t ∧ in8 c
def udpOk (x y : Int) : Prop := in16 x ∧ in16 y
def tcpOk (sp dp sq ak fl wi : Int) : Prop := (in16 sp ∧ in16 dp ∧ in16 wi) ∧ (in32 sq ∧ in32 ak) ∧ in8 fl
instance (x y : Int) : Decidable (echoOk x y) := by unfold echoOk; infer_instance
instance (x y : Int) : Decidable (noteOk x y) := by unfold noteOk; infer_instance
instance (x y : Int) : Decidable (udpOk x y) := by unfold udpOk; infer_instance
instance (a b c d e f : Int) : Decidable (tcpOk a b c d e f) := by unfold tcpOk; infer_instance
def encE (ok : Prop) [Decidable ok] (least most n : Nat) : Nat := if ok then (if n < least then 3 else if most < n then 5 else 0) else 1
def encR (ok : Prop) [Decidable ok] (least most : Nat) (d m : List Nat) : List Nat := if ok ∧ least ≤ d.length ∧ d.length ≤ most then m else []
theorem encE_no {ok : Prop} [Decidable ok] {a b n : Nat} (h : ¬ ok) : encE ok a b n = 1 := if_neg h
theorem encE_short {ok : Prop} [Decidable ok] {a b n : Nat} (h : ok) (k : n < a) : encE ok a b n = 3 := (if_pos h).trans (if_pos k)
theorem encE_long {ok : Prop} [Decidable ok] {a b n : Nat} (h : ok) (k : ¬ n < a) (j : b < n) : encE ok a b n = 5 := (if_pos h).trans ((if_neg k).trans (if_pos j))
theorem encE_ok {ok : Prop} [Decidable ok] {a b n : Nat} (h : ok) (k : ¬ n < a) (j : ¬ b < n) : encE ok a b n = 0 := (if_pos h).trans ((if_neg k).trans (if_neg j))
theorem encR_ok {ok : Prop} [Decidable ok] {a b : Nat} {d m : List Nat} (h : ok) (k : ¬ d.length < a) (j : ¬ b < d.length) : encR ok a b d m = m := if_pos ⟨h, by omega, by omega⟩
theorem encR_no {ok : Prop} [Decidable ok] {a b : Nat} {d m : List Nat} (h : ¬ (ok ∧ ¬ d.length < a ∧ ¬ b < d.length)) : encR ok a b d m = [] := if_neg (fun k => h ⟨k.1, by omega, by omega⟩)
set_option maxHeartbeats 4000000 in
theorem echo_any {p : Nat → Prop} {v : Value} {d : List Nat} (r : Bool) (x y : Int) (w : World) (hr : Rb p w v d) (hl : d.length ≤ 30000) :
    Calls Try.prog 17 #[.agg #[.bool r, .int .i64 x, .int .i64 y, v]] w (EncRes w (encE (echoOk x y) 0 1472 d.length) (encR (echoOk x y) 0 1472 d (echoL r x.toNat y.toNat d))) := by
  by_cases h0 : in16 x ∧ in16 y
  rotate_left
  · skip
    obtain ⟨av, cv, rfl, -, -⟩ := hr.form
    have HE := Lib.hid (encE_no (ok := echoOk x y) (a := 0) (b := 1472) (n := d.length) (fun h => h0 (h)))
    have HRN := Lib.hid (encR_no (ok := echoOk x y) (a := 0) (b := 1472) (d := d) (m := echoL r x.toNat y.toNat d) (fun hh => h0 (let h := hh.1; h)))
    rw [HE.out, HRN.out]
    obtain ⟨N, hN⟩ : ∃ N, N = d.length := ⟨_, rfl⟩
    rw [← hN]
    have hN3 : N ≤ 30000 := by omega
    have hC := CL.new w [.bool r, .int .i64 x, .int .i64 y, .slice av N cv] 36 _ rfl
    have hG := Gr.alloc (Gr.refl w) (.cells #[.bool r, .int .i64 x, .int .i64 y, .slice av N cv] 36)
    have HK0 := Lib.hid (fun w1 : World => fit_two (T := 3) 2 x y w1 (by omega) (by omega) false (by symm; rw [decide_eq_false_iff_not]; unfold in16 at h0; omega))
    clear hr HE HRN hN
    go_enter Try.func17, Try.ntmps17
    go_upto_region 1 with fail
    generalize w.alloc (.cells #[.bool r, .int .i64 x, .int .i64 y, .slice av N cv] 36) = w1 at hC hG ⊢
    generalize w.heap.size = g0 at hC ⊢
    obtain ⟨⟨x0, x1, x2, x3⟩, -⟩ := hC.four
    go_wp2_with fail
    refine (HK0.out _).mono ?_
    rintro e w2 ⟨rfl, hg⟩
    replace hG := hG.step hg
    replace hC := hC.gr hg
    clear hg x0 x1 x2 x3
    obtain ⟨⟨x0, x1, x2, x3⟩, -⟩ := hC.four
    go_wp2_with fail
    go_ret2
    exact ⟨_, rfl, OwB.nil _ _, hG⟩
  have hok : echoOk x y := h0
  have hs1 : ¬ d.length < 0 := by omega
  by_cases hs2 : 1472 < d.length
  · skip
    obtain ⟨av, cv, rfl, -, -⟩ := hr.form
    have HE := Lib.hid (encE_long (ok := echoOk x y) (a := 0) (b := 1472) (n := d.length) hok hs1 hs2)
    have HRN := Lib.hid (encR_no (ok := echoOk x y) (a := 0) (b := 1472) (d := d) (m := echoL r x.toNat y.toNat d) (fun h => h.2.2 hs2))
    rw [HE.out, HRN.out]
    obtain ⟨N, hN⟩ : ∃ N, N = d.length := ⟨_, rfl⟩
    rw [← hN]
    have hN3 : N ≤ 30000 := by omega
    have s2 : decide ((1472 : Int) < (N : Int)) = true := by rw [decide_eq_true_eq]; omega
    have hC := CL.new w [.bool r, .int .i64 x, .int .i64 y, .slice av N cv] 36 _ rfl
    have hG := Gr.alloc (Gr.refl w) (.cells #[.bool r, .int .i64 x, .int .i64 y, .slice av N cv] 36)
    have HK0 := Lib.hid (fun w1 : World => fit_two (T := 3) 2 x y w1 (by omega) (by omega) true (by symm; rw [decide_eq_true_eq]; unfold in16 at h0; omega))
    clear hr HE HRN hN
    go_enter Try.func17, Try.ntmps17
    go_upto_region 1 with fail
    generalize w.alloc (.cells #[.bool r, .int .i64 x, .int .i64 y, .slice av N cv] 36) = w1 at hC hG ⊢
    generalize w.heap.size = g0 at hC ⊢
    obtain ⟨⟨x0, x1, x2, x3⟩, -⟩ := hC.four
    go_wp2_with fail
    refine (HK0.out _).mono ?_
    rintro e w2 ⟨rfl, hg⟩
    replace hG := hG.step hg
    replace hC := hC.gr hg
    clear hg x0 x1 x2 x3
    obtain ⟨⟨x0, x1, x2, x3⟩, -⟩ := hC.four
    go_wp2_with fail
    go_ret2
    exact ⟨_, rfl, OwB.nil _ _, hG⟩
  rw [encE_ok hok hs1 hs2, encR_ok hok hs1 hs2]
  obtain ⟨x, rfl⟩ := Int.eq_ofNat_of_zero_le (show 0 ≤ x by unfold echoOk in16 at hok; omega)
  obtain ⟨y, rfl⟩ := Int.eq_ofNat_of_zero_le (show 0 ≤ y by unfold echoOk in16 at hok; omega)
  simp only [Int.toNat_natCast]
  refine (echo_ok r x y w hr (by unfold echoOk in16 at hok; omega) (by unfold echoOk in16 at hok; omega) (by omega)).mono ?_
  rintro e w' ⟨v', rfl, ho, hg⟩
  exact ⟨v', rfl, ho, hg⟩
set_option maxHeartbeats 4000000 in
theorem recho_any {p : Nat → Prop} {v : Value} {d : List Nat} (r : Bool) (x y : Int) (w : World) (hr : Rb p w v d) (hl : d.length ≤ 30000) :
    Calls Try.prog 47 #[.agg #[.bool r, .int .i64 x, .int .i64 y, v]] w (EncRes w (encE (echoOk x y) 0 1472 d.length) (encR (echoOk x y) 0 1472 d (echoL r x.toNat y.toNat d))) := by
  by_cases h0 : in16 x
  rotate_left
  · skip
    obtain ⟨av, cv, rfl, -, -⟩ := hr.form
    have HE := Lib.hid (encE_no (ok := echoOk x y) (a := 0) (b := 1472) (n := d.length) (fun h => h0 (h.1)))
    have HRN := Lib.hid (encR_no (ok := echoOk x y) (a := 0) (b := 1472) (d := d) (m := echoL r x.toNat y.toNat d) (fun hh => h0 (let h := hh.1; h.1)))
    rw [HE.out, HRN.out]
    obtain ⟨N, hN⟩ : ∃ N, N = d.length := ⟨_, rfl⟩
    rw [← hN]
    have hN3 : N ≤ 30000 := by omega
    have hC := CL.new w [.bool r, .int .i64 x, .int .i64 y, .slice av N cv] 36 _ rfl
    have hG := Gr.alloc (Gr.refl w) (.cells #[.bool r, .int .i64 x, .int .i64 y, .slice av N cv] 36)
    have HK0 := Lib.hid (fun w1 : World => r6word_any x w1 false (by symm; rw [decide_eq_false_iff_not]; exact h0))
    clear hr HE HRN hN
    go_enter Try.func47, Try.ntmps47
    go_upto_region 1 with fail
    generalize w.alloc (.cells #[.bool r, .int .i64 x, .int .i64 y, .slice av N cv] 36) = w1 at hC hG ⊢
    generalize w.heap.size = g0 at hC ⊢
    obtain ⟨⟨x0, x1, x2, x3⟩, -⟩ := hC.four
    go_wp2_with fail
    refine (HK0.out _).mono ?_
    rintro e w2 ⟨rfl, rfl⟩
    go_wp2_with fail
    go_ret2
    exact ⟨_, rfl, OwB.nil _ _, hG⟩
  by_cases h1 : in16 y
  rotate_left
  · skip
    obtain ⟨av, cv, rfl, -, -⟩ := hr.form
    have HE := Lib.hid (encE_no (ok := echoOk x y) (a := 0) (b := 1472) (n := d.length) (fun h => h1 (h.2)))
    have HRN := Lib.hid (encR_no (ok := echoOk x y) (a := 0) (b := 1472) (d := d) (m := echoL r x.toNat y.toNat d) (fun hh => h1 (let h := hh.1; h.2)))
    rw [HE.out, HRN.out]
    obtain ⟨N, hN⟩ : ∃ N, N = d.length := ⟨_, rfl⟩
    rw [← hN]
    have hN3 : N ≤ 30000 := by omega
    have hC := CL.new w [.bool r, .int .i64 x, .int .i64 y, .slice av N cv] 36 _ rfl
    have hG := Gr.alloc (Gr.refl w) (.cells #[.bool r, .int .i64 x, .int .i64 y, .slice av N cv] 36)
    have HK0 := Lib.hid (fun w1 : World => r6word_any x w1 true (by symm; rw [decide_eq_true_eq]; exact h0))
    have HK1 := Lib.hid (fun w1 : World => r6word_any y w1 false (by symm; rw [decide_eq_false_iff_not]; exact h1))
    clear hr HE HRN hN
    go_enter Try.func47, Try.ntmps47
    go_upto_region 1 with fail
    generalize w.alloc (.cells #[.bool r, .int .i64 x, .int .i64 y, .slice av N cv] 36) = w1 at hC hG ⊢
    generalize w.heap.size = g0 at hC ⊢
    obtain ⟨⟨x0, x1, x2, x3⟩, -⟩ := hC.four
    go_wp2_with fail
    refine (HK0.out _).mono ?_
    rintro e w2 ⟨rfl, rfl⟩
    go_wp2_with fail
    refine (HK1.out _).mono ?_
    rintro e w3 ⟨rfl, rfl⟩
    go_wp2_with fail
    go_ret2
    exact ⟨_, rfl, OwB.nil _ _, hG⟩
  have hok : echoOk x y := ⟨h0, h1⟩
  have hs1 : ¬ d.length < 0 := by omega
  by_cases hs2 : 1472 < d.length
  · skip
    obtain ⟨av, cv, rfl, -, -⟩ := hr.form
    have HE := Lib.hid (encE_long (ok := echoOk x y) (a := 0) (b := 1472) (n := d.length) hok hs1 hs2)
    have HRN := Lib.hid (encR_no (ok := echoOk x y) (a := 0) (b := 1472) (d := d) (m := echoL r x.toNat y.toNat d) (fun h => h.2.2 hs2))
    rw [HE.out, HRN.out]
    obtain ⟨N, hN⟩ : ∃ N, N = d.length := ⟨_, rfl⟩
    rw [← hN]
    have hN3 : N ≤ 30000 := by omega
    obtain ⟨M, hM⟩ : ∃ M, M = N + 8 := ⟨_, rfl⟩
    have e8 : (N : Int) + 8 = (M : Int) := by omega
    have s2 : decide ((1480 : Int) < (M : Int)) = true := by rw [decide_eq_true_eq]; omega
    have hM2 : M ≤ 40000 := by omega
    clear hM
    have hC := CL.new w [.bool r, .int .i64 x, .int .i64 y, .slice av N cv] 36 _ rfl
    have hG := Gr.alloc (Gr.refl w) (.cells #[.bool r, .int .i64 x, .int .i64 y, .slice av N cv] 36)
    have HK0 := Lib.hid (fun w1 : World => r6word_any x w1 true (by symm; rw [decide_eq_true_eq]; exact h0))
    have HK1 := Lib.hid (fun w1 : World => r6word_any y w1 true (by symm; rw [decide_eq_true_eq]; exact h1))
    clear hr HE HRN hN
    go_enter Try.func47, Try.ntmps47
    go_upto_region 1 with fail
    generalize w.alloc (.cells #[.bool r, .int .i64 x, .int .i64 y, .slice av N cv] 36) = w1 at hC hG ⊢
    generalize w.heap.size = g0 at hC ⊢
    obtain ⟨⟨x0, x1, x2, x3⟩, -⟩ := hC.four
    go_wp2_with fail
    refine (HK0.out _).mono ?_
    rintro e w2 ⟨rfl, rfl⟩
    go_wp2_with fail
    refine (HK1.out _).mono ?_
    rintro e w3 ⟨rfl, rfl⟩
    go_wp2_with fail
    go_ret2
    exact ⟨_, rfl, OwB.nil _ _, hG⟩
  rw [encE_ok hok hs1 hs2, encR_ok hok hs1 hs2]
  obtain ⟨x, rfl⟩ := Int.eq_ofNat_of_zero_le (show 0 ≤ x by unfold echoOk in16 at hok; omega)
  obtain ⟨y, rfl⟩ := Int.eq_ofNat_of_zero_le (show 0 ≤ y by unfold echoOk in16 at hok; omega)
  simp only [Int.toNat_natCast]
  refine (recho_ok r x y w hr (by unfold echoOk in16 at hok; omega) (by unfold echoOk in16 at hok; omega) (by omega)).mono ?_
  rintro e w' ⟨v', rfl, ho, hg⟩
  exact ⟨v', rfl, ho, hg⟩
set_option maxHeartbeats 4000000 in
theorem udp_any {p : Nat → Prop} {v : Value} {d : List Nat} (src dst : Nat) (x y : Int) (w : World) (hr : Rb p w v d) (hl : d.length ≤ 30000) (hs : src < 4294967296) (hd : dst < 4294967296) :
    Calls Try.prog 19 #[.int .u32 src, .int .u32 dst, .agg #[.int .i64 x, .int .i64 y, v]] w (EncRes w (encE (udpOk x y) 0 1472 d.length) (encR (udpOk x y) 0 1472 d (udpL src dst x.toNat y.toNat d))) := by
  by_cases h0 : in16 x ∧ in16 y
  rotate_left
  · skip
    obtain ⟨av, cv, rfl, -, -⟩ := hr.form
    have HE := Lib.hid (encE_no (ok := udpOk x y) (a := 0) (b := 1472) (n := d.length) (fun h => h0 (h)))
    have HRN := Lib.hid (encR_no (ok := udpOk x y) (a := 0) (b := 1472) (d := d) (m := udpL src dst x.toNat y.toNat d) (fun hh => h0 (let h := hh.1; h)))
    rw [HE.out, HRN.out]
    obtain ⟨N, hN⟩ : ∃ N, N = d.length := ⟨_, rfl⟩
    rw [← hN]
    have hN3 : N ≤ 30000 := by omega
    have hC := CL.new w [.int .i64 x, .int .i64 y, .slice av N cv] 41 _ rfl
    have hG := Gr.alloc (Gr.refl w) (.cells #[.int .i64 x, .int .i64 y, .slice av N cv] 41)
    have HK0 := Lib.hid (fun w1 : World => fit_two (T := 3) 2 x y w1 (by omega) (by omega) false (by symm; rw [decide_eq_false_iff_not]; unfold in16 at h0; omega))
    clear hr HE HRN hN
    go_enter Try.func19, Try.ntmps19
    go_upto_region 1 with fail
    generalize w.alloc (.cells #[.int .i64 x, .int .i64 y, .slice av N cv] 41) = w1 at hC hG ⊢
    generalize w.heap.size = g0 at hC ⊢
    obtain ⟨⟨x0, x1, x2⟩, -⟩ := hC.three
    go_wp2_with fail
    refine (HK0.out _).mono ?_
    rintro e w2 ⟨rfl, hg⟩
    replace hG := hG.step hg
    replace hC := hC.gr hg
    clear hg x0 x1 x2
    obtain ⟨⟨x0, x1, x2⟩, -⟩ := hC.three
    go_wp2_with fail
    go_ret2
    exact ⟨_, rfl, OwB.nil _ _, hG⟩
  have hok : udpOk x y := h0
  have hs1 : ¬ d.length < 0 := by omega
  by_cases hs2 : 1472 < d.length
  · skip
    obtain ⟨av, cv, rfl, -, -⟩ := hr.form
    have HE := Lib.hid (encE_long (ok := udpOk x y) (a := 0) (b := 1472) (n := d.length) hok hs1 hs2)
    have HRN := Lib.hid (encR_no (ok := udpOk x y) (a := 0) (b := 1472) (d := d) (m := udpL src dst x.toNat y.toNat d) (fun h => h.2.2 hs2))
    rw [HE.out, HRN.out]
    obtain ⟨N, hN⟩ : ∃ N, N = d.length := ⟨_, rfl⟩
    rw [← hN]
    have hN3 : N ≤ 30000 := by omega
    have s2 : decide ((1472 : Int) < (N : Int)) = true := by rw [decide_eq_true_eq]; omega
    have hC := CL.new w [.int .i64 x, .int .i64 y, .slice av N cv] 41 _ rfl
    have hG := Gr.alloc (Gr.refl w) (.cells #[.int .i64 x, .int .i64 y, .slice av N cv] 41)
    have HK0 := Lib.hid (fun w1 : World => fit_two (T := 3) 2 x y w1 (by omega) (by omega) true (by symm; rw [decide_eq_true_eq]; unfold in16 at h0; omega))
    clear hr HE HRN hN
    go_enter Try.func19, Try.ntmps19
    go_upto_region 1 with fail
    generalize w.alloc (.cells #[.int .i64 x, .int .i64 y, .slice av N cv] 41) = w1 at hC hG ⊢
    generalize w.heap.size = g0 at hC ⊢
    obtain ⟨⟨x0, x1, x2⟩, -⟩ := hC.three
    go_wp2_with fail
    refine (HK0.out _).mono ?_
    rintro e w2 ⟨rfl, hg⟩
    replace hG := hG.step hg
    replace hC := hC.gr hg
    clear hg x0 x1 x2
    obtain ⟨⟨x0, x1, x2⟩, -⟩ := hC.three
    go_wp2_with fail
    go_ret2
    exact ⟨_, rfl, OwB.nil _ _, hG⟩
  rw [encE_ok hok hs1 hs2, encR_ok hok hs1 hs2]
  obtain ⟨x, rfl⟩ := Int.eq_ofNat_of_zero_le (show 0 ≤ x by unfold udpOk in16 at hok; omega)
  obtain ⟨y, rfl⟩ := Int.eq_ofNat_of_zero_le (show 0 ≤ y by unfold udpOk in16 at hok; omega)
  simp only [Int.toNat_natCast]
  refine (udp_ok src dst x y w hr hs hd (by unfold udpOk in16 at hok; omega) (by unfold udpOk in16 at hok; omega) (by omega)).mono ?_
  rintro e w' ⟨v', rfl, ho, hg⟩
  exact ⟨v', rfl, ho, hg⟩
set_option maxHeartbeats 4000000 in
theorem rudp_any {p : Nat → Prop} {v : Value} {d : List Nat} (src dst : Nat) (x y : Int) (w : World) (hr : Rb p w v d) (hl : d.length ≤ 30000) (hs : src < 4294967296) (hd : dst < 4294967296) :
    Calls Try.prog 49 #[.int .u32 src, .int .u32 dst, .agg #[.int .i64 x, .int .i64 y, v]] w (EncRes w (encE (udpOk x y) 0 1472 d.length) (encR (udpOk x y) 0 1472 d (udpL src dst x.toNat y.toNat d))) := by
  by_cases h0 : in16 x
  rotate_left
  · skip
    obtain ⟨av, cv, rfl, -, -⟩ := hr.form
    have HE := Lib.hid (encE_no (ok := udpOk x y) (a := 0) (b := 1472) (n := d.length) (fun h => h0 (h.1)))
    have HRN := Lib.hid (encR_no (ok := udpOk x y) (a := 0) (b := 1472) (d := d) (m := udpL src dst x.toNat y.toNat d) (fun hh => h0 (let h := hh.1; h.1)))
    rw [HE.out, HRN.out]
    obtain ⟨N, hN⟩ : ∃ N, N = d.length := ⟨_, rfl⟩
    rw [← hN]
    have hN3 : N ≤ 30000 := by omega
    have hC := CL.new w [.int .i64 x, .int .i64 y, .slice av N cv] 41 _ rfl
    have hG := Gr.alloc (Gr.refl w) (.cells #[.int .i64 x, .int .i64 y, .slice av N cv] 41)
    have HK0 := Lib.hid (fun w1 : World => r6word_any x w1 false (by symm; rw [decide_eq_false_iff_not]; exact h0))
    clear hr HE HRN hN
    go_enter Try.func49, Try.ntmps49
    go_upto_region 1 with fail
    generalize w.alloc (.cells #[.int .i64 x, .int .i64 y, .slice av N cv] 41) = w1 at hC hG ⊢
    generalize w.heap.size = g0 at hC ⊢
    obtain ⟨⟨x0, x1, x2⟩, -⟩ := hC.three
    go_wp2_with fail
    refine (HK0.out _).mono ?_
    rintro e w2 ⟨rfl, rfl⟩
    go_wp2_with fail
    go_ret2
    exact ⟨_, rfl, OwB.nil _ _, hG⟩
  by_cases h1 : in16 y
  rotate_left
  · skip
    obtain ⟨av, cv, rfl, -, -⟩ := hr.form
    have HE := Lib.hid (encE_no (ok := udpOk x y) (a := 0) (b := 1472) (n := d.length) (fun h => h1 (h.2)))
    have HRN := Lib.hid (encR_no (ok := udpOk x y) (a := 0) (b := 1472) (d := d) (m := udpL src dst x.toNat y.toNat d) (fun hh => h1 (let h := hh.1; h.2)))
    rw [HE.out, HRN.out]
    obtain ⟨N, hN⟩ : ∃ N, N = d.length := ⟨_, rfl⟩
    rw [← hN]
    have hN3 : N ≤ 30000 := by omega
    have hC := CL.new w [.int .i64 x, .int .i64 y, .slice av N cv] 41 _ rfl
    have hG := Gr.alloc (Gr.refl w) (.cells #[.int .i64 x, .int .i64 y, .slice av N cv] 41)
    have HK0 := Lib.hid (fun w1 : World => r6word_any x w1 true (by symm; rw [decide_eq_true_eq]; exact h0))
    have HK1 := Lib.hid (fun w1 : World => r6word_any y w1 false (by symm; rw [decide_eq_false_iff_not]; exact h1))
    clear hr HE HRN hN
    go_enter Try.func49, Try.ntmps49
    go_upto_region 1 with fail
    generalize w.alloc (.cells #[.int .i64 x, .int .i64 y, .slice av N cv] 41) = w1 at hC hG ⊢
    generalize w.heap.size = g0 at hC ⊢
    obtain ⟨⟨x0, x1, x2⟩, -⟩ := hC.three
    go_wp2_with fail
    refine (HK0.out _).mono ?_
    rintro e w2 ⟨rfl, rfl⟩
    go_wp2_with fail
    refine (HK1.out _).mono ?_
    rintro e w3 ⟨rfl, rfl⟩
    go_wp2_with fail
    go_ret2
    exact ⟨_, rfl, OwB.nil _ _, hG⟩
  have hok : udpOk x y := ⟨h0, h1⟩
  have hs1 : ¬ d.length < 0 := by omega
  by_cases hs2 : 1472 < d.length
  · skip
    obtain ⟨av, cv, rfl, -, -⟩ := hr.form
    have HE := Lib.hid (encE_long (ok := udpOk x y) (a := 0) (b := 1472) (n := d.length) hok hs1 hs2)
    have HRN := Lib.hid (encR_no (ok := udpOk x y) (a := 0) (b := 1472) (d := d) (m := udpL src dst x.toNat y.toNat d) (fun h => h.2.2 hs2))
    rw [HE.out, HRN.out]
    obtain ⟨N, hN⟩ : ∃ N, N = d.length := ⟨_, rfl⟩
    rw [← hN]
    have hN3 : N ≤ 30000 := by omega
    obtain ⟨M, hM⟩ : ∃ M, M = N + 8 := ⟨_, rfl⟩
    have e8 : (N : Int) + 8 = (M : Int) := by omega
    have s2 : decide ((1480 : Int) < (M : Int)) = true := by rw [decide_eq_true_eq]; omega
    have hM2 : M ≤ 40000 := by omega
    clear hM
    have hC := CL.new w [.int .i64 x, .int .i64 y, .slice av N cv] 41 _ rfl
    have hG := Gr.alloc (Gr.refl w) (.cells #[.int .i64 x, .int .i64 y, .slice av N cv] 41)
    have HK0 := Lib.hid (fun w1 : World => r6word_any x w1 true (by symm; rw [decide_eq_true_eq]; exact h0))
    have HK1 := Lib.hid (fun w1 : World => r6word_any y w1 true (by symm; rw [decide_eq_true_eq]; exact h1))
    clear hr HE HRN hN
    go_enter Try.func49, Try.ntmps49
    go_upto_region 1 with fail
    generalize w.alloc (.cells #[.int .i64 x, .int .i64 y, .slice av N cv] 41) = w1 at hC hG ⊢
    generalize w.heap.size = g0 at hC ⊢
    obtain ⟨⟨x0, x1, x2⟩, -⟩ := hC.three
    go_wp2_with fail
    refine (HK0.out _).mono ?_
    rintro e w2 ⟨rfl, rfl⟩
    go_wp2_with fail
    refine (HK1.out _).mono ?_
    rintro e w3 ⟨rfl, rfl⟩
    go_wp2_with fail
    go_ret2
    exact ⟨_, rfl, OwB.nil _ _, hG⟩
  rw [encE_ok hok hs1 hs2, encR_ok hok hs1 hs2]
  obtain ⟨x, rfl⟩ := Int.eq_ofNat_of_zero_le (show 0 ≤ x by unfold udpOk in16 at hok; omega)
  obtain ⟨y, rfl⟩ := Int.eq_ofNat_of_zero_le (show 0 ≤ y by unfold udpOk in16 at hok; omega)
  simp only [Int.toNat_natCast]
  refine (rudp_ok src dst x y w hr hs hd (by unfold udpOk in16 at hok; omega) (by unfold udpOk in16 at hok; omega) (by omega)).mono ?_
  rintro e w' ⟨v', rfl, ho, hg⟩
  exact ⟨v', rfl, ho, hg⟩
set_option maxHeartbeats 4000000 in
theorem note_any {p : Nat → Prop} {v : Value} {d : List Nat} (t c : Int) (w : World) (hr : Rb p w v d) (hl : d.length ≤ 30000) :
    Calls Try.prog 18 #[.agg #[.int .i64 t, .int .i64 c, v]] w (EncRes w (encE (noteOk t c) 28 1472 d.length) (encR (noteOk t c) 28 1472 d (noteL t.toNat c.toNat d))) := by
  by_cases h0 : ntOk t
  rotate_left
  · skip
    obtain ⟨av, cv, rfl, -, -⟩ := hr.form
    have HE := Lib.hid (encE_no (ok := noteOk t c) (a := 28) (b := 1472) (n := d.length) (fun h => h0 (h.1)))
    have HRN := Lib.hid (encR_no (ok := noteOk t c) (a := 28) (b := 1472) (d := d) (m := noteL t.toNat c.toNat d) (fun hh => h0 (let h := hh.1; h.1)))
    rw [HE.out, HRN.out]
    obtain ⟨N, hN⟩ : ∃ N, N = d.length := ⟨_, rfl⟩
    rw [← hN]
    have hN3 : N ≤ 30000 := by omega
    have hC := CL.new w [.int .i64 t, .int .i64 c, .slice av N cv] 39 _ rfl
    have hG := Gr.alloc (Gr.refl w) (.cells #[.int .i64 t, .int .i64 c, .slice av N cv] 39)
    have HK0 := Lib.hid (fun w1 : World => ntype_any t w1 false (by symm; rw [decide_eq_false_iff_not]; exact h0))
    clear hr HE HRN hN
    go_enter Try.func18, Try.ntmps18
    go_upto_region 1 with fail
    generalize w.alloc (.cells #[.int .i64 t, .int .i64 c, .slice av N cv] 39) = w1 at hC hG ⊢
    generalize w.heap.size = g0 at hC ⊢
    obtain ⟨⟨x0, x1, x2⟩, -⟩ := hC.three
    go_wp2_with fail
    refine (HK0.out _).mono ?_
    rintro e w2 ⟨rfl, rfl⟩
    go_wp2_with fail
    go_ret2
    exact ⟨_, rfl, OwB.nil _ _, hG⟩
  by_cases h1 : in8 c
  rotate_left
  · skip
    obtain ⟨av, cv, rfl, -, -⟩ := hr.form
    have HE := Lib.hid (encE_no (ok := noteOk t c) (a := 28) (b := 1472) (n := d.length) (fun h => h1 (h.2)))
    have HRN := Lib.hid (encR_no (ok := noteOk t c) (a := 28) (b := 1472) (d := d) (m := noteL t.toNat c.toNat d) (fun hh => h1 (let h := hh.1; h.2)))
    rw [HE.out, HRN.out]
    obtain ⟨N, hN⟩ : ∃ N, N = d.length := ⟨_, rfl⟩
    rw [← hN]
    have hN3 : N ≤ 30000 := by omega
    have hC := CL.new w [.int .i64 t, .int .i64 c, .slice av N cv] 39 _ rfl
    have hG := Gr.alloc (Gr.refl w) (.cells #[.int .i64 t, .int .i64 c, .slice av N cv] 39)
    have HK0 := Lib.hid (fun w1 : World => ntype_any t w1 true (by symm; rw [decide_eq_true_eq]; exact h0))
    have HK1 := Lib.hid (fun w1 : World => fit_one (T := 3) 1 c w1 (by omega) (by omega) false (by symm; rw [decide_eq_false_iff_not]; unfold in8 at h1; omega))
    clear hr HE HRN hN
    go_enter Try.func18, Try.ntmps18
    go_upto_region 1 with fail
    generalize w.alloc (.cells #[.int .i64 t, .int .i64 c, .slice av N cv] 39) = w1 at hC hG ⊢
    generalize w.heap.size = g0 at hC ⊢
    obtain ⟨⟨x0, x1, x2⟩, -⟩ := hC.three
    go_wp2_with fail
    refine (HK0.out _).mono ?_
    rintro e w2 ⟨rfl, rfl⟩
    go_wp2_with fail
    refine (HK1.out _).mono ?_
    rintro e w3 ⟨rfl, hg⟩
    replace hG := hG.step hg
    replace hC := hC.gr hg
    clear hg x0 x1 x2
    obtain ⟨⟨x0, x1, x2⟩, -⟩ := hC.three
    go_wp2_with fail
    go_ret2
    exact ⟨_, rfl, OwB.nil _ _, hG⟩
  have hok : noteOk t c := ⟨h0, h1⟩
  by_cases hs1 : d.length < 28
  · skip
    obtain ⟨av, cv, rfl, -, -⟩ := hr.form
    have HE := Lib.hid (encE_short (ok := noteOk t c) (a := 28) (b := 1472) (n := d.length) hok hs1)
    have HRN := Lib.hid (encR_no (ok := noteOk t c) (a := 28) (b := 1472) (d := d) (m := noteL t.toNat c.toNat d) (fun h => h.2.1 hs1))
    rw [HE.out, HRN.out]
    obtain ⟨N, hN⟩ : ∃ N, N = d.length := ⟨_, rfl⟩
    rw [← hN]
    have hN3 : N ≤ 30000 := by omega
    have s1 : decide ((N : Int) < 28) = true := by rw [decide_eq_true_eq]; omega
    have hC := CL.new w [.int .i64 t, .int .i64 c, .slice av N cv] 39 _ rfl
    have hG := Gr.alloc (Gr.refl w) (.cells #[.int .i64 t, .int .i64 c, .slice av N cv] 39)
    have HK0 := Lib.hid (fun w1 : World => ntype_any t w1 true (by symm; rw [decide_eq_true_eq]; exact h0))
    have HK1 := Lib.hid (fun w1 : World => fit_one (T := 3) 1 c w1 (by omega) (by omega) true (by symm; rw [decide_eq_true_eq]; unfold in8 at h1; omega))
    clear hr HE HRN hN
    go_enter Try.func18, Try.ntmps18
    go_upto_region 1 with fail
    generalize w.alloc (.cells #[.int .i64 t, .int .i64 c, .slice av N cv] 39) = w1 at hC hG ⊢
    generalize w.heap.size = g0 at hC ⊢
    obtain ⟨⟨x0, x1, x2⟩, -⟩ := hC.three
    go_wp2_with fail
    refine (HK0.out _).mono ?_
    rintro e w2 ⟨rfl, rfl⟩
    go_wp2_with fail
    refine (HK1.out _).mono ?_
    rintro e w3 ⟨rfl, hg⟩
    replace hG := hG.step hg
    replace hC := hC.gr hg
    clear hg x0 x1 x2
    obtain ⟨⟨x0, x1, x2⟩, -⟩ := hC.three
    go_wp2_with fail
    go_ret2
    exact ⟨_, rfl, OwB.nil _ _, hG⟩
  by_cases hs2 : 1472 < d.length
  · skip
    obtain ⟨av, cv, rfl, -, -⟩ := hr.form
    have HE := Lib.hid (encE_long (ok := noteOk t c) (a := 28) (b := 1472) (n := d.length) hok hs1 hs2)
    have HRN := Lib.hid (encR_no (ok := noteOk t c) (a := 28) (b := 1472) (d := d) (m := noteL t.toNat c.toNat d) (fun h => h.2.2 hs2))
    rw [HE.out, HRN.out]
    obtain ⟨N, hN⟩ : ∃ N, N = d.length := ⟨_, rfl⟩
    rw [← hN]
    have hN3 : N ≤ 30000 := by omega
    have s1 : decide ((N : Int) < 28) = false := by rw [decide_eq_false_iff_not]; omega
    have s2 : decide ((1472 : Int) < (N : Int)) = true := by rw [decide_eq_true_eq]; omega
    have hC := CL.new w [.int .i64 t, .int .i64 c, .slice av N cv] 39 _ rfl
    have hG := Gr.alloc (Gr.refl w) (.cells #[.int .i64 t, .int .i64 c, .slice av N cv] 39)
    have HK0 := Lib.hid (fun w1 : World => ntype_any t w1 true (by symm; rw [decide_eq_true_eq]; exact h0))
    have HK1 := Lib.hid (fun w1 : World => fit_one (T := 3) 1 c w1 (by omega) (by omega) true (by symm; rw [decide_eq_true_eq]; unfold in8 at h1; omega))
    clear hr HE HRN hN
    go_enter Try.func18, Try.ntmps18
    go_upto_region 1 with fail
    generalize w.alloc (.cells #[.int .i64 t, .int .i64 c, .slice av N cv] 39) = w1 at hC hG ⊢
    generalize w.heap.size = g0 at hC ⊢
    obtain ⟨⟨x0, x1, x2⟩, -⟩ := hC.three
    go_wp2_with fail
    refine (HK0.out _).mono ?_
    rintro e w2 ⟨rfl, rfl⟩
    go_wp2_with fail
    refine (HK1.out _).mono ?_
    rintro e w3 ⟨rfl, hg⟩
    replace hG := hG.step hg
    replace hC := hC.gr hg
    clear hg x0 x1 x2
    obtain ⟨⟨x0, x1, x2⟩, -⟩ := hC.three
    go_wp2_with fail
    go_ret2
    exact ⟨_, rfl, OwB.nil _ _, hG⟩
  rw [encE_ok hok hs1 hs2, encR_ok hok hs1 hs2]
  have htt : t = 3 ∨ t = 11 := hok.1
  obtain ⟨c, rfl⟩ := Int.eq_ofNat_of_zero_le (show 0 ≤ c by unfold noteOk ntOk in8 at hok; omega)
  obtain ⟨t, rfl⟩ := Int.eq_ofNat_of_zero_le (show 0 ≤ t by omega)
  simp only [Int.toNat_natCast]
  refine (note_ok t c w hr (by omega) (by unfold noteOk ntOk in8 at hok; omega) (by omega) (by omega)).mono ?_
  rintro e w' ⟨v', rfl, ho, hg⟩
  exact ⟨v', rfl, ho, hg⟩
set_option maxHeartbeats 4000000 in
theorem rnote_any {p : Nat → Prop} {v : Value} {d : List Nat} (t c : Int) (w : World) (hr : Rb p w v d) (hl : d.length ≤ 30000) :
    Calls Try.prog 48 #[.agg #[.int .i64 t, .int .i64 c, v]] w (EncRes w (encE (noteOk t c) 28 1472 d.length) (encR (noteOk t c) 28 1472 d (noteL t.toNat c.toNat d))) := by
  by_cases h0 : ntOk t
  rotate_left
  · skip
    obtain ⟨av, cv, rfl, -, -⟩ := hr.form
    have HE := Lib.hid (encE_no (ok := noteOk t c) (a := 28) (b := 1472) (n := d.length) (fun h => h0 (h.1)))
    have HRN := Lib.hid (encR_no (ok := noteOk t c) (a := 28) (b := 1472) (d := d) (m := noteL t.toNat c.toNat d) (fun hh => h0 (let h := hh.1; h.1)))
    rw [HE.out, HRN.out]
    obtain ⟨N, hN⟩ : ∃ N, N = d.length := ⟨_, rfl⟩
    rw [← hN]
    have hN3 : N ≤ 30000 := by omega
    have b1 : (t != 3) = true := by rw [bne_iff_ne]; intro h; exact h0 (.inl h)
    have b2 : (t != 11) = true := by rw [bne_iff_ne]; intro h; exact h0 (.inr h)
    have hC := CL.new w [.int .i64 t, .int .i64 c, .slice av N cv] 39 _ rfl
    have hG := Gr.alloc (Gr.refl w) (.cells #[.int .i64 t, .int .i64 c, .slice av N cv] 39)
    clear hr HE HRN hN
    go_enter Try.func48, Try.ntmps48
    go_upto_region 1 with fail
    generalize w.alloc (.cells #[.int .i64 t, .int .i64 c, .slice av N cv] 39) = w1 at hC hG ⊢
    generalize w.heap.size = g0 at hC ⊢
    obtain ⟨⟨x0, x1, x2⟩, -⟩ := hC.three
    go_wp2_with fail
    go_ret2
    exact ⟨_, rfl, OwB.nil _ _, hG⟩
  by_cases h1 : in8 c
  rotate_left
  · skip
    obtain ⟨av, cv, rfl, -, -⟩ := hr.form
    have HE := Lib.hid (encE_no (ok := noteOk t c) (a := 28) (b := 1472) (n := d.length) (fun h => h1 (h.2)))
    have HRN := Lib.hid (encR_no (ok := noteOk t c) (a := 28) (b := 1472) (d := d) (m := noteL t.toNat c.toNat d) (fun hh => h1 (let h := hh.1; h.2)))
    rw [HE.out, HRN.out]
    obtain ⟨N, hN⟩ : ∃ N, N = d.length := ⟨_, rfl⟩
    rw [← hN]
    have hN3 : N ≤ 30000 := by omega
    have hC := CL.new w [.int .i64 t, .int .i64 c, .slice av N cv] 39 _ rfl
    have hG := Gr.alloc (Gr.refl w) (.cells #[.int .i64 t, .int .i64 c, .slice av N cv] 39)
    have HK1 := Lib.hid (fun w1 : World => r6octet_any c w1 false (by symm; rw [decide_eq_false_iff_not]; exact h1))
    clear hr HE HRN hN
    have key : (t != 3) = false ∨ ((t != 3) = true ∧ (t != 11) = false) := by
      rcases h0 with rfl | rfl
      · exact .inl rfl
      · exact .inr ⟨rfl, rfl⟩
    rcases key with b1 | ⟨b1, b2⟩
    · skip
      go_enter Try.func48, Try.ntmps48
      go_upto_region 1 with fail
      generalize w.alloc (.cells #[.int .i64 t, .int .i64 c, .slice av N cv] 39) = w1 at hC hG ⊢
      generalize w.heap.size = g0 at hC ⊢
      obtain ⟨⟨x0, x1, x2⟩, -⟩ := hC.three
      go_wp2_with fail
      refine (HK1.out _).mono ?_
      rintro e w2 ⟨rfl, rfl⟩
      go_wp2_with fail
      go_ret2
      exact ⟨_, rfl, OwB.nil _ _, hG⟩
    · skip
      go_enter Try.func48, Try.ntmps48
      go_upto_region 1 with fail
      generalize w.alloc (.cells #[.int .i64 t, .int .i64 c, .slice av N cv] 39) = w1 at hC hG ⊢
      generalize w.heap.size = g0 at hC ⊢
      obtain ⟨⟨x0, x1, x2⟩, -⟩ := hC.three
      go_wp2_with fail
      refine (HK1.out _).mono ?_
      rintro e w2 ⟨rfl, rfl⟩
      go_wp2_with fail
      go_ret2
      exact ⟨_, rfl, OwB.nil _ _, hG⟩
  have hok : noteOk t c := ⟨h0, h1⟩
  by_cases hs1 : d.length < 28
  · skip
    obtain ⟨av, cv, rfl, -, -⟩ := hr.form
    have HE := Lib.hid (encE_short (ok := noteOk t c) (a := 28) (b := 1472) (n := d.length) hok hs1)
    have HRN := Lib.hid (encR_no (ok := noteOk t c) (a := 28) (b := 1472) (d := d) (m := noteL t.toNat c.toNat d) (fun h => h.2.1 hs1))
    rw [HE.out, HRN.out]
    obtain ⟨N, hN⟩ : ∃ N, N = d.length := ⟨_, rfl⟩
    rw [← hN]
    have hN3 : N ≤ 30000 := by omega
    have s1 : decide ((N : Int) < 28) = true := by rw [decide_eq_true_eq]; omega
    have hC := CL.new w [.int .i64 t, .int .i64 c, .slice av N cv] 39 _ rfl
    have hG := Gr.alloc (Gr.refl w) (.cells #[.int .i64 t, .int .i64 c, .slice av N cv] 39)
    have HK1 := Lib.hid (fun w1 : World => r6octet_any c w1 true (by symm; rw [decide_eq_true_eq]; exact h1))
    clear hr HE HRN hN
    have key : (t != 3) = false ∨ ((t != 3) = true ∧ (t != 11) = false) := by
      rcases h0 with rfl | rfl
      · exact .inl rfl
      · exact .inr ⟨rfl, rfl⟩
    rcases key with b1 | ⟨b1, b2⟩
    · skip
      go_enter Try.func48, Try.ntmps48
      go_upto_region 1 with fail
      generalize w.alloc (.cells #[.int .i64 t, .int .i64 c, .slice av N cv] 39) = w1 at hC hG ⊢
      generalize w.heap.size = g0 at hC ⊢
      obtain ⟨⟨x0, x1, x2⟩, -⟩ := hC.three
      go_wp2_with fail
      refine (HK1.out _).mono ?_
      rintro e w2 ⟨rfl, rfl⟩
      go_wp2_with fail
      go_ret2
      exact ⟨_, rfl, OwB.nil _ _, hG⟩
    · skip
      go_enter Try.func48, Try.ntmps48
      go_upto_region 1 with fail
      generalize w.alloc (.cells #[.int .i64 t, .int .i64 c, .slice av N cv] 39) = w1 at hC hG ⊢
      generalize w.heap.size = g0 at hC ⊢
      obtain ⟨⟨x0, x1, x2⟩, -⟩ := hC.three
      go_wp2_with fail
      refine (HK1.out _).mono ?_
      rintro e w2 ⟨rfl, rfl⟩
      go_wp2_with fail
      go_ret2
      exact ⟨_, rfl, OwB.nil _ _, hG⟩
  by_cases hs2 : 1472 < d.length
  · skip
    obtain ⟨av, cv, rfl, -, -⟩ := hr.form
    have HE := Lib.hid (encE_long (ok := noteOk t c) (a := 28) (b := 1472) (n := d.length) hok hs1 hs2)
    have HRN := Lib.hid (encR_no (ok := noteOk t c) (a := 28) (b := 1472) (d := d) (m := noteL t.toNat c.toNat d) (fun h => h.2.2 hs2))
    rw [HE.out, HRN.out]
    obtain ⟨N, hN⟩ : ∃ N, N = d.length := ⟨_, rfl⟩
    rw [← hN]
    have hN3 : N ≤ 30000 := by omega
    have s1 : decide ((N : Int) < 28) = false := by rw [decide_eq_false_iff_not]; omega
    obtain ⟨M, hM⟩ : ∃ M, M = N + 8 := ⟨_, rfl⟩
    have e8 : (N : Int) + 8 = (M : Int) := by omega
    have s2 : decide ((1480 : Int) < (M : Int)) = true := by rw [decide_eq_true_eq]; omega
    have hM2 : M ≤ 40000 := by omega
    clear hM
    have hC := CL.new w [.int .i64 t, .int .i64 c, .slice av N cv] 39 _ rfl
    have hG := Gr.alloc (Gr.refl w) (.cells #[.int .i64 t, .int .i64 c, .slice av N cv] 39)
    have HK1 := Lib.hid (fun w1 : World => r6octet_any c w1 true (by symm; rw [decide_eq_true_eq]; exact h1))
    clear hr HE HRN hN
    have key : (t != 3) = false ∨ ((t != 3) = true ∧ (t != 11) = false) := by
      rcases h0 with rfl | rfl
      · exact .inl rfl
      · exact .inr ⟨rfl, rfl⟩
    rcases key with b1 | ⟨b1, b2⟩
    · skip
      go_enter Try.func48, Try.ntmps48
      go_upto_region 1 with fail
      generalize w.alloc (.cells #[.int .i64 t, .int .i64 c, .slice av N cv] 39) = w1 at hC hG ⊢
      generalize w.heap.size = g0 at hC ⊢
      obtain ⟨⟨x0, x1, x2⟩, -⟩ := hC.three
      go_wp2_with fail
      refine (HK1.out _).mono ?_
      rintro e w2 ⟨rfl, rfl⟩
      go_wp2_with fail
      go_ret2
      exact ⟨_, rfl, OwB.nil _ _, hG⟩
    · skip
      go_enter Try.func48, Try.ntmps48
      go_upto_region 1 with fail
      generalize w.alloc (.cells #[.int .i64 t, .int .i64 c, .slice av N cv] 39) = w1 at hC hG ⊢
      generalize w.heap.size = g0 at hC ⊢
      obtain ⟨⟨x0, x1, x2⟩, -⟩ := hC.three
      go_wp2_with fail
      refine (HK1.out _).mono ?_
      rintro e w2 ⟨rfl, rfl⟩
      go_wp2_with fail
      go_ret2
      exact ⟨_, rfl, OwB.nil _ _, hG⟩
  rw [encE_ok hok hs1 hs2, encR_ok hok hs1 hs2]
  have htt : t = 3 ∨ t = 11 := hok.1
  obtain ⟨c, rfl⟩ := Int.eq_ofNat_of_zero_le (show 0 ≤ c by unfold noteOk ntOk in8 at hok; omega)
  obtain ⟨t, rfl⟩ := Int.eq_ofNat_of_zero_le (show 0 ≤ t by omega)
  simp only [Int.toNat_natCast]
  refine (rnote_ok t c w hr (by omega) (by unfold noteOk ntOk in8 at hok; omega) (by omega) (by omega)).mono ?_
  rintro e w' ⟨v', rfl, ho, hg⟩
  exact ⟨v', rfl, ho, hg⟩
set_option maxHeartbeats 4000000 in
theorem tcp_any {p : Nat → Prop} {v : Value} {d : List Nat} (src dst : Nat) (a b sq ak fl wi : Int) (w : World) (hr : Rb p w v d) (hl : d.length ≤ 30000) (hs : src < 4294967296) (hd : dst < 4294967296) :
    Calls Try.prog 20 #[.int .u32 src, .int .u32 dst, .agg #[.int .i64 a, .int .i64 b, .int .i64 sq, .int .i64 ak, .int .i64 fl, .int .i64 wi, v]] w (EncRes w (encE (tcpOk a b sq ak fl wi) 0 1460 d.length) (encR (tcpOk a b sq ak fl wi) 0 1460 d (tcpL src dst a.toNat b.toNat sq.toNat ak.toNat fl.toNat wi.toNat d))) := by
  by_cases h0 : in16 a ∧ in16 b ∧ in16 wi
  rotate_left
  · skip
    obtain ⟨av, cv, rfl, -, -⟩ := hr.form
    have HE := Lib.hid (encE_no (ok := tcpOk a b sq ak fl wi) (a := 0) (b := 1460) (n := d.length) (fun h => h0 (h.1)))
    have HRN := Lib.hid (encR_no (ok := tcpOk a b sq ak fl wi) (a := 0) (b := 1460) (d := d) (m := tcpL src dst a.toNat b.toNat sq.toNat ak.toNat fl.toNat wi.toNat d) (fun hh => h0 (let h := hh.1; h.1)))
    rw [HE.out, HRN.out]
    obtain ⟨N, hN⟩ : ∃ N, N = d.length := ⟨_, rfl⟩
    rw [← hN]
    have hN3 : N ≤ 30000 := by omega
    have hC := CL.new w [.int .i64 a, .int .i64 b, .int .i64 sq, .int .i64 ak, .int .i64 fl, .int .i64 wi, .slice av N cv] 44 _ rfl
    have hG := Gr.alloc (Gr.refl w) (.cells #[.int .i64 a, .int .i64 b, .int .i64 sq, .int .i64 ak, .int .i64 fl, .int .i64 wi, .slice av N cv] 44)
    have HK0 := Lib.hid (fun w1 : World => fit_three (T := 3) 2 a b wi w1 (by omega) (by omega) false (by symm; rw [decide_eq_false_iff_not]; unfold in16 at h0; omega))
    clear hr HE HRN hN
    go_enter Try.func20, Try.ntmps20
    go_upto_region 1 with fail
    generalize w.alloc (.cells #[.int .i64 a, .int .i64 b, .int .i64 sq, .int .i64 ak, .int .i64 fl, .int .i64 wi, .slice av N cv] 44) = w1 at hC hG ⊢
    generalize w.heap.size = g0 at hC ⊢
    obtain ⟨⟨x0, x1, x2, x3, x4, x5, x6⟩, -⟩ := hC.seven
    go_wp2_with fail
    refine (HK0.out _).mono ?_
    rintro e w2 ⟨rfl, hg⟩
    replace hG := hG.step hg
    replace hC := hC.gr hg
    clear hg x0 x1 x2 x3 x4 x5 x6
    obtain ⟨⟨x0, x1, x2, x3, x4, x5, x6⟩, -⟩ := hC.seven
    go_wp2_with fail
    go_ret2
    exact ⟨_, rfl, OwB.nil _ _, hG⟩
  by_cases h1 : in32 sq ∧ in32 ak
  rotate_left
  · skip
    obtain ⟨av, cv, rfl, -, -⟩ := hr.form
    have HE := Lib.hid (encE_no (ok := tcpOk a b sq ak fl wi) (a := 0) (b := 1460) (n := d.length) (fun h => h1 (h.2.1)))
    have HRN := Lib.hid (encR_no (ok := tcpOk a b sq ak fl wi) (a := 0) (b := 1460) (d := d) (m := tcpL src dst a.toNat b.toNat sq.toNat ak.toNat fl.toNat wi.toNat d) (fun hh => h1 (let h := hh.1; h.2.1)))
    rw [HE.out, HRN.out]
    obtain ⟨N, hN⟩ : ∃ N, N = d.length := ⟨_, rfl⟩
    rw [← hN]
    have hN3 : N ≤ 30000 := by omega
    have hC := CL.new w [.int .i64 a, .int .i64 b, .int .i64 sq, .int .i64 ak, .int .i64 fl, .int .i64 wi, .slice av N cv] 44 _ rfl
    have hG := Gr.alloc (Gr.refl w) (.cells #[.int .i64 a, .int .i64 b, .int .i64 sq, .int .i64 ak, .int .i64 fl, .int .i64 wi, .slice av N cv] 44)
    have HK0 := Lib.hid (fun w1 : World => fit_three (T := 3) 2 a b wi w1 (by omega) (by omega) true (by symm; rw [decide_eq_true_eq]; unfold in16 at h0; omega))
    have HK1 := Lib.hid (fun w1 : World => fit_two (T := 3) 4 sq ak w1 (by omega) (by omega) false (by symm; rw [decide_eq_false_iff_not]; unfold in32 at h1; omega))
    clear hr HE HRN hN
    go_enter Try.func20, Try.ntmps20
    go_upto_region 1 with fail
    generalize w.alloc (.cells #[.int .i64 a, .int .i64 b, .int .i64 sq, .int .i64 ak, .int .i64 fl, .int .i64 wi, .slice av N cv] 44) = w1 at hC hG ⊢
    generalize w.heap.size = g0 at hC ⊢
    obtain ⟨⟨x0, x1, x2, x3, x4, x5, x6⟩, -⟩ := hC.seven
    go_wp2_with fail
    refine (HK0.out _).mono ?_
    rintro e w2 ⟨rfl, hg⟩
    replace hG := hG.step hg
    replace hC := hC.gr hg
    clear hg x0 x1 x2 x3 x4 x5 x6
    obtain ⟨⟨x0, x1, x2, x3, x4, x5, x6⟩, -⟩ := hC.seven
    go_wp2_with fail
    refine (HK1.out _).mono ?_
    rintro e w3 ⟨rfl, hg⟩
    replace hG := hG.step hg
    replace hC := hC.gr hg
    clear hg x0 x1 x2 x3 x4 x5 x6
    obtain ⟨⟨x0, x1, x2, x3, x4, x5, x6⟩, -⟩ := hC.seven
    go_wp2_with fail
    go_ret2
    exact ⟨_, rfl, OwB.nil _ _, hG⟩
  by_cases h2 : in8 fl
  rotate_left
  · skip
    obtain ⟨av, cv, rfl, -, -⟩ := hr.form
    have HE := Lib.hid (encE_no (ok := tcpOk a b sq ak fl wi) (a := 0) (b := 1460) (n := d.length) (fun h => h2 (h.2.2)))
    have HRN := Lib.hid (encR_no (ok := tcpOk a b sq ak fl wi) (a := 0) (b := 1460) (d := d) (m := tcpL src dst a.toNat b.toNat sq.toNat ak.toNat fl.toNat wi.toNat d) (fun hh => h2 (let h := hh.1; h.2.2)))
    rw [HE.out, HRN.out]
    obtain ⟨N, hN⟩ : ∃ N, N = d.length := ⟨_, rfl⟩
    rw [← hN]
    have hN3 : N ≤ 30000 := by omega
    have hC := CL.new w [.int .i64 a, .int .i64 b, .int .i64 sq, .int .i64 ak, .int .i64 fl, .int .i64 wi, .slice av N cv] 44 _ rfl
    have hG := Gr.alloc (Gr.refl w) (.cells #[.int .i64 a, .int .i64 b, .int .i64 sq, .int .i64 ak, .int .i64 fl, .int .i64 wi, .slice av N cv] 44)
    have HK0 := Lib.hid (fun w1 : World => fit_three (T := 3) 2 a b wi w1 (by omega) (by omega) true (by symm; rw [decide_eq_true_eq]; unfold in16 at h0; omega))
    have HK1 := Lib.hid (fun w1 : World => fit_two (T := 3) 4 sq ak w1 (by omega) (by omega) true (by symm; rw [decide_eq_true_eq]; unfold in32 at h1; omega))
    have HK2 := Lib.hid (fun w1 : World => fit_one (T := 3) 1 fl w1 (by omega) (by omega) false (by symm; rw [decide_eq_false_iff_not]; unfold in8 at h2; omega))
    clear hr HE HRN hN
    go_enter Try.func20, Try.ntmps20
    go_upto_region 1 with fail
    generalize w.alloc (.cells #[.int .i64 a, .int .i64 b, .int .i64 sq, .int .i64 ak, .int .i64 fl, .int .i64 wi, .slice av N cv] 44) = w1 at hC hG ⊢
    generalize w.heap.size = g0 at hC ⊢
    obtain ⟨⟨x0, x1, x2, x3, x4, x5, x6⟩, -⟩ := hC.seven
    go_wp2_with fail
    refine (HK0.out _).mono ?_
    rintro e w2 ⟨rfl, hg⟩
    replace hG := hG.step hg
    replace hC := hC.gr hg
    clear hg x0 x1 x2 x3 x4 x5 x6
    obtain ⟨⟨x0, x1, x2, x3, x4, x5, x6⟩, -⟩ := hC.seven
    go_wp2_with fail
    refine (HK1.out _).mono ?_
    rintro e w3 ⟨rfl, hg⟩
    replace hG := hG.step hg
    replace hC := hC.gr hg
    clear hg x0 x1 x2 x3 x4 x5 x6
    obtain ⟨⟨x0, x1, x2, x3, x4, x5, x6⟩, -⟩ := hC.seven
    go_wp2_with fail
    refine (HK2.out _).mono ?_
    rintro e w4 ⟨rfl, hg⟩
    replace hG := hG.step hg
    replace hC := hC.gr hg
    clear hg x0 x1 x2 x3 x4 x5 x6
    obtain ⟨⟨x0, x1, x2, x3, x4, x5, x6⟩, -⟩ := hC.seven
    go_wp2_with fail
    go_ret2
    exact ⟨_, rfl, OwB.nil _ _, hG⟩
  have hok : tcpOk a b sq ak fl wi := ⟨h0, h1, h2⟩
  have hs1 : ¬ d.length < 0 := by omega
  by_cases hs2 : 1460 < d.length
  · skip
    obtain ⟨av, cv, rfl, -, -⟩ := hr.form
    have HE := Lib.hid (encE_long (ok := tcpOk a b sq ak fl wi) (a := 0) (b := 1460) (n := d.length) hok hs1 hs2)
    have HRN := Lib.hid (encR_no (ok := tcpOk a b sq ak fl wi) (a := 0) (b := 1460) (d := d) (m := tcpL src dst a.toNat b.toNat sq.toNat ak.toNat fl.toNat wi.toNat d) (fun h => h.2.2 hs2))
    rw [HE.out, HRN.out]
    obtain ⟨N, hN⟩ : ∃ N, N = d.length := ⟨_, rfl⟩
    rw [← hN]
    have hN3 : N ≤ 30000 := by omega
    have s2 : decide ((1460 : Int) < (N : Int)) = true := by rw [decide_eq_true_eq]; omega
    have hC := CL.new w [.int .i64 a, .int .i64 b, .int .i64 sq, .int .i64 ak, .int .i64 fl, .int .i64 wi, .slice av N cv] 44 _ rfl
    have hG := Gr.alloc (Gr.refl w) (.cells #[.int .i64 a, .int .i64 b, .int .i64 sq, .int .i64 ak, .int .i64 fl, .int .i64 wi, .slice av N cv] 44)
    have HK0 := Lib.hid (fun w1 : World => fit_three (T := 3) 2 a b wi w1 (by omega) (by omega) true (by symm; rw [decide_eq_true_eq]; unfold in16 at h0; omega))
    have HK1 := Lib.hid (fun w1 : World => fit_two (T := 3) 4 sq ak w1 (by omega) (by omega) true (by symm; rw [decide_eq_true_eq]; unfold in32 at h1; omega))
    have HK2 := Lib.hid (fun w1 : World => fit_one (T := 3) 1 fl w1 (by omega) (by omega) true (by symm; rw [decide_eq_true_eq]; unfold in8 at h2; omega))
    clear hr HE HRN hN
    go_enter Try.func20, Try.ntmps20
    go_upto_region 1 with fail
    generalize w.alloc (.cells #[.int .i64 a, .int .i64 b, .int .i64 sq, .int .i64 ak, .int .i64 fl, .int .i64 wi, .slice av N cv] 44) = w1 at hC hG ⊢
    generalize w.heap.size = g0 at hC ⊢
    obtain ⟨⟨x0, x1, x2, x3, x4, x5, x6⟩, -⟩ := hC.seven
    go_wp2_with fail
    refine (HK0.out _).mono ?_
    rintro e w2 ⟨rfl, hg⟩
    replace hG := hG.step hg
    replace hC := hC.gr hg
    clear hg x0 x1 x2 x3 x4 x5 x6
    obtain ⟨⟨x0, x1, x2, x3, x4, x5, x6⟩, -⟩ := hC.seven
    go_wp2_with fail
    refine (HK1.out _).mono ?_
    rintro e w3 ⟨rfl, hg⟩
    replace hG := hG.step hg
    replace hC := hC.gr hg
    clear hg x0 x1 x2 x3 x4 x5 x6
    obtain ⟨⟨x0, x1, x2, x3, x4, x5, x6⟩, -⟩ := hC.seven
    go_wp2_with fail
    refine (HK2.out _).mono ?_
    rintro e w4 ⟨rfl, hg⟩
    replace hG := hG.step hg
    replace hC := hC.gr hg
    clear hg x0 x1 x2 x3 x4 x5 x6
    obtain ⟨⟨x0, x1, x2, x3, x4, x5, x6⟩, -⟩ := hC.seven
    go_wp2_with fail
    go_ret2
    exact ⟨_, rfl, OwB.nil _ _, hG⟩
  rw [encE_ok hok hs1 hs2, encR_ok hok hs1 hs2]
  obtain ⟨a, rfl⟩ := Int.eq_ofNat_of_zero_le (show 0 ≤ a by unfold tcpOk in16 in32 in8 at hok; omega)
  obtain ⟨b, rfl⟩ := Int.eq_ofNat_of_zero_le (show 0 ≤ b by unfold tcpOk in16 in32 in8 at hok; omega)
  obtain ⟨sq, rfl⟩ := Int.eq_ofNat_of_zero_le (show 0 ≤ sq by unfold tcpOk in16 in32 in8 at hok; omega)
  obtain ⟨ak, rfl⟩ := Int.eq_ofNat_of_zero_le (show 0 ≤ ak by unfold tcpOk in16 in32 in8 at hok; omega)
  obtain ⟨fl, rfl⟩ := Int.eq_ofNat_of_zero_le (show 0 ≤ fl by unfold tcpOk in16 in32 in8 at hok; omega)
  obtain ⟨wi, rfl⟩ := Int.eq_ofNat_of_zero_le (show 0 ≤ wi by unfold tcpOk in16 in32 in8 at hok; omega)
  simp only [Int.toNat_natCast]
  refine (tcp_ok src dst a b sq ak fl wi w hr hs hd (by unfold tcpOk in16 in32 in8 at hok; omega) (by unfold tcpOk in16 in32 in8 at hok; omega) (by unfold tcpOk in16 in32 in8 at hok; omega) (by unfold tcpOk in16 in32 in8 at hok; omega) (by unfold tcpOk in16 in32 in8 at hok; omega) (by unfold tcpOk in16 in32 in8 at hok; omega) (by omega)).mono ?_
  rintro e w' ⟨v', rfl, ho, hg⟩
  exact ⟨v', rfl, ho, hg⟩
set_option maxHeartbeats 4000000 in
theorem rtcp_any {p : Nat → Prop} {v : Value} {d : List Nat} (src dst : Nat) (a b sq ak fl wi : Int) (w : World) (hr : Rb p w v d) (hl : d.length ≤ 30000) (hs : src < 4294967296) (hd : dst < 4294967296) :
    Calls Try.prog 50 #[.int .u32 src, .int .u32 dst, .agg #[.int .i64 a, .int .i64 b, .int .i64 sq, .int .i64 ak, .int .i64 fl, .int .i64 wi, v]] w (EncRes w (encE (tcpOk a b sq ak fl wi) 0 1460 d.length) (encR (tcpOk a b sq ak fl wi) 0 1460 d (tcpL src dst a.toNat b.toNat sq.toNat ak.toNat fl.toNat wi.toNat d))) := by
  by_cases h0 : in16 a
  rotate_left
  · skip
    obtain ⟨av, cv, rfl, -, -⟩ := hr.form
    have HE := Lib.hid (encE_no (ok := tcpOk a b sq ak fl wi) (a := 0) (b := 1460) (n := d.length) (fun h => h0 (h.1.1)))
    have HRN := Lib.hid (encR_no (ok := tcpOk a b sq ak fl wi) (a := 0) (b := 1460) (d := d) (m := tcpL src dst a.toNat b.toNat sq.toNat ak.toNat fl.toNat wi.toNat d) (fun hh => h0 (let h := hh.1; h.1.1)))
    rw [HE.out, HRN.out]
    obtain ⟨N, hN⟩ : ∃ N, N = d.length := ⟨_, rfl⟩
    rw [← hN]
    have hN3 : N ≤ 30000 := by omega
    have hC := CL.new w [.int .i64 a, .int .i64 b, .int .i64 sq, .int .i64 ak, .int .i64 fl, .int .i64 wi, .slice av N cv] 44 _ rfl
    have hG := Gr.alloc (Gr.refl w) (.cells #[.int .i64 a, .int .i64 b, .int .i64 sq, .int .i64 ak, .int .i64 fl, .int .i64 wi, .slice av N cv] 44)
    have HK0 := Lib.hid (fun w1 : World => r6word_any a w1 false (by symm; rw [decide_eq_false_iff_not]; exact h0))
    clear hr HE HRN hN
    go_enter Try.func50, Try.ntmps50
    go_upto_region 1 with fail
    generalize w.alloc (.cells #[.int .i64 a, .int .i64 b, .int .i64 sq, .int .i64 ak, .int .i64 fl, .int .i64 wi, .slice av N cv] 44) = w1 at hC hG ⊢
    generalize w.heap.size = g0 at hC ⊢
    obtain ⟨⟨x0, x1, x2, x3, x4, x5, x6⟩, -⟩ := hC.seven
    go_wp2_with fail
    refine (HK0.out _).mono ?_
    rintro e w2 ⟨rfl, rfl⟩
    go_wp2_with fail
    go_ret2
    exact ⟨_, rfl, OwB.nil _ _, hG⟩
  by_cases h1 : in16 b
  rotate_left
  · skip
    obtain ⟨av, cv, rfl, -, -⟩ := hr.form
    have HE := Lib.hid (encE_no (ok := tcpOk a b sq ak fl wi) (a := 0) (b := 1460) (n := d.length) (fun h => h1 (h.1.2.1)))
    have HRN := Lib.hid (encR_no (ok := tcpOk a b sq ak fl wi) (a := 0) (b := 1460) (d := d) (m := tcpL src dst a.toNat b.toNat sq.toNat ak.toNat fl.toNat wi.toNat d) (fun hh => h1 (let h := hh.1; h.1.2.1)))
    rw [HE.out, HRN.out]
    obtain ⟨N, hN⟩ : ∃ N, N = d.length := ⟨_, rfl⟩
    rw [← hN]
    have hN3 : N ≤ 30000 := by omega
    have hC := CL.new w [.int .i64 a, .int .i64 b, .int .i64 sq, .int .i64 ak, .int .i64 fl, .int .i64 wi, .slice av N cv] 44 _ rfl
    have hG := Gr.alloc (Gr.refl w) (.cells #[.int .i64 a, .int .i64 b, .int .i64 sq, .int .i64 ak, .int .i64 fl, .int .i64 wi, .slice av N cv] 44)
    have HK0 := Lib.hid (fun w1 : World => r6word_any a w1 true (by symm; rw [decide_eq_true_eq]; exact h0))
    have HK1 := Lib.hid (fun w1 : World => r6word_any b w1 false (by symm; rw [decide_eq_false_iff_not]; exact h1))
    clear hr HE HRN hN
    go_enter Try.func50, Try.ntmps50
    go_upto_region 1 with fail
    generalize w.alloc (.cells #[.int .i64 a, .int .i64 b, .int .i64 sq, .int .i64 ak, .int .i64 fl, .int .i64 wi, .slice av N cv] 44) = w1 at hC hG ⊢
    generalize w.heap.size = g0 at hC ⊢
    obtain ⟨⟨x0, x1, x2, x3, x4, x5, x6⟩, -⟩ := hC.seven
    go_wp2_with fail
    refine (HK0.out _).mono ?_
    rintro e w2 ⟨rfl, rfl⟩
    go_wp2_with fail
    refine (HK1.out _).mono ?_
    rintro e w3 ⟨rfl, rfl⟩
    go_wp2_with fail
    go_ret2
    exact ⟨_, rfl, OwB.nil _ _, hG⟩
  by_cases h2 : in32 sq
  rotate_left
  · skip
    obtain ⟨av, cv, rfl, -, -⟩ := hr.form
    have HE := Lib.hid (encE_no (ok := tcpOk a b sq ak fl wi) (a := 0) (b := 1460) (n := d.length) (fun h => h2 (h.2.1.1)))
    have HRN := Lib.hid (encR_no (ok := tcpOk a b sq ak fl wi) (a := 0) (b := 1460) (d := d) (m := tcpL src dst a.toNat b.toNat sq.toNat ak.toNat fl.toNat wi.toNat d) (fun hh => h2 (let h := hh.1; h.2.1.1)))
    rw [HE.out, HRN.out]
    obtain ⟨N, hN⟩ : ∃ N, N = d.length := ⟨_, rfl⟩
    rw [← hN]
    have hN3 : N ≤ 30000 := by omega
    have hC := CL.new w [.int .i64 a, .int .i64 b, .int .i64 sq, .int .i64 ak, .int .i64 fl, .int .i64 wi, .slice av N cv] 44 _ rfl
    have hG := Gr.alloc (Gr.refl w) (.cells #[.int .i64 a, .int .i64 b, .int .i64 sq, .int .i64 ak, .int .i64 fl, .int .i64 wi, .slice av N cv] 44)
    have HK0 := Lib.hid (fun w1 : World => r6word_any a w1 true (by symm; rw [decide_eq_true_eq]; exact h0))
    have HK1 := Lib.hid (fun w1 : World => r6word_any b w1 true (by symm; rw [decide_eq_true_eq]; exact h1))
    have HK2 := Lib.hid (fun w1 : World => r6long_any sq w1 false (by symm; rw [decide_eq_false_iff_not]; exact h2))
    clear hr HE HRN hN
    go_enter Try.func50, Try.ntmps50
    go_upto_region 1 with fail
    generalize w.alloc (.cells #[.int .i64 a, .int .i64 b, .int .i64 sq, .int .i64 ak, .int .i64 fl, .int .i64 wi, .slice av N cv] 44) = w1 at hC hG ⊢
    generalize w.heap.size = g0 at hC ⊢
    obtain ⟨⟨x0, x1, x2, x3, x4, x5, x6⟩, -⟩ := hC.seven
    go_wp2_with fail
    refine (HK0.out _).mono ?_
    rintro e w2 ⟨rfl, rfl⟩
    go_wp2_with fail
    refine (HK1.out _).mono ?_
    rintro e w3 ⟨rfl, rfl⟩
    go_wp2_with fail
    refine (HK2.out _).mono ?_
    rintro e w4 ⟨rfl, rfl⟩
    go_wp2_with fail
    go_ret2
    exact ⟨_, rfl, OwB.nil _ _, hG⟩
  by_cases h3 : in32 ak
  rotate_left
  · skip
    obtain ⟨av, cv, rfl, -, -⟩ := hr.form
    have HE := Lib.hid (encE_no (ok := tcpOk a b sq ak fl wi) (a := 0) (b := 1460) (n := d.length) (fun h => h3 (h.2.1.2)))
    have HRN := Lib.hid (encR_no (ok := tcpOk a b sq ak fl wi) (a := 0) (b := 1460) (d := d) (m := tcpL src dst a.toNat b.toNat sq.toNat ak.toNat fl.toNat wi.toNat d) (fun hh => h3 (let h := hh.1; h.2.1.2)))
    rw [HE.out, HRN.out]
    obtain ⟨N, hN⟩ : ∃ N, N = d.length := ⟨_, rfl⟩
    rw [← hN]
    have hN3 : N ≤ 30000 := by omega
    have hC := CL.new w [.int .i64 a, .int .i64 b, .int .i64 sq, .int .i64 ak, .int .i64 fl, .int .i64 wi, .slice av N cv] 44 _ rfl
    have hG := Gr.alloc (Gr.refl w) (.cells #[.int .i64 a, .int .i64 b, .int .i64 sq, .int .i64 ak, .int .i64 fl, .int .i64 wi, .slice av N cv] 44)
    have HK0 := Lib.hid (fun w1 : World => r6word_any a w1 true (by symm; rw [decide_eq_true_eq]; exact h0))
    have HK1 := Lib.hid (fun w1 : World => r6word_any b w1 true (by symm; rw [decide_eq_true_eq]; exact h1))
    have HK2 := Lib.hid (fun w1 : World => r6long_any sq w1 true (by symm; rw [decide_eq_true_eq]; exact h2))
    have HK3 := Lib.hid (fun w1 : World => r6long_any ak w1 false (by symm; rw [decide_eq_false_iff_not]; exact h3))
    clear hr HE HRN hN
    go_enter Try.func50, Try.ntmps50
    go_upto_region 1 with fail
    generalize w.alloc (.cells #[.int .i64 a, .int .i64 b, .int .i64 sq, .int .i64 ak, .int .i64 fl, .int .i64 wi, .slice av N cv] 44) = w1 at hC hG ⊢
    generalize w.heap.size = g0 at hC ⊢
    obtain ⟨⟨x0, x1, x2, x3, x4, x5, x6⟩, -⟩ := hC.seven
    go_wp2_with fail
    refine (HK0.out _).mono ?_
    rintro e w2 ⟨rfl, rfl⟩
    go_wp2_with fail
    refine (HK1.out _).mono ?_
    rintro e w3 ⟨rfl, rfl⟩
    go_wp2_with fail
    refine (HK2.out _).mono ?_
    rintro e w4 ⟨rfl, rfl⟩
    go_wp2_with fail
    refine (HK3.out _).mono ?_
    rintro e w5 ⟨rfl, rfl⟩
    go_wp2_with fail
    go_ret2
    exact ⟨_, rfl, OwB.nil _ _, hG⟩
  by_cases h4 : in8 fl
  rotate_left
  · skip
    obtain ⟨av, cv, rfl, -, -⟩ := hr.form
    have HE := Lib.hid (encE_no (ok := tcpOk a b sq ak fl wi) (a := 0) (b := 1460) (n := d.length) (fun h => h4 (h.2.2)))
    have HRN := Lib.hid (encR_no (ok := tcpOk a b sq ak fl wi) (a := 0) (b := 1460) (d := d) (m := tcpL src dst a.toNat b.toNat sq.toNat ak.toNat fl.toNat wi.toNat d) (fun hh => h4 (let h := hh.1; h.2.2)))
    rw [HE.out, HRN.out]
    obtain ⟨N, hN⟩ : ∃ N, N = d.length := ⟨_, rfl⟩
    rw [← hN]
    have hN3 : N ≤ 30000 := by omega
    have hC := CL.new w [.int .i64 a, .int .i64 b, .int .i64 sq, .int .i64 ak, .int .i64 fl, .int .i64 wi, .slice av N cv] 44 _ rfl
    have hG := Gr.alloc (Gr.refl w) (.cells #[.int .i64 a, .int .i64 b, .int .i64 sq, .int .i64 ak, .int .i64 fl, .int .i64 wi, .slice av N cv] 44)
    have HK0 := Lib.hid (fun w1 : World => r6word_any a w1 true (by symm; rw [decide_eq_true_eq]; exact h0))
    have HK1 := Lib.hid (fun w1 : World => r6word_any b w1 true (by symm; rw [decide_eq_true_eq]; exact h1))
    have HK2 := Lib.hid (fun w1 : World => r6long_any sq w1 true (by symm; rw [decide_eq_true_eq]; exact h2))
    have HK3 := Lib.hid (fun w1 : World => r6long_any ak w1 true (by symm; rw [decide_eq_true_eq]; exact h3))
    have HK4 := Lib.hid (fun w1 : World => r6octet_any fl w1 false (by symm; rw [decide_eq_false_iff_not]; exact h4))
    clear hr HE HRN hN
    go_enter Try.func50, Try.ntmps50
    go_upto_region 1 with fail
    generalize w.alloc (.cells #[.int .i64 a, .int .i64 b, .int .i64 sq, .int .i64 ak, .int .i64 fl, .int .i64 wi, .slice av N cv] 44) = w1 at hC hG ⊢
    generalize w.heap.size = g0 at hC ⊢
    obtain ⟨⟨x0, x1, x2, x3, x4, x5, x6⟩, -⟩ := hC.seven
    go_wp2_with fail
    refine (HK0.out _).mono ?_
    rintro e w2 ⟨rfl, rfl⟩
    go_wp2_with fail
    refine (HK1.out _).mono ?_
    rintro e w3 ⟨rfl, rfl⟩
    go_wp2_with fail
    refine (HK2.out _).mono ?_
    rintro e w4 ⟨rfl, rfl⟩
    go_wp2_with fail
    refine (HK3.out _).mono ?_
    rintro e w5 ⟨rfl, rfl⟩
    go_wp2_with fail
    refine (HK4.out _).mono ?_
    rintro e w6 ⟨rfl, rfl⟩
    go_wp2_with fail
    go_ret2
    exact ⟨_, rfl, OwB.nil _ _, hG⟩
  by_cases h5 : in16 wi
  rotate_left
  · skip
    obtain ⟨av, cv, rfl, -, -⟩ := hr.form
    have HE := Lib.hid (encE_no (ok := tcpOk a b sq ak fl wi) (a := 0) (b := 1460) (n := d.length) (fun h => h5 (h.1.2.2)))
    have HRN := Lib.hid (encR_no (ok := tcpOk a b sq ak fl wi) (a := 0) (b := 1460) (d := d) (m := tcpL src dst a.toNat b.toNat sq.toNat ak.toNat fl.toNat wi.toNat d) (fun hh => h5 (let h := hh.1; h.1.2.2)))
    rw [HE.out, HRN.out]
    obtain ⟨N, hN⟩ : ∃ N, N = d.length := ⟨_, rfl⟩
    rw [← hN]
    have hN3 : N ≤ 30000 := by omega
    have hC := CL.new w [.int .i64 a, .int .i64 b, .int .i64 sq, .int .i64 ak, .int .i64 fl, .int .i64 wi, .slice av N cv] 44 _ rfl
    have hG := Gr.alloc (Gr.refl w) (.cells #[.int .i64 a, .int .i64 b, .int .i64 sq, .int .i64 ak, .int .i64 fl, .int .i64 wi, .slice av N cv] 44)
    have HK0 := Lib.hid (fun w1 : World => r6word_any a w1 true (by symm; rw [decide_eq_true_eq]; exact h0))
    have HK1 := Lib.hid (fun w1 : World => r6word_any b w1 true (by symm; rw [decide_eq_true_eq]; exact h1))
    have HK2 := Lib.hid (fun w1 : World => r6long_any sq w1 true (by symm; rw [decide_eq_true_eq]; exact h2))
    have HK3 := Lib.hid (fun w1 : World => r6long_any ak w1 true (by symm; rw [decide_eq_true_eq]; exact h3))
    have HK4 := Lib.hid (fun w1 : World => r6octet_any fl w1 true (by symm; rw [decide_eq_true_eq]; exact h4))
    have HK5 := Lib.hid (fun w1 : World => r6word_any wi w1 false (by symm; rw [decide_eq_false_iff_not]; exact h5))
    clear hr HE HRN hN
    go_enter Try.func50, Try.ntmps50
    go_upto_region 1 with fail
    generalize w.alloc (.cells #[.int .i64 a, .int .i64 b, .int .i64 sq, .int .i64 ak, .int .i64 fl, .int .i64 wi, .slice av N cv] 44) = w1 at hC hG ⊢
    generalize w.heap.size = g0 at hC ⊢
    obtain ⟨⟨x0, x1, x2, x3, x4, x5, x6⟩, -⟩ := hC.seven
    go_wp2_with fail
    refine (HK0.out _).mono ?_
    rintro e w2 ⟨rfl, rfl⟩
    go_wp2_with fail
    refine (HK1.out _).mono ?_
    rintro e w3 ⟨rfl, rfl⟩
    go_wp2_with fail
    refine (HK2.out _).mono ?_
    rintro e w4 ⟨rfl, rfl⟩
    go_wp2_with fail
    refine (HK3.out _).mono ?_
    rintro e w5 ⟨rfl, rfl⟩
    go_wp2_with fail
    refine (HK4.out _).mono ?_
    rintro e w6 ⟨rfl, rfl⟩
    go_wp2_with fail
    refine (HK5.out _).mono ?_
    rintro e w7 ⟨rfl, rfl⟩
    go_wp2_with fail
    go_ret2
    exact ⟨_, rfl, OwB.nil _ _, hG⟩
  have hok : tcpOk a b sq ak fl wi := ⟨⟨h0, h1, h5⟩, ⟨h2, h3⟩, h4⟩
  have hs1 : ¬ d.length < 0 := by omega
  by_cases hs2 : 1460 < d.length
  · skip
    obtain ⟨av, cv, rfl, -, -⟩ := hr.form
    have HE := Lib.hid (encE_long (ok := tcpOk a b sq ak fl wi) (a := 0) (b := 1460) (n := d.length) hok hs1 hs2)
    have HRN := Lib.hid (encR_no (ok := tcpOk a b sq ak fl wi) (a := 0) (b := 1460) (d := d) (m := tcpL src dst a.toNat b.toNat sq.toNat ak.toNat fl.toNat wi.toNat d) (fun h => h.2.2 hs2))
    rw [HE.out, HRN.out]
    obtain ⟨N, hN⟩ : ∃ N, N = d.length := ⟨_, rfl⟩
    rw [← hN]
    have hN3 : N ≤ 30000 := by omega
    obtain ⟨M, hM⟩ : ∃ M, M = N + 20 := ⟨_, rfl⟩
    have e8 : (N : Int) + 20 = (M : Int) := by omega
    have s2 : decide ((1480 : Int) < (M : Int)) = true := by rw [decide_eq_true_eq]; omega
    have hM2 : M ≤ 40000 := by omega
    clear hM
    have hC := CL.new w [.int .i64 a, .int .i64 b, .int .i64 sq, .int .i64 ak, .int .i64 fl, .int .i64 wi, .slice av N cv] 44 _ rfl
    have hG := Gr.alloc (Gr.refl w) (.cells #[.int .i64 a, .int .i64 b, .int .i64 sq, .int .i64 ak, .int .i64 fl, .int .i64 wi, .slice av N cv] 44)
    have HK0 := Lib.hid (fun w1 : World => r6word_any a w1 true (by symm; rw [decide_eq_true_eq]; exact h0))
    have HK1 := Lib.hid (fun w1 : World => r6word_any b w1 true (by symm; rw [decide_eq_true_eq]; exact h1))
    have HK2 := Lib.hid (fun w1 : World => r6long_any sq w1 true (by symm; rw [decide_eq_true_eq]; exact h2))
    have HK3 := Lib.hid (fun w1 : World => r6long_any ak w1 true (by symm; rw [decide_eq_true_eq]; exact h3))
    have HK4 := Lib.hid (fun w1 : World => r6octet_any fl w1 true (by symm; rw [decide_eq_true_eq]; exact h4))
    have HK5 := Lib.hid (fun w1 : World => r6word_any wi w1 true (by symm; rw [decide_eq_true_eq]; exact h5))
    clear hr HE HRN hN
    go_enter Try.func50, Try.ntmps50
    go_upto_region 1 with fail
    generalize w.alloc (.cells #[.int .i64 a, .int .i64 b, .int .i64 sq, .int .i64 ak, .int .i64 fl, .int .i64 wi, .slice av N cv] 44) = w1 at hC hG ⊢
    generalize w.heap.size = g0 at hC ⊢
    obtain ⟨⟨x0, x1, x2, x3, x4, x5, x6⟩, -⟩ := hC.seven
    go_wp2_with fail
    refine (HK0.out _).mono ?_
    rintro e w2 ⟨rfl, rfl⟩
    go_wp2_with fail
    refine (HK1.out _).mono ?_
    rintro e w3 ⟨rfl, rfl⟩
    go_wp2_with fail
    refine (HK2.out _).mono ?_
    rintro e w4 ⟨rfl, rfl⟩
    go_wp2_with fail
    refine (HK3.out _).mono ?_
    rintro e w5 ⟨rfl, rfl⟩
    go_wp2_with fail
    refine (HK4.out _).mono ?_
    rintro e w6 ⟨rfl, rfl⟩
    go_wp2_with fail
    refine (HK5.out _).mono ?_
    rintro e w7 ⟨rfl, rfl⟩
    go_wp2_with fail
    go_ret2
    exact ⟨_, rfl, OwB.nil _ _, hG⟩
  rw [encE_ok hok hs1 hs2, encR_ok hok hs1 hs2]
  obtain ⟨a, rfl⟩ := Int.eq_ofNat_of_zero_le (show 0 ≤ a by unfold tcpOk in16 in32 in8 at hok; omega)
  obtain ⟨b, rfl⟩ := Int.eq_ofNat_of_zero_le (show 0 ≤ b by unfold tcpOk in16 in32 in8 at hok; omega)
  obtain ⟨sq, rfl⟩ := Int.eq_ofNat_of_zero_le (show 0 ≤ sq by unfold tcpOk in16 in32 in8 at hok; omega)
  obtain ⟨ak, rfl⟩ := Int.eq_ofNat_of_zero_le (show 0 ≤ ak by unfold tcpOk in16 in32 in8 at hok; omega)
  obtain ⟨fl, rfl⟩ := Int.eq_ofNat_of_zero_le (show 0 ≤ fl by unfold tcpOk in16 in32 in8 at hok; omega)
  obtain ⟨wi, rfl⟩ := Int.eq_ofNat_of_zero_le (show 0 ≤ wi by unfold tcpOk in16 in32 in8 at hok; omega)
  simp only [Int.toNat_natCast]
  refine (rtcp_ok src dst a b sq ak fl wi w hr hs hd (by unfold tcpOk in16 in32 in8 at hok; omega) (by unfold tcpOk in16 in32 in8 at hok; omega) (by unfold tcpOk in16 in32 in8 at hok; omega) (by unfold tcpOk in16 in32 in8 at hok; omega) (by unfold tcpOk in16 in32 in8 at hok; omega) (by unfold tcpOk in16 in32 in8 at hok; omega) (by omega)).mono ?_
  rintro e w' ⟨v', rfl, ho, hg⟩
  exact ⟨v', rfl, ho, hg⟩
end Go.Proofs.Ytlkhdbgknkjioaa
