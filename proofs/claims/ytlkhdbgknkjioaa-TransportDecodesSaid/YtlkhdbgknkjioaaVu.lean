/- The walk of the statement on decoding any bytes. -/
import Derived.Test.YtlkhdbgknkjioaaKi
import Derived.Test.YtlkhdbgknkjioaaKl
import Derived.Test.YtlkhdbgknkjioaaVs
import Derived.WalkKit
import Derived.WalkSpells
import Derived.WalkLawsBesides
import Derived.WalkSmall
import Derived.Handy
import Derived.BigQuiet
import Derived.Deep.QuietTactic
import Derived.Deep.RegionHeld3
import Derived.Deep.DeepFit
import Derived.Below
import Derived.Lib.Hide
import Derived.Lib.QuietBelow
namespace Go.Proofs.Ytlkhdbgknkjioaa
open Go Go.RowKit Go.Sort
set_option maxRecDepth 100000
set_option linter.unusedVariables false
set_option linter.unusedSimpArgs false
set_option linter.unusedVariables false
structure Four (b : Nat) (w : World) (g : Nat) (a0 : Option Addr) (n0 c0 : Nat) (a1 : Option Addr) (n1 c1 : Nat) (a2 : Option Addr) (n2 c2 : Nat) (a3 : Option Addr) (n3 c3 : Nat) : Prop where
  cl : CL w g [.slice a0 n0 c0, .slice a1 n1 c1, .slice a2 n2 c2, .slice a3 n3 c3]
  h0 : Own b w (.slice a0 n0 c0) n0
  h1 : Own b w (.slice a1 n1 c1) n1
  h2 : Own b w (.slice a2 n2 c2) n2
  h3 : Own b w (.slice a3 n3 c3) n3
theorem Four.gr {b : Nat} {w w' : World} {g : Nat} {a0 a1 a2 a3 : Option Addr} {n0 c0 n1 c1 n2 c2 n3 c3 : Nat} (h : Four b w g a0 n0 c0 a1 n1 c1 a2 n2 c2 a3 n3 c3) (k : Gr w w') : Four b w' g a0 n0 c0 a1 n1 c1 a2 n2 c2 a3 n3 c3 :=
  ⟨h.cl.gr k, h.h0.gr k, h.h1.gr k, h.h2.gr k, h.h3.gr k⟩
theorem Four.ex {b : Nat} {w w' : World} {g : Nat} {a0 a1 a2 a3 : Option Addr} {n0 c0 n1 c1 n2 c2 n3 c3 : Nat} (h : Four b w g a0 n0 c0 a1 n1 c1 a2 n2 c2 a3 n3 c3) (k : Ex b w w') (hg : g ≠ b) : Four b w' g a0 n0 c0 a1 n1 c1 a2 n2 c2 a3 n3 c3 :=
  ⟨h.cl.ex k hg, h.h0.ex k (fun _ h => h), h.h1.ex k (fun _ h => h), h.h2.ex k (fun _ h => h), h.h3.ex k (fun _ h => h)⟩
theorem Four.row {b : Nat} {w : World} {g : Nat} {a0 a1 a2 a3 : Option Addr} {n0 c0 n1 c1 n2 c2 n3 c3 : Nat} (h : Four b w g a0 n0 c0 a1 n1 c1 a2 n2 c2 a3 n3 c3) (hn : n0 ≤ 1480 ∧ n1 ≤ 1480 ∧ n2 ≤ 1480 ∧ n3 ≤ 1480) (t : Nat) (ht : t < 4) :
    ∃ (ya : Option Addr) (yn yc : Nat) (L : List Nat), (∀ W, CL W g [.slice a0 n0 c0, .slice a1 n1 c1, .slice a2 n2 c2, .slice a3 n3 c3] → W.cell? ⟨g, t, none⟩ = some (.slice ya yn yc)) ∧ OwB (b + 1) w (.slice ya yn yc) L ∧ L.length ≤ 1480 := by
  have : t = 0 ∨ t = 1 ∨ t = 2 ∨ t = 3 := by omega
  rcases this with rfl | rfl | rfl | rfl
  · obtain ⟨L, h1, h2⟩ := h.h0; exact ⟨_, _, _, L, fun W k => (k.at' 0 _ rfl).1, h1, by omega⟩
  · obtain ⟨L, h1, h2⟩ := h.h1; exact ⟨_, _, _, L, fun W k => (k.at' 1 _ rfl).1, h1, by omega⟩
  · obtain ⟨L, h1, h2⟩ := h.h2; exact ⟨_, _, _, L, fun W k => (k.at' 2 _ rfl).1, h1, by omega⟩
  · obtain ⟨L, h1, h2⟩ := h.h3; exact ⟨_, _, _, L, fun W k => (k.at' 3 _ rfl).1, h1, by omega⟩
set_option maxHeartbeats 4000000 in
theorem tdecodes_walk {p q : Nat → Prop} (sv vd vr : Value) (len : Nat) (d m : List Nat) (w : World) (hl : len ≤ 9223372036854775807) (hb : BytesV w.heap.size w sv len) (hd : Rb p w vd d) (hm : Rb q w vr m) :
    Calls Try.prog 3 #[sv, vd, vr] w fun e w' => e = .returned (.bool true) ∧ Gr w w' := by
  have HD := Lib.hid hd
  have HM := Lib.hid hm.any
  have HB := Lib.hid hb
  obtain ⟨ad, cd, rfl, -, -⟩ := hd.form
  obtain ⟨am, cm, rfl, -, -⟩ := hm.form
  obtain ⟨N, hN⟩ : ∃ N, N = d.length := ⟨_, rfl⟩
  obtain ⟨M, hM⟩ : ∃ M, M = m.length := ⟨_, rfl⟩
  have HN := Lib.hid hN
  have HMM := Lib.hid hM
  rw [← hN] at HD ⊢
  rw [← hM] at HM ⊢
  clear hd hm hb hN hM
  by_cases h1 : 1550 < N
  · have d1 : decide ((1550 : Int) < (N : Int)) = true := by rw [decide_eq_true_eq]; omega
    clear h1
    go_enter Try.func3, Try.ntmps3
    go_wp2_with fail
    refine (tawake_any _).mono ?_
    rintro e w1 ⟨rfl, hg⟩
    go_wp2_with fail
    go_ret
    exact ⟨rfl, hg⟩
  have d1 : decide ((1550 : Int) < (N : Int)) = false := by rw [decide_eq_false_iff_not]; omega
  have HN2 := Lib.hid (show N ≤ 1550 by omega)
  clear h1
  by_cases h2 : 1600 < M
  · have d2 : decide ((1600 : Int) < (M : Int)) = true := by rw [decide_eq_true_eq]; omega
    clear h2
    go_enter Try.func3, Try.ntmps3
    go_wp2_with fail
    refine (tawake_any _).mono ?_
    rintro e w1 ⟨rfl, hg⟩
    go_wp2_with fail
    go_ret
    exact ⟨rfl, hg⟩
  have d2 : decide ((1600 : Int) < (M : Int)) = false := by rw [decide_eq_false_iff_not]; omega
  have HM2 := Lib.hid (show M ≤ 1600 by omega)
  clear h2
  go_enter Try.func3, Try.ntmps3
  go_wp2_with fail
  refine (tawake_any _).mono ?_
  rintro e w1 ⟨rfl, hg⟩
  go_wp2_with fail
  refine (new_any sv len 120 _ (by omega) hl (HB.out.gr hg)).mono ?_
  rintro e w2 ⟨b, rfl, hbe, hc, hg2⟩
  have hbw : w.heap.size ≤ b := by have := Gr.size hg; omega
  have hG := hg.step hg2
  clear hbe hg2 hg
  go_wp2_with fail
  refine (address_any b _ hc).mono ?_
  rintro e w3 ⟨src, rfl, hsrc, hc', hx⟩
  replace hG := Ex.gr hG hbw hx
  replace hc := hc'
  clear hc' hx
  go_wp2_with fail
  refine (address_any b _ hc).mono ?_
  rintro e w4 ⟨dst, rfl, hdst, hc', hx⟩
  replace hG := Ex.gr hG hbw hx
  replace hc := hc'
  clear hc' hx
  go_wp2_with fail
  refine (messages_own b src dst w w4 hG hbw hc HD.out hsrc hdst (by have := HN2.out; rw [← HN.out]; omega)).mono ?_
  rintro e w5 ⟨g, v0, v1, v2, v3, n0, n1, n2, n3, rfl, hn, hcl, hbg, h0, h1, h2, h3, hc5, hG5⟩
  obtain ⟨a0, c0, rfl⟩ := h0.form
  obtain ⟨a1, c1, rfl⟩ := h1.form
  obtain ⟨a2, c2, rfl⟩ := h2.form
  obtain ⟨a3, c3, rfl⟩ := h3.form
  have H4 := Lib.hid (Four.mk hcl h0 h1 h2 h3)
  have HNN := Lib.hid hn
  have HC := Lib.hid hc5
  have HG := Lib.hid hG5
  have hgb : g ≠ b := by omega
  have HS := Lib.hid (And.intro hsrc hdst)
  clear hc hG hc5 hG5 hcl h0 h1 h2 h3 hn hsrc hdst
  go_wp2_with fail
  go_loopw [11] (fun iv wr => ∃ t : Nat, t ≤ 4 ∧ iv = .int .i64 t ∧ Gr w wr ∧ Cod w.heap.size wr b ∧ Four b wr g a0 n0 c0 a1 n1 c1 a2 n2 c2 a3 n3 c3) (fun iv _ => 4 - (intOf iv).toNat)
  case atStart => exact ⟨0, by omega, rfl, HG.out, HC.out, H4.out⟩
  case round =>
    obtain ⟨t, ht, rfl, hG, hc, h4⟩ := hrel
    by_cases hlt : t < 4
    · have dt : (t : Int) < 4 := by omega
      obtain ⟨ya, yn, yc, L, hrow, ho, hL⟩ := h4.row HNN.out t hlt
      have hcell := hrow _ h4.cl
      have HR := Lib.hid hrow
      have HO := Lib.hid ho
      have HL := Lib.hid hL
      clear hrow ho hL
      go_wp2_with fail
      have hyr := HO.out.rb.any
      refine (decodes_any src dst _ L _ hyr HS.out.1 HS.out.2 (by have := HL.out; omega)).mono ?_
      rintro e v1 ⟨rfl, hg⟩
      clear hyr hcell
      replace hG := hG.step hg
      replace hc := hc.gr hg
      replace h4 := h4.gr hg
      replace HO := Lib.hid (HO.out.gr hg)
      clear hg
      have hcell := HR.out _ h4.cl
      go_wp2_with fail
      refine (spoilt_res (base := b + 1) b _ L _ hc HO.out (by have := HL.out; omega) (fun k hk => by have := HO.out.above k hk; omega)).mono ?_
      rintro e v2 ⟨xs, ls, rfl, hrs, hls, he, hc'⟩
      clear hcell
      replace hG := Ex.gr hG hbw he
      replace hc := hc'
      replace h4 := h4.ex he hgb
      have HX := Lib.hid hrs.any
      have HLS := Lib.hid hls
      obtain ⟨xa, xc, rfl, -, -⟩ := hrs.form
      generalize ls.length = xn at HX ⊢
      clear hc' he hrs hls
      go_wp2_with fail
      refine (decodes_any src dst _ ls _ HX.out HS.out.1 HS.out.2 (by have := HLS.out; omega)).mono ?_
      rintro e v3 ⟨rfl, hg⟩
      replace hG := hG.step hg
      replace hc := hc.gr hg
      replace h4 := h4.gr hg
      clear hg
      go_wp2_with fail
      case roundEnd => exact ⟨⟨t + 1, by omega, by simp, hG, hc, h4⟩, by simp [intOf]; omega⟩
    · obtain rfl : t = 4 := by omega
      go_wp2_with fail
      refine (decodes_any src dst _ m _ (HM.out.gr hG) HS.out.1 HS.out.2 (by have := HM2.out; rw [← HMM.out]; omega)).mono ?_
      rintro e v1 ⟨rfl, hg⟩
      go_wp2_with fail
      go_ret
      exact ⟨rfl, hG.step hg⟩
end Go.Proofs.Ytlkhdbgknkjioaa
