/- The walk of the statement on exchanged addresses. -/
import Derived.Test.YtjpjnbgfodlkcaaKy
import Derived.WalkKit
import Derived.WalkSpells
import Derived.WalkLawsBesides
import Derived.WalkSmall
import Derived.Handy
import Derived.BigQuiet
import Derived.Deep.QuietTactic
import Derived.Deep.RegionHeld3
import Derived.Deep.DeepFit
import Derived.Below
import Derived.Lib.Hide
import Derived.Lib.QuietBelow
namespace Go.Proofs.Ytjpjnbgfodlkcaa
open Go Go.RowKit Go.Sort
set_option maxRecDepth 100000
set_option linter.unusedVariables false
set_option linter.unusedSimpArgs false
set_option maxHeartbeats 4000000 in
theorem swaps_walk {q : Nat → Prop} (sv vd : Value) (len : Nat) (d : List Nat) (w : World) (hl : len ≤ 9223372036854775807) (hb : BytesV w.heap.size w sv len) (hd : Rb q w vd d) :
    Calls Try.prog 6 #[sv, vd] w fun e w' => e = .returned (.bool true) ∧ Gr w w' := by
  have HD := Lib.hid hd
  have HB := Lib.hid hb
  obtain ⟨ad, cd, rfl, hcd, hmd⟩ := hd.form
  obtain ⟨N, hN⟩ : ∃ N, N = d.length := ⟨_, rfl⟩
  have HN := Lib.hid hN
  rw [← hN] at HD hcd ⊢
  clear hd hb hN
  by_cases h1 : 1400 < N
  · have d1 : decide ((1400 : Int) < (N : Int)) = true := by rw [decide_eq_true_eq]; omega
    clear h1
    go_enter Try.func6, Try.ntmps6
    go_wp2_with fail
    refine (tawake_any _).mono ?_
    rintro e w1 ⟨rfl, hg⟩
    go_wp2_with fail
    go_ret
    exact ⟨rfl, hg⟩
  have d1 : decide ((1400 : Int) < (N : Int)) = false := by rw [decide_eq_false_iff_not]; omega
  have hN2 : N ≤ 1400 := by omega
  clear h1 hcd
  go_enter Try.func6, Try.ntmps6
  go_wp2_with fail
  refine (tawake_any _).mono ?_
  rintro e w1 ⟨rfl, hg⟩
  go_wp2_with fail
  refine (new_any sv len 120 _ (by omega) hl (HB.out.gr hg)).mono ?_
  rintro e w2 ⟨b, rfl, hbe, hc, hg2⟩
  have hbw : w.heap.size ≤ b := by have := Gr.size hg; omega
  have hG := hg.step hg2
  clear hbe hg2 hg
  go_wp2_with fail
  refine (address_any b _ hc).mono ?_
  rintro e w3 ⟨src, rfl, hsrc, hc', hx⟩
  replace hG := Ex.gr hG hbw hx
  replace hc := hc'
  clear hc' hx
  go_wp2_with fail
  refine (address_any b _ hc).mono ?_
  rintro e w4 ⟨dst, rfl, hdst, hc', hx⟩
  replace hG := Ex.gr hG hbw hx
  replace hc := hc'
  clear hc' hx
  go_wp2_with fail
  refine (messages_any b src dst w w4 hG hbw hc HD.out hsrc hdst (by have := HN.out; omega)).mono ?_
  rintro e w5 ⟨r, i, s, t, c, sp, dp, sq1, dq1, sq, ak, fl, wi, g, v0, v1, v2, v3, rfl, hi, hs, ht, hcc, hsp, hdp, hsq1, hdq1, hsq, hak, hfl, hwi, hcl, hbg, h0, h1, h2, h3, hc5, hG5⟩
  replace hc := hc5
  replace hG := hG5
  clear hc5 hG5
  obtain ⟨a0, c0, rfl, -, -⟩ := h0.form
  obtain ⟨a1, c1, rfl, -, -⟩ := h1.form
  obtain ⟨a2, c2, rfl, -, -⟩ := h2.form
  obtain ⟨a3, c3, rfl, -, -⟩ := h3.form
  rw [echo_len, ← HN.out] at h0
  rw [note_len] at h1
  rw [udp_len, ← HN.out] at h2
  rw [tcp_len, ← HN.out] at h3
  rw [echo_len, note_len, udp_len, tcp_len, ← HN.out] at hcl
  generalize hn1 : 8 + N = N8 at h0 h2 hcl
  generalize hn2 : 8 + (List.replicate 28 0 ++ d).length = NT at h1 hcl
  generalize hn3 : 20 + N = N20 at h3 hcl
  have HN8 := Lib.hid hn1
  have HNT := Lib.hid hn2
  have HN20 := Lib.hid hn3
  clear hn1 hn2 hn3
  clear h0 h1 HN8 HNT HN20
  have hlt5 := hcl.lt
  rw [udp_swap] at h2
  obtain ⟨⟨z0, z1, z2, z3⟩, -⟩ := hcl.four
  go_wp2_with fail
  refine (udp_dec (src := dst) (dst := src) (sp := sp) (dp := dp) w5 h2 hdst hsrc hsp hdp (by rw [← HN.out]; omega)).mono ?_
  rintro e wd ⟨u1, rfl, hu1, hg⟩
  obtain ⟨b1, k1, rfl, -, -⟩ := hu1.rb.form
  replace hu1 := hu1.rb.any
  rw [← HN.out] at hu1 ⊢
  replace hcl := hcl.gr hg
  replace hG := hG.step hg
  replace h2 := h2.gr hg
  replace h3 := h3.gr hg
  clear hg z0 z1 z2 z3
  go_upto_region 7 with fail
  have hC1 := CL.new wd [.int .i64 sp, .int .i64 dp, .slice b1 N k1] 28 _ rfl
  have hg := Gr.alloc (Gr.refl wd) (.cells #[.int .i64 sp, .int .i64 dp, .slice b1 N k1] 28)
  replace hcl := hcl.gr hg
  replace hG := hG.step hg
  replace h2 := h2.gr hg
  replace h3 := h3.gr hg
  replace hu1 := hu1.gr hg
  clear hg
  generalize wd.alloc (.cells #[.int .i64 sp, .int .i64 dp, .slice b1 N k1] 28) = w6 at hcl hG h2 h3 hu1 hC1  ⊢
  generalize wd.heap.size = g1 at hC1 ⊢
  rw [udp_swap] at h2
  obtain ⟨⟨z0, z1, z2, z3⟩, -⟩ := hcl.four
  go_wp2_with fail
  refine (udp_dec (src := src) (dst := dst) (sp := sp) (dp := dp) w6 h2 hsrc hdst hsp hdp (by rw [← HN.out]; omega)).mono ?_
  rintro e wd ⟨u2, rfl, hu2, hg⟩
  obtain ⟨b2, k2, rfl, -, -⟩ := hu2.rb.form
  replace hu2 := hu2.rb.any
  rw [← HN.out] at hu2 ⊢
  replace hcl := hcl.gr hg
  replace hG := hG.step hg
  replace h2 := h2.gr hg
  replace h3 := h3.gr hg
  replace hC1 := hC1.gr hg
  replace hu1 := hu1.gr hg
  clear hg z0 z1 z2 z3
  go_upto_region 8 with fail
  have hC2 := CL.new wd [.int .i64 sp, .int .i64 dp, .slice b2 N k2] 28 _ rfl
  have hg := Gr.alloc (Gr.refl wd) (.cells #[.int .i64 sp, .int .i64 dp, .slice b2 N k2] 28)
  replace hcl := hcl.gr hg
  replace hG := hG.step hg
  replace h2 := h2.gr hg
  replace h3 := h3.gr hg
  replace hC1 := hC1.gr hg
  replace hu1 := hu1.gr hg
  replace hu2 := hu2.gr hg
  clear hg
  generalize wd.alloc (.cells #[.int .i64 sp, .int .i64 dp, .slice b2 N k2] 28) = w7 at hcl hG h2 h3 hu2 hC2 hC1 hu1 ⊢
  generalize wd.heap.size = g2 at hC2 ⊢
  rw [tcp_swap] at h3
  obtain ⟨⟨z0, z1, z2, z3⟩, -⟩ := hcl.four
  go_wp2_with fail
  refine (tcp_dec (src := dst) (dst := src) w7 h3 hdst hsrc hsq1 hdq1 (by omega) (by omega) hfl hwi (by rw [← HN.out]; omega)).mono ?_
  rintro e wd ⟨u3, rfl, hu3, hg⟩
  obtain ⟨b3, k3, rfl, -, -⟩ := hu3.rb.form
  replace hu3 := hu3.rb.any
  rw [← HN.out] at hu3 ⊢
  replace hcl := hcl.gr hg
  replace hG := hG.step hg
  replace h2 := h2.gr hg
  replace h3 := h3.gr hg
  replace hC1 := hC1.gr hg
  replace hu1 := hu1.gr hg
  replace hC2 := hC2.gr hg
  replace hu2 := hu2.gr hg
  clear hg z0 z1 z2 z3
  go_upto_region 9 with fail
  have hC3 := CL.new wd [.int .i64 sq1, .int .i64 dq1, .int .i64 sq, .int .i64 ak, .int .i64 fl, .int .i64 wi, .slice b3 N k3] 30 _ rfl
  have hg := Gr.alloc (Gr.refl wd) (.cells #[.int .i64 sq1, .int .i64 dq1, .int .i64 sq, .int .i64 ak, .int .i64 fl, .int .i64 wi, .slice b3 N k3] 30)
  replace hcl := hcl.gr hg
  replace hG := hG.step hg
  replace h2 := h2.gr hg
  replace h3 := h3.gr hg
  replace hC1 := hC1.gr hg
  replace hu1 := hu1.gr hg
  replace hC2 := hC2.gr hg
  replace hu2 := hu2.gr hg
  replace hu3 := hu3.gr hg
  clear hg
  generalize wd.alloc (.cells #[.int .i64 sq1, .int .i64 dq1, .int .i64 sq, .int .i64 ak, .int .i64 fl, .int .i64 wi, .slice b3 N k3] 30) = w8 at hcl hG h2 h3 hu3 hC3 hC1 hu1 hC2 hu2 ⊢
  generalize wd.heap.size = g3 at hC3 ⊢
  rw [tcp_swap] at h3
  obtain ⟨⟨z0, z1, z2, z3⟩, -⟩ := hcl.four
  go_wp2_with fail
  refine (tcp_dec (src := src) (dst := dst) w8 h3 hsrc hdst hsq1 hdq1 (by omega) (by omega) hfl hwi (by rw [← HN.out]; omega)).mono ?_
  rintro e wd ⟨u4, rfl, hu4, hg⟩
  obtain ⟨b4, k4, rfl, -, -⟩ := hu4.rb.form
  replace hu4 := hu4.rb.any
  rw [← HN.out] at hu4 ⊢
  replace hcl := hcl.gr hg
  replace hG := hG.step hg
  replace h2 := h2.gr hg
  replace h3 := h3.gr hg
  replace hC1 := hC1.gr hg
  replace hu1 := hu1.gr hg
  replace hC2 := hC2.gr hg
  replace hu2 := hu2.gr hg
  replace hC3 := hC3.gr hg
  replace hu3 := hu3.gr hg
  clear hg z0 z1 z2 z3
  go_upto_region 10 with fail
  have hC4 := CL.new wd [.int .i64 sq1, .int .i64 dq1, .int .i64 sq, .int .i64 ak, .int .i64 fl, .int .i64 wi, .slice b4 N k4] 30 _ rfl
  have hg := Gr.alloc (Gr.refl wd) (.cells #[.int .i64 sq1, .int .i64 dq1, .int .i64 sq, .int .i64 ak, .int .i64 fl, .int .i64 wi, .slice b4 N k4] 30)
  replace hcl := hcl.gr hg
  replace hG := hG.step hg
  replace h2 := h2.gr hg
  replace h3 := h3.gr hg
  replace hC1 := hC1.gr hg
  replace hu1 := hu1.gr hg
  replace hC2 := hC2.gr hg
  replace hu2 := hu2.gr hg
  replace hC3 := hC3.gr hg
  replace hu3 := hu3.gr hg
  replace hu4 := hu4.gr hg
  clear hg
  generalize wd.alloc (.cells #[.int .i64 sq1, .int .i64 dq1, .int .i64 sq, .int .i64 ak, .int .i64 fl, .int .i64 wi, .slice b4 N k4] 30) = w9 at hcl hG h2 h3 hu4 hC4 hC1 hu1 hC2 hu2 hC3 hu3 ⊢
  generalize wd.heap.size = g4 at hC4 ⊢
  obtain ⟨⟨x0, x1, x2⟩, -⟩ := hC1.three
  obtain ⟨⟨y0, y1, y2⟩, -⟩ := hC2.three
  go_wp2_with fail
  refine (same_udp sp dp w9 hu1 hu2 (by rw [← HN.out]; omega)).mono ?_
  rintro e wd ⟨rfl, hg⟩
  replace hcl := hcl.gr hg
  replace hG := hG.step hg
  replace h2 := h2.gr hg
  replace h3 := h3.gr hg
  replace hC1 := hC1.gr hg
  replace hu1 := hu1.gr hg
  replace hC2 := hC2.gr hg
  replace hu2 := hu2.gr hg
  replace hC3 := hC3.gr hg
  replace hu3 := hu3.gr hg
  replace hC4 := hC4.gr hg
  replace hu4 := hu4.gr hg
  clear hg x0 x1 x2 y0 y1 y2
  obtain ⟨⟨x0, x1, x2, x3, x4, x5, x6⟩, -⟩ := hC3.seven
  obtain ⟨⟨y0, y1, y2, y3, y4, y5, y6⟩, -⟩ := hC4.seven
  go_wp2_with fail
  refine (same_tcp sq1 dq1 sq ak fl wi wd hu3 hu4 (by rw [← HN.out]; omega)).mono ?_
  rintro e we ⟨rfl, hg⟩
  replace hG := hG.step hg
  clear hg x0 x1 x2 x3 x4 x5 x6 y0 y1 y2 y3 y4 y5 y6 hC1 hC2 hC3 hC4 hu1 hu2 hu3 hu4 hcl h2 h3
  have HP1 := Lib.hid (pseudo_any src dst 6 we (HD.out.gr hG) (by rw [← HN.out]; omega) hsrc hdst)
  have hle : pcE src dst 6 d ≤ 65535 := by unfold pcE; split <;> first | exact sP_le _ _ _ _ | omega
  have HSW : Hid (pcE dst src 6 d = pcE src dst 6 d) := Lib.hid (by unfold pcE; rw [sP_swap])
  have HP2 := Lib.hid (fun wf (g : Gr w wf) => pseudo_any dst src 6 wf (HD.out.gr g) (by rw [← HN.out]; omega) hdst hsrc)
  rw [HSW.out] at HP2
  generalize pcE src dst 6 d = P at *
  go_wp2_with fail
  refine HP1.out.mono ?_
  rintro e wf ⟨rfl, hg⟩
  replace hG := hG.step hg
  clear hg
  go_wp2_with fail
  refine (HP2.out wf hG).mono ?_
  rintro e wh ⟨rfl, hg⟩
  replace hG := hG.step hg
  clear hg
  go_wp2_with fail
  go_ret
  exact ⟨rfl, hG⟩
end Go.Proofs.Ytjpjnbgfodlkcaa
