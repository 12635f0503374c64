/- Decoding any bytes: both sides agree. -/
import Derived.Test.YtlkhdbgknkjioaaKk6
import Derived.WalkKit
import Derived.WalkSpells
import Derived.WalkLawsBesides
import Derived.WalkSmall
import Derived.Handy
import Derived.BigQuiet
import Derived.Deep.QuietTactic
import Derived.Deep.RegionHeld3
import Derived.Deep.DeepFit
import Derived.Below
import Derived.Lib.Hide
import Derived.Lib.QuietBelow
namespace Go.Proofs.Ytlkhdbgknkjioaa
open Go Go.RowKit Go.Sort
set_option maxRecDepth 100000
set_option linter.unusedVariables false
set_option linter.unusedSimpArgs false
set_option linter.unusedVariables false
set_option maxHeartbeats 4000000 in
theorem decodes_any (src dst : Nat) (v : Value) (l : List Nat) (w : World) (hr : Rb (fun _ => True) w v l) (hsr : src < 4294967296) (hds : dst < 4294967296) (hl : l.length ≤ 30000) :
    Calls Try.prog 14 #[.int .u32 src, .int .u32 dst, v] w fun e w' => e = .returned (.bool true) ∧ Gr w w' := by
  have HR := Lib.hid hr
  obtain ⟨r1, a1, b1, dE, E1, l1, p1, q1⟩ := echo_both l hl
  obtain ⟨a2, b2, dN, E2, l2, p2, q2⟩ := note_both l hl
  obtain ⟨a3, b3, dU, E3, l3, p3, q3⟩ := udp_both src dst hsr hds l hl
  obtain ⟨a4, b4, c4, f4, g4, h4, dT, E4, l4, p4, q4⟩ := tcp_both src dst hsr hds l hl
  have L1 := Lib.hid (fun (m : List Nat) (hm : m = dE) => (by rw [hm]; exact l1 : m.length ≤ 30000))
  have L2 := Lib.hid (fun (m : List Nat) (hm : m = dN) => (by rw [hm]; exact l2 : m.length ≤ 30000))
  have L3 := Lib.hid (fun (m : List Nat) (hm : m = dU) => (by rw [hm]; exact l3 : m.length ≤ 30000))
  have L4 := Lib.hid (fun (m : List Nat) (hm : m = dT) => (by rw [hm]; exact l4 : m.length ≤ 30000))
  have H1 := Lib.hid p1
  have H2 := Lib.hid q1
  have H3 := Lib.hid p2
  have H4 := Lib.hid q2
  have H5 := Lib.hid p3
  have H6 := Lib.hid q3
  have H7 := Lib.hid p4
  have H8 := Lib.hid q4
  have hG := Gr.refl w
  obtain ⟨av, cv, rfl, -, -⟩ := hr.form
  have HR0 := HR
  generalize l.length = NL at HR HR0 ⊢
  clear l1 l2 l3 l4 p1 p2 p3 p4 q1 q2 q3 q4 hr hl
  go_enter Try.func14, Try.ntmps14
  go_wp2_with fail
  refine (H1.out _ _ (HR.out.gr hG)).mono ?_
  rintro e x1 ⟨v1, rfl, ho1, hg⟩
  replace hG := hG.step hg
  clear hg
  obtain ⟨u1, s1, rfl, -, -⟩ := ho1.rb.form
  generalize dE.length = n1 at ho1 ⊢
  have HO1 := Lib.hid ho1.rb.any
  clear ho1
  have hC := CL.new x1 [.bool r1, .int .i64 a1, .int .i64 b1, .slice u1 n1 s1] 36 _ rfl
  have hgn := Gr.alloc (Gr.refl x1) (.cells #[.bool r1, .int .i64 a1, .int .i64 b1, .slice u1 n1 s1] 36)
  simp only [List.toArray] at hC
  go_upto_region 2 with fail
  generalize x1.alloc (.cells #[.bool r1, .int .i64 a1, .int .i64 b1, .slice u1 n1 s1] 36) = y1 at hC hgn ⊢
  generalize x1.heap.size = gb1 at hC ⊢
  have C1 := Lib.hid hC
  clear hC
  replace hG := hG.step hgn
  replace HO1 := Lib.hid (HO1.out.gr hgn)
  clear hgn
  go_wp2_with fail
  refine (H2.out _ _ (HR.out.gr hG)).mono ?_
  rintro e x2 ⟨v2, rfl, ho2, hg⟩
  replace hG := hG.step hg
  replace C1 := Lib.hid (C1.out.gr hg)
  replace HO1 := Lib.hid (HO1.out.gr hg)
  clear hg
  obtain ⟨u2, s2, rfl, -, -⟩ := ho2.rb.form
  generalize dE.length = n2 at ho2 ⊢
  have HO2 := Lib.hid ho2.rb.any
  clear ho2
  have hC := CL.new x2 [.bool r1, .int .i64 a1, .int .i64 b1, .slice u2 n2 s2] 36 _ rfl
  have hgn := Gr.alloc (Gr.refl x2) (.cells #[.bool r1, .int .i64 a1, .int .i64 b1, .slice u2 n2 s2] 36)
  simp only [List.toArray] at hC
  go_upto_region 3 with fail
  generalize x2.alloc (.cells #[.bool r1, .int .i64 a1, .int .i64 b1, .slice u2 n2 s2] 36) = y2 at hC hgn ⊢
  generalize x2.heap.size = gb2 at hC ⊢
  have C2 := Lib.hid hC
  clear hC
  replace hG := hG.step hgn
  replace C1 := Lib.hid (C1.out.gr hgn)
  replace HO1 := Lib.hid (HO1.out.gr hgn)
  replace HO2 := Lib.hid (HO2.out.gr hgn)
  clear hgn
  go_wp2_with fail
  refine (H3.out _ _ (HR.out.gr hG)).mono ?_
  rintro e x3 ⟨v3, rfl, ho3, hg⟩
  replace hG := hG.step hg
  replace C1 := Lib.hid (C1.out.gr hg)
  replace C2 := Lib.hid (C2.out.gr hg)
  replace HO1 := Lib.hid (HO1.out.gr hg)
  replace HO2 := Lib.hid (HO2.out.gr hg)
  clear hg
  obtain ⟨u3, s3, rfl, -, -⟩ := ho3.rb.form
  generalize dN.length = n3 at ho3 ⊢
  have HO3 := Lib.hid ho3.rb.any
  clear ho3
  have hC := CL.new x3 [.int .i64 a2, .int .i64 b2, .slice u3 n3 s3] 39 _ rfl
  have hgn := Gr.alloc (Gr.refl x3) (.cells #[.int .i64 a2, .int .i64 b2, .slice u3 n3 s3] 39)
  simp only [List.toArray] at hC
  go_upto_region 4 with fail
  generalize x3.alloc (.cells #[.int .i64 a2, .int .i64 b2, .slice u3 n3 s3] 39) = y3 at hC hgn ⊢
  generalize x3.heap.size = gb3 at hC ⊢
  have C3 := Lib.hid hC
  clear hC
  replace hG := hG.step hgn
  replace C1 := Lib.hid (C1.out.gr hgn)
  replace C2 := Lib.hid (C2.out.gr hgn)
  replace HO1 := Lib.hid (HO1.out.gr hgn)
  replace HO2 := Lib.hid (HO2.out.gr hgn)
  replace HO3 := Lib.hid (HO3.out.gr hgn)
  clear hgn
  go_wp2_with fail
  refine (H4.out _ _ (HR.out.gr hG)).mono ?_
  rintro e x4 ⟨v4, rfl, ho4, hg⟩
  replace hG := hG.step hg
  replace C1 := Lib.hid (C1.out.gr hg)
  replace C2 := Lib.hid (C2.out.gr hg)
  replace C3 := Lib.hid (C3.out.gr hg)
  replace HO1 := Lib.hid (HO1.out.gr hg)
  replace HO2 := Lib.hid (HO2.out.gr hg)
  replace HO3 := Lib.hid (HO3.out.gr hg)
  clear hg
  obtain ⟨u4, s4, rfl, -, -⟩ := ho4.rb.form
  generalize dN.length = n4 at ho4 ⊢
  have HO4 := Lib.hid ho4.rb.any
  clear ho4
  have hC := CL.new x4 [.int .i64 a2, .int .i64 b2, .slice u4 n4 s4] 39 _ rfl
  have hgn := Gr.alloc (Gr.refl x4) (.cells #[.int .i64 a2, .int .i64 b2, .slice u4 n4 s4] 39)
  simp only [List.toArray] at hC
  go_upto_region 5 with fail
  generalize x4.alloc (.cells #[.int .i64 a2, .int .i64 b2, .slice u4 n4 s4] 39) = y4 at hC hgn ⊢
  generalize x4.heap.size = gb4 at hC ⊢
  have C4 := Lib.hid hC
  clear hC
  replace hG := hG.step hgn
  replace C1 := Lib.hid (C1.out.gr hgn)
  replace C2 := Lib.hid (C2.out.gr hgn)
  replace C3 := Lib.hid (C3.out.gr hgn)
  replace HO1 := Lib.hid (HO1.out.gr hgn)
  replace HO2 := Lib.hid (HO2.out.gr hgn)
  replace HO3 := Lib.hid (HO3.out.gr hgn)
  replace HO4 := Lib.hid (HO4.out.gr hgn)
  clear hgn
  go_wp2_with fail
  refine (H5.out _ _ (HR.out.gr hG)).mono ?_
  rintro e x5 ⟨v5, rfl, ho5, hg⟩
  replace hG := hG.step hg
  replace C1 := Lib.hid (C1.out.gr hg)
  replace C2 := Lib.hid (C2.out.gr hg)
  replace C3 := Lib.hid (C3.out.gr hg)
  replace C4 := Lib.hid (C4.out.gr hg)
  replace HO1 := Lib.hid (HO1.out.gr hg)
  replace HO2 := Lib.hid (HO2.out.gr hg)
  replace HO3 := Lib.hid (HO3.out.gr hg)
  replace HO4 := Lib.hid (HO4.out.gr hg)
  clear hg
  obtain ⟨u5, s5, rfl, -, -⟩ := ho5.rb.form
  generalize dU.length = n5 at ho5 ⊢
  have HO5 := Lib.hid ho5.rb.any
  clear ho5
  have hC := CL.new x5 [.int .i64 a3, .int .i64 b3, .slice u5 n5 s5] 41 _ rfl
  have hgn := Gr.alloc (Gr.refl x5) (.cells #[.int .i64 a3, .int .i64 b3, .slice u5 n5 s5] 41)
  simp only [List.toArray] at hC
  go_upto_region 6 with fail
  generalize x5.alloc (.cells #[.int .i64 a3, .int .i64 b3, .slice u5 n5 s5] 41) = y5 at hC hgn ⊢
  generalize x5.heap.size = gb5 at hC ⊢
  have C5 := Lib.hid hC
  clear hC
  replace hG := hG.step hgn
  replace C1 := Lib.hid (C1.out.gr hgn)
  replace C2 := Lib.hid (C2.out.gr hgn)
  replace C3 := Lib.hid (C3.out.gr hgn)
  replace C4 := Lib.hid (C4.out.gr hgn)
  replace HO1 := Lib.hid (HO1.out.gr hgn)
  replace HO2 := Lib.hid (HO2.out.gr hgn)
  replace HO3 := Lib.hid (HO3.out.gr hgn)
  replace HO4 := Lib.hid (HO4.out.gr hgn)
  replace HO5 := Lib.hid (HO5.out.gr hgn)
  clear hgn
  go_wp2_with fail
  refine (H6.out _ _ (HR.out.gr hG)).mono ?_
  rintro e x6 ⟨v6, rfl, ho6, hg⟩
  replace hG := hG.step hg
  replace C1 := Lib.hid (C1.out.gr hg)
  replace C2 := Lib.hid (C2.out.gr hg)
  replace C3 := Lib.hid (C3.out.gr hg)
  replace C4 := Lib.hid (C4.out.gr hg)
  replace C5 := Lib.hid (C5.out.gr hg)
  replace HO1 := Lib.hid (HO1.out.gr hg)
  replace HO2 := Lib.hid (HO2.out.gr hg)
  replace HO3 := Lib.hid (HO3.out.gr hg)
  replace HO4 := Lib.hid (HO4.out.gr hg)
  replace HO5 := Lib.hid (HO5.out.gr hg)
  clear hg
  obtain ⟨u6, s6, rfl, -, -⟩ := ho6.rb.form
  generalize dU.length = n6 at ho6 ⊢
  have HO6 := Lib.hid ho6.rb.any
  clear ho6
  have hC := CL.new x6 [.int .i64 a3, .int .i64 b3, .slice u6 n6 s6] 41 _ rfl
  have hgn := Gr.alloc (Gr.refl x6) (.cells #[.int .i64 a3, .int .i64 b3, .slice u6 n6 s6] 41)
  simp only [List.toArray] at hC
  go_upto_region 7 with fail
  generalize x6.alloc (.cells #[.int .i64 a3, .int .i64 b3, .slice u6 n6 s6] 41) = y6 at hC hgn ⊢
  generalize x6.heap.size = gb6 at hC ⊢
  have C6 := Lib.hid hC
  clear hC
  replace hG := hG.step hgn
  replace C1 := Lib.hid (C1.out.gr hgn)
  replace C2 := Lib.hid (C2.out.gr hgn)
  replace C3 := Lib.hid (C3.out.gr hgn)
  replace C4 := Lib.hid (C4.out.gr hgn)
  replace C5 := Lib.hid (C5.out.gr hgn)
  replace HO1 := Lib.hid (HO1.out.gr hgn)
  replace HO2 := Lib.hid (HO2.out.gr hgn)
  replace HO3 := Lib.hid (HO3.out.gr hgn)
  replace HO4 := Lib.hid (HO4.out.gr hgn)
  replace HO5 := Lib.hid (HO5.out.gr hgn)
  replace HO6 := Lib.hid (HO6.out.gr hgn)
  clear hgn
  go_wp2_with fail
  refine (H7.out _ _ (HR.out.gr hG)).mono ?_
  rintro e x7 ⟨v7, rfl, ho7, hg⟩
  replace hG := hG.step hg
  replace C1 := Lib.hid (C1.out.gr hg)
  replace C2 := Lib.hid (C2.out.gr hg)
  replace C3 := Lib.hid (C3.out.gr hg)
  replace C4 := Lib.hid (C4.out.gr hg)
  replace C5 := Lib.hid (C5.out.gr hg)
  replace C6 := Lib.hid (C6.out.gr hg)
  replace HO1 := Lib.hid (HO1.out.gr hg)
  replace HO2 := Lib.hid (HO2.out.gr hg)
  replace HO3 := Lib.hid (HO3.out.gr hg)
  replace HO4 := Lib.hid (HO4.out.gr hg)
  replace HO5 := Lib.hid (HO5.out.gr hg)
  replace HO6 := Lib.hid (HO6.out.gr hg)
  clear hg
  obtain ⟨u7, s7, rfl, -, -⟩ := ho7.rb.form
  generalize dT.length = n7 at ho7 ⊢
  have HO7 := Lib.hid ho7.rb.any
  clear ho7
  have hC := CL.new x7 [.int .i64 a4, .int .i64 b4, .int .i64 c4, .int .i64 f4, .int .i64 g4, .int .i64 h4, .slice u7 n7 s7] 44 _ rfl
  have hgn := Gr.alloc (Gr.refl x7) (.cells #[.int .i64 a4, .int .i64 b4, .int .i64 c4, .int .i64 f4, .int .i64 g4, .int .i64 h4, .slice u7 n7 s7] 44)
  simp only [List.toArray] at hC
  go_upto_region 8 with fail
  generalize x7.alloc (.cells #[.int .i64 a4, .int .i64 b4, .int .i64 c4, .int .i64 f4, .int .i64 g4, .int .i64 h4, .slice u7 n7 s7] 44) = y7 at hC hgn ⊢
  generalize x7.heap.size = gb7 at hC ⊢
  have C7 := Lib.hid hC
  clear hC
  replace hG := hG.step hgn
  replace C1 := Lib.hid (C1.out.gr hgn)
  replace C2 := Lib.hid (C2.out.gr hgn)
  replace C3 := Lib.hid (C3.out.gr hgn)
  replace C4 := Lib.hid (C4.out.gr hgn)
  replace C5 := Lib.hid (C5.out.gr hgn)
  replace C6 := Lib.hid (C6.out.gr hgn)
  replace HO1 := Lib.hid (HO1.out.gr hgn)
  replace HO2 := Lib.hid (HO2.out.gr hgn)
  replace HO3 := Lib.hid (HO3.out.gr hgn)
  replace HO4 := Lib.hid (HO4.out.gr hgn)
  replace HO5 := Lib.hid (HO5.out.gr hgn)
  replace HO6 := Lib.hid (HO6.out.gr hgn)
  replace HO7 := Lib.hid (HO7.out.gr hgn)
  clear hgn
  go_wp2_with fail
  refine (H8.out _ _ (HR.out.gr hG)).mono ?_
  rintro e x8 ⟨v8, rfl, ho8, hg⟩
  replace hG := hG.step hg
  replace C1 := Lib.hid (C1.out.gr hg)
  replace C2 := Lib.hid (C2.out.gr hg)
  replace C3 := Lib.hid (C3.out.gr hg)
  replace C4 := Lib.hid (C4.out.gr hg)
  replace C5 := Lib.hid (C5.out.gr hg)
  replace C6 := Lib.hid (C6.out.gr hg)
  replace C7 := Lib.hid (C7.out.gr hg)
  replace HO1 := Lib.hid (HO1.out.gr hg)
  replace HO2 := Lib.hid (HO2.out.gr hg)
  replace HO3 := Lib.hid (HO3.out.gr hg)
  replace HO4 := Lib.hid (HO4.out.gr hg)
  replace HO5 := Lib.hid (HO5.out.gr hg)
  replace HO6 := Lib.hid (HO6.out.gr hg)
  replace HO7 := Lib.hid (HO7.out.gr hg)
  clear hg
  obtain ⟨u8, s8, rfl, -, -⟩ := ho8.rb.form
  generalize dT.length = n8 at ho8 ⊢
  have HO8 := Lib.hid ho8.rb.any
  clear ho8
  have hC := CL.new x8 [.int .i64 a4, .int .i64 b4, .int .i64 c4, .int .i64 f4, .int .i64 g4, .int .i64 h4, .slice u8 n8 s8] 44 _ rfl
  have hgn := Gr.alloc (Gr.refl x8) (.cells #[.int .i64 a4, .int .i64 b4, .int .i64 c4, .int .i64 f4, .int .i64 g4, .int .i64 h4, .slice u8 n8 s8] 44)
  simp only [List.toArray] at hC
  go_upto_region 9 with fail
  generalize x8.alloc (.cells #[.int .i64 a4, .int .i64 b4, .int .i64 c4, .int .i64 f4, .int .i64 g4, .int .i64 h4, .slice u8 n8 s8] 44) = y8 at hC hgn ⊢
  generalize x8.heap.size = gb8 at hC ⊢
  have C8 := Lib.hid hC
  clear hC
  replace hG := hG.step hgn
  replace C1 := Lib.hid (C1.out.gr hgn)
  replace C2 := Lib.hid (C2.out.gr hgn)
  replace C3 := Lib.hid (C3.out.gr hgn)
  replace C4 := Lib.hid (C4.out.gr hgn)
  replace C5 := Lib.hid (C5.out.gr hgn)
  replace C6 := Lib.hid (C6.out.gr hgn)
  replace C7 := Lib.hid (C7.out.gr hgn)
  replace HO1 := Lib.hid (HO1.out.gr hgn)
  replace HO2 := Lib.hid (HO2.out.gr hgn)
  replace HO3 := Lib.hid (HO3.out.gr hgn)
  replace HO4 := Lib.hid (HO4.out.gr hgn)
  replace HO5 := Lib.hid (HO5.out.gr hgn)
  replace HO6 := Lib.hid (HO6.out.gr hgn)
  replace HO7 := Lib.hid (HO7.out.gr hgn)
  replace HO8 := Lib.hid (HO8.out.gr hgn)
  clear hgn
  obtain ⟨⟨z0, z1, z2, z3⟩, -⟩ := C1.out.four
  obtain ⟨⟨t0, t1, t2, t3⟩, -⟩ := C2.out.four
  go_wp2_with fail
  refine (same_echo r1 a1 b1 _ HO1.out HO2.out (L1.out _ rfl)).mono ?_
  rintro e w1 ⟨rfl, hg⟩
  clear z0 z1 z2 z3 t0 t1 t2 t3
  replace hG := hG.step hg
  replace C1 := Lib.hid (C1.out.gr hg)
  replace C2 := Lib.hid (C2.out.gr hg)
  replace C3 := Lib.hid (C3.out.gr hg)
  replace C4 := Lib.hid (C4.out.gr hg)
  replace C5 := Lib.hid (C5.out.gr hg)
  replace C6 := Lib.hid (C6.out.gr hg)
  replace C7 := Lib.hid (C7.out.gr hg)
  replace C8 := Lib.hid (C8.out.gr hg)
  replace HO1 := Lib.hid (HO1.out.gr hg)
  replace HO2 := Lib.hid (HO2.out.gr hg)
  replace HO3 := Lib.hid (HO3.out.gr hg)
  replace HO4 := Lib.hid (HO4.out.gr hg)
  replace HO5 := Lib.hid (HO5.out.gr hg)
  replace HO6 := Lib.hid (HO6.out.gr hg)
  replace HO7 := Lib.hid (HO7.out.gr hg)
  replace HO8 := Lib.hid (HO8.out.gr hg)
  clear hg
  obtain ⟨⟨z0, z1, z2⟩, -⟩ := C3.out.three
  obtain ⟨⟨t0, t1, t2⟩, -⟩ := C4.out.three
  go_wp2_with fail
  refine (same_note a2 b2 _ HO3.out HO4.out (L2.out _ rfl)).mono ?_
  rintro e w2 ⟨rfl, hg⟩
  clear z0 z1 z2 t0 t1 t2
  replace hG := hG.step hg
  replace C1 := Lib.hid (C1.out.gr hg)
  replace C2 := Lib.hid (C2.out.gr hg)
  replace C3 := Lib.hid (C3.out.gr hg)
  replace C4 := Lib.hid (C4.out.gr hg)
  replace C5 := Lib.hid (C5.out.gr hg)
  replace C6 := Lib.hid (C6.out.gr hg)
  replace C7 := Lib.hid (C7.out.gr hg)
  replace C8 := Lib.hid (C8.out.gr hg)
  replace HO1 := Lib.hid (HO1.out.gr hg)
  replace HO2 := Lib.hid (HO2.out.gr hg)
  replace HO3 := Lib.hid (HO3.out.gr hg)
  replace HO4 := Lib.hid (HO4.out.gr hg)
  replace HO5 := Lib.hid (HO5.out.gr hg)
  replace HO6 := Lib.hid (HO6.out.gr hg)
  replace HO7 := Lib.hid (HO7.out.gr hg)
  replace HO8 := Lib.hid (HO8.out.gr hg)
  clear hg
  obtain ⟨⟨z0, z1, z2⟩, -⟩ := C5.out.three
  obtain ⟨⟨t0, t1, t2⟩, -⟩ := C6.out.three
  go_wp2_with fail
  refine (same_udp a3 b3 _ HO5.out HO6.out (L3.out _ rfl)).mono ?_
  rintro e w3 ⟨rfl, hg⟩
  clear z0 z1 z2 t0 t1 t2
  replace hG := hG.step hg
  replace C1 := Lib.hid (C1.out.gr hg)
  replace C2 := Lib.hid (C2.out.gr hg)
  replace C3 := Lib.hid (C3.out.gr hg)
  replace C4 := Lib.hid (C4.out.gr hg)
  replace C5 := Lib.hid (C5.out.gr hg)
  replace C6 := Lib.hid (C6.out.gr hg)
  replace C7 := Lib.hid (C7.out.gr hg)
  replace C8 := Lib.hid (C8.out.gr hg)
  replace HO1 := Lib.hid (HO1.out.gr hg)
  replace HO2 := Lib.hid (HO2.out.gr hg)
  replace HO3 := Lib.hid (HO3.out.gr hg)
  replace HO4 := Lib.hid (HO4.out.gr hg)
  replace HO5 := Lib.hid (HO5.out.gr hg)
  replace HO6 := Lib.hid (HO6.out.gr hg)
  replace HO7 := Lib.hid (HO7.out.gr hg)
  replace HO8 := Lib.hid (HO8.out.gr hg)
  clear hg
  obtain ⟨⟨z0, z1, z2, z3, z4, z5, z6⟩, -⟩ := C7.out.seven
  obtain ⟨⟨t0, t1, t2, t3, t4, t5, t6⟩, -⟩ := C8.out.seven
  go_wp2_with fail
  refine (same_tcp a4 b4 c4 f4 g4 h4 _ HO7.out HO8.out (L4.out _ rfl)).mono ?_
  rintro e w4 ⟨rfl, hg⟩
  clear z0 z1 z2 z3 z4 z5 z6 t0 t1 t2 t3 t4 t5 t6
  replace hG := hG.step hg
  replace C1 := Lib.hid (C1.out.gr hg)
  replace C2 := Lib.hid (C2.out.gr hg)
  replace C3 := Lib.hid (C3.out.gr hg)
  replace C4 := Lib.hid (C4.out.gr hg)
  replace C5 := Lib.hid (C5.out.gr hg)
  replace C6 := Lib.hid (C6.out.gr hg)
  replace C7 := Lib.hid (C7.out.gr hg)
  replace C8 := Lib.hid (C8.out.gr hg)
  replace HO1 := Lib.hid (HO1.out.gr hg)
  replace HO2 := Lib.hid (HO2.out.gr hg)
  replace HO3 := Lib.hid (HO3.out.gr hg)
  replace HO4 := Lib.hid (HO4.out.gr hg)
  replace HO5 := Lib.hid (HO5.out.gr hg)
  replace HO6 := Lib.hid (HO6.out.gr hg)
  replace HO7 := Lib.hid (HO7.out.gr hg)
  replace HO8 := Lib.hid (HO8.out.gr hg)
  clear hg
  go_wp2_with fail
  go_ret
  exact ⟨rfl, hG⟩
end Go.Proofs.Ytlkhdbgknkjioaa
