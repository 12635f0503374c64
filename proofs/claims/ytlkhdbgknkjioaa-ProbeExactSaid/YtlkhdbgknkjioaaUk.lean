/- Probes: keys. -/
import Derived.Test.YtlkhdbgknkjioaaUd
import Derived.WalkKit
import Derived.WalkSpells
import Derived.WalkLawsBesides
import Derived.WalkSmall
import Derived.Handy
import Derived.BigQuiet
import Derived.Deep.QuietTactic
import Derived.Deep.RegionHeld3
import Derived.Deep.DeepFit
import Derived.Below
import Derived.Lib.Hide
import Derived.Lib.QuietBelow
namespace Go.Proofs.Ytlkhdbgknkjioaa
open Go Go.RowKit Go.Sort
set_option maxRecDepth 100000
set_option linter.unusedVariables false
set_option linter.unusedSimpArgs false
theorem get_gN {p : Nat → Prop} {v : Value} {l : List Nat} (i k : Nat) (w : World) (h : Rb p w v l) (hk0 : 1 ≤ k) (hk1 : k ≤ 7) (hik : i + k ≤ l.length) (n : Nat) (hn : n = gN l i k) :
    Calls Try.prog 45 #[v, .int .i64 i, .int .i64 k] w fun e w' => e = .returned (.tuple #[.int .i64 (n : Nat), .int .i64 0]) ∧ w = w' := by
  subst hn; exact get_yes i k w h hk0 hk1 hik
def kyV (s d pr : Nat) (a b : Nat) : Value := .agg #[.int .u32 s, .int .u32 d, .int .i64 pr, .int .i64 a, .int .i64 b]
theorem pkey_no {p : Nat → Prop} {v : Value} {d : List Nat} (h : Hd) (w : World) (hr : Rb p w v d) (hs : ¬ sup h.proto) :
    Calls Try.prog 74 #[h.p v] w fun e w' => e = .returned (kyV h.src h.dst h.proto (kA h.proto d) (kB h.proto d)) ∧ Gr w w' := by
  have HR := Lib.hid hr
  obtain ⟨av, cv, rfl, -, -⟩ := hr.form
  obtain ⟨N, hN⟩ : ∃ N, N = d.length := ⟨_, rfl⟩
  obtain ⟨A, hA⟩ : ∃ A, A = kA h.proto d := ⟨_, rfl⟩
  obtain ⟨B, hB⟩ : ∃ B, B = kB h.proto d := ⟨_, rfl⟩
  rw [← hA, ← hB]
  rw [← hN] at HR ⊢
  have hC := (CL.new w [.int .i64 h.tos, .int .i64 h.id, .int .i64 h.ttl, .int .i64 h.proto, .bool h.keep, .int .u32 h.src, .int .u32 h.dst, .slice av N cv] 85 _ rfl).gr (Gr.alloc (Gr.refl _) (.cells #[.int .u32 0, .int .u32 0, .int .i64 0, .int .i64 0, .int .i64 0] 70))
  have hR := CL.new (w.alloc (.cells #[.int .i64 h.tos, .int .i64 h.id, .int .i64 h.ttl, .int .i64 h.proto, .bool h.keep, .int .u32 h.src, .int .u32 h.dst, .slice av N cv] 85)) [.int .u32 0, .int .u32 0, .int .i64 0, .int .i64 0, .int .i64 0] 70 (w.heap.size + 1) (by simp)
  have hG2 := ((Gr.refl w).alloc (.cells #[.int .i64 h.tos, .int .i64 h.id, .int .i64 h.ttl, .int .i64 h.proto, .bool h.keep, .int .u32 h.src, .int .u32 h.dst, .slice av N cv] 85)).alloc (.cells #[.int .u32 0, .int .u32 0, .int .i64 0, .int .i64 0, .int .i64 0] 70)
  have HA : Hid (A = 0) := Lib.hid (hA.trans (if_neg (fun k => hs (by have := k.1; unfold sup; omega))))
  have HB : Hid (B = 0) := Lib.hid (hB.trans (if_neg (fun k => hs (by have := k.1; unfold sup; omega))))
  have HK := Lib.hid (fun w => psup_no h.proto w hs)
  clear hs
  clear hN hA hB
  clear hr
  unfold Hd.p pkV kyV
  go_enter Try.func74, Try.ntmps74
  go_upto_region 1 with fail
  have hgz : w.heap.size < w.heap.size + 1 := by omega
  simp only [List.toArray] at hC hR
  generalize (w.alloc (.cells #[.int .i64 h.tos, .int .i64 h.id, .int .i64 h.ttl, .int .i64 h.proto, .bool h.keep, .int .u32 h.src, .int .u32 h.dst, .slice av N cv] 85)).alloc (.cells #[.int .u32 0, .int .u32 0, .int .i64 0, .int .i64 0, .int .i64 0] 70) = w2 at hC hR hG2 ⊢
  generalize w.heap.size + 1 = g2 at hR hgz ⊢
  have HC2 := Lib.hid hC
  clear hC
  obtain ⟨⟨q0, q1, q2, q3, q4, q5, q6, q7⟩, -⟩ := HC2.out.eight
  go_upto_region 2 with fail
  clear q0 q1 q2 q3 q4 q5 q6 q7
  have hY := CL.new w2 [.int .u32 h.src, .int .u32 h.dst, .int .i64 h.proto, .int .i64 0, .int .i64 0] 70 _ rfl
  have hg3 := Gr.alloc (Gr.refl w2) (.cells #[.int .u32 h.src, .int .u32 h.dst, .int .i64 h.proto, .int .i64 0, .int .i64 0] 70)
  have hne : w2.heap.size ≠ g2 := by have := hR.lt; omega
  have hle3 : w.heap.size < w2.heap.size := by have := hR.lt; omega
  simp only [List.toArray] at hY
  generalize w2.alloc (.cells #[.int .u32 h.src, .int .u32 h.dst, .int .i64 h.proto, .int .i64 0, .int .i64 0] 70) = w3 at hY hg3 ⊢
  generalize w2.heap.size = g3 at hY hne hle3 ⊢
  have HC := Lib.hid (HC2.out.gr hg3)
  have hR3 := hR.gr hg3
  have hG := hG2.step hg3
  have HZ := Lib.hid (And.intro hgz (And.intro hle3 hne))
  clear HC2 hR hG2 hg3 hgz hle3 hne
  obtain ⟨⟨y0, y1, y2, y3, y4⟩, u0, u1, u2, u3, u4⟩ := CL.five hY
  obtain ⟨⟨q0, q1, q2, q3, q4, q5, q6, q7⟩, -⟩ := HC.out.eight
  go_wp2_with fail
  refine (HK.out _).mono ?_
  rintro e w4 ⟨rfl, rfl⟩
  obtain ⟨⟨r0, r1, r2, r3, r4⟩, s0, s1, s2, s3, s4⟩ := CL.five hR3
  go_wp2_with fail
  clear r0 r1 r2 r3 r4 s0 s1 s2 s3 s4 q0 q1 q2 q3 q4 q5 q6 q7 y0 y1 y2 y3 y4 u0 u1 u2 u3 u4
  have hcF := hR3.fill [.int .u32 h.src, .int .u32 h.dst, .int .i64 h.proto, .int .i64 0, .int .i64 0] rfl
  have hgF := hG.fill (Nat.le_of_lt HZ.out.1) [.int .u32 h.src, .int .u32 h.dst, .int .i64 h.proto, .int .i64 0, .int .i64 0] 0
  simp only [fillC, Nat.reduceAdd] at hcF hgF
  generalize ((((w3.setCell ⟨g2, 0, none⟩ (.int .u32 h.src)).setCell ⟨g2, 1, none⟩ (.int .u32 h.dst)).setCell ⟨g2, 2, none⟩ (.int .i64 h.proto)).setCell ⟨g2, 3, none⟩ (.int .i64 0)).setCell ⟨g2, 4, none⟩ (.int .i64 0) = wF at hcF hgF ⊢
  obtain ⟨⟨c0, c1, c2, c3, c4⟩, -⟩ := CL.five hcF
  exact bodyPost_ret (v := .agg #[.int .u32 h.src, .int .u32 h.dst, .int .i64 h.proto, .int .i64 0, .int .i64 0]) (by simp [results, Try.results74, go_sem, c0, c1, c2, c3, c4]) rfl ⟨by first | rfl | (rw [HA.out, HB.out]; rfl), hgF⟩
theorem pkey_short {p : Nat → Prop} {v : Value} {d : List Nat} (h : Hd) (w : World) (hr : Rb p w v d) (hs : sup h.proto) (h4 : ¬ 4 ≤ d.length) :
    Calls Try.prog 74 #[h.p v] w fun e w' => e = .returned (kyV h.src h.dst h.proto (kA h.proto d) (kB h.proto d)) ∧ Gr w w' := by
  have HR := Lib.hid hr
  obtain ⟨av, cv, rfl, -, -⟩ := hr.form
  obtain ⟨N, hN⟩ : ∃ N, N = d.length := ⟨_, rfl⟩
  obtain ⟨A, hA⟩ : ∃ A, A = kA h.proto d := ⟨_, rfl⟩
  obtain ⟨B, hB⟩ : ∃ B, B = kB h.proto d := ⟨_, rfl⟩
  rw [← hA, ← hB]
  rw [← hN] at HR ⊢
  have hC := (CL.new w [.int .i64 h.tos, .int .i64 h.id, .int .i64 h.ttl, .int .i64 h.proto, .bool h.keep, .int .u32 h.src, .int .u32 h.dst, .slice av N cv] 85 _ rfl).gr (Gr.alloc (Gr.refl _) (.cells #[.int .u32 0, .int .u32 0, .int .i64 0, .int .i64 0, .int .i64 0] 70))
  have hR := CL.new (w.alloc (.cells #[.int .i64 h.tos, .int .i64 h.id, .int .i64 h.ttl, .int .i64 h.proto, .bool h.keep, .int .u32 h.src, .int .u32 h.dst, .slice av N cv] 85)) [.int .u32 0, .int .u32 0, .int .i64 0, .int .i64 0, .int .i64 0] 70 (w.heap.size + 1) (by simp)
  have hG2 := ((Gr.refl w).alloc (.cells #[.int .i64 h.tos, .int .i64 h.id, .int .i64 h.ttl, .int .i64 h.proto, .bool h.keep, .int .u32 h.src, .int .u32 h.dst, .slice av N cv] 85)).alloc (.cells #[.int .u32 0, .int .u32 0, .int .i64 0, .int .i64 0, .int .i64 0] 70)
  have HA : Hid (A = 0) := Lib.hid (hA.trans (if_neg (fun k => by have := k.2; omega)))
  have HB : Hid (B = 0) := Lib.hid (hB.trans (if_neg (fun k => by have := k.2; omega)))
  have HK := Lib.hid (fun w => psup_yes h.proto w hs)
  have d4 : decide ((4 : Int) ≤ (N : Int)) = false := by rw [decide_eq_false_iff_not]; omega
  clear hs h4
  clear hN hA hB
  clear hr
  unfold Hd.p pkV kyV
  go_enter Try.func74, Try.ntmps74
  go_upto_region 1 with fail
  have hgz : w.heap.size < w.heap.size + 1 := by omega
  simp only [List.toArray] at hC hR
  generalize (w.alloc (.cells #[.int .i64 h.tos, .int .i64 h.id, .int .i64 h.ttl, .int .i64 h.proto, .bool h.keep, .int .u32 h.src, .int .u32 h.dst, .slice av N cv] 85)).alloc (.cells #[.int .u32 0, .int .u32 0, .int .i64 0, .int .i64 0, .int .i64 0] 70) = w2 at hC hR hG2 ⊢
  generalize w.heap.size + 1 = g2 at hR hgz ⊢
  have HC2 := Lib.hid hC
  clear hC
  obtain ⟨⟨q0, q1, q2, q3, q4, q5, q6, q7⟩, -⟩ := HC2.out.eight
  go_upto_region 2 with fail
  clear q0 q1 q2 q3 q4 q5 q6 q7
  have hY := CL.new w2 [.int .u32 h.src, .int .u32 h.dst, .int .i64 h.proto, .int .i64 0, .int .i64 0] 70 _ rfl
  have hg3 := Gr.alloc (Gr.refl w2) (.cells #[.int .u32 h.src, .int .u32 h.dst, .int .i64 h.proto, .int .i64 0, .int .i64 0] 70)
  have hne : w2.heap.size ≠ g2 := by have := hR.lt; omega
  have hle3 : w.heap.size < w2.heap.size := by have := hR.lt; omega
  simp only [List.toArray] at hY
  generalize w2.alloc (.cells #[.int .u32 h.src, .int .u32 h.dst, .int .i64 h.proto, .int .i64 0, .int .i64 0] 70) = w3 at hY hg3 ⊢
  generalize w2.heap.size = g3 at hY hne hle3 ⊢
  have HC := Lib.hid (HC2.out.gr hg3)
  have hR3 := hR.gr hg3
  have hG := hG2.step hg3
  have HZ := Lib.hid (And.intro hgz (And.intro hle3 hne))
  clear HC2 hR hG2 hg3 hgz hle3 hne
  obtain ⟨⟨y0, y1, y2, y3, y4⟩, u0, u1, u2, u3, u4⟩ := CL.five hY
  obtain ⟨⟨q0, q1, q2, q3, q4, q5, q6, q7⟩, -⟩ := HC.out.eight
  go_wp2_with fail
  refine (HK.out _).mono ?_
  rintro e w4 ⟨rfl, rfl⟩
  obtain ⟨⟨r0, r1, r2, r3, r4⟩, s0, s1, s2, s3, s4⟩ := CL.five hR3
  go_wp2_with fail
  clear r0 r1 r2 r3 r4 s0 s1 s2 s3 s4 q0 q1 q2 q3 q4 q5 q6 q7 y0 y1 y2 y3 y4 u0 u1 u2 u3 u4
  have hcF := hR3.fill [.int .u32 h.src, .int .u32 h.dst, .int .i64 h.proto, .int .i64 0, .int .i64 0] rfl
  have hgF := hG.fill (Nat.le_of_lt HZ.out.1) [.int .u32 h.src, .int .u32 h.dst, .int .i64 h.proto, .int .i64 0, .int .i64 0] 0
  simp only [fillC, Nat.reduceAdd] at hcF hgF
  generalize ((((w3.setCell ⟨g2, 0, none⟩ (.int .u32 h.src)).setCell ⟨g2, 1, none⟩ (.int .u32 h.dst)).setCell ⟨g2, 2, none⟩ (.int .i64 h.proto)).setCell ⟨g2, 3, none⟩ (.int .i64 0)).setCell ⟨g2, 4, none⟩ (.int .i64 0) = wF at hcF hgF ⊢
  obtain ⟨⟨c0, c1, c2, c3, c4⟩, -⟩ := CL.five hcF
  exact bodyPost_ret (v := .agg #[.int .u32 h.src, .int .u32 h.dst, .int .i64 h.proto, .int .i64 0, .int .i64 0]) (by simp [results, Try.results74, go_sem, c0, c1, c2, c3, c4]) rfl ⟨by first | rfl | (rw [HA.out, HB.out]; rfl), hgF⟩
theorem pkey_long {p : Nat → Prop} {v : Value} {d : List Nat} (h : Hd) (w : World) (hr : Rb p w v d) (hs : sup h.proto) (h4 : 4 ≤ d.length) :
    Calls Try.prog 74 #[h.p v] w fun e w' => e = .returned (kyV h.src h.dst h.proto (kA h.proto d) (kB h.proto d)) ∧ Gr w w' := by
  have HR := Lib.hid hr
  obtain ⟨av, cv, rfl, -, -⟩ := hr.form
  obtain ⟨N, hN⟩ : ∃ N, N = d.length := ⟨_, rfl⟩
  obtain ⟨A, hA⟩ : ∃ A, A = kA h.proto d := ⟨_, rfl⟩
  obtain ⟨B, hB⟩ : ∃ B, B = kB h.proto d := ⟨_, rfl⟩
  rw [← hA, ← hB]
  rw [← hN] at HR ⊢
  have hC := (CL.new w [.int .i64 h.tos, .int .i64 h.id, .int .i64 h.ttl, .int .i64 h.proto, .bool h.keep, .int .u32 h.src, .int .u32 h.dst, .slice av N cv] 85 _ rfl).gr (Gr.alloc (Gr.refl _) (.cells #[.int .u32 0, .int .u32 0, .int .i64 0, .int .i64 0, .int .i64 0] 70))
  have hR := CL.new (w.alloc (.cells #[.int .i64 h.tos, .int .i64 h.id, .int .i64 h.ttl, .int .i64 h.proto, .bool h.keep, .int .u32 h.src, .int .u32 h.dst, .slice av N cv] 85)) [.int .u32 0, .int .u32 0, .int .i64 0, .int .i64 0, .int .i64 0] 70 (w.heap.size + 1) (by simp)
  have hG2 := ((Gr.refl w).alloc (.cells #[.int .i64 h.tos, .int .i64 h.id, .int .i64 h.ttl, .int .i64 h.proto, .bool h.keep, .int .u32 h.src, .int .u32 h.dst, .slice av N cv] 85)).alloc (.cells #[.int .u32 0, .int .u32 0, .int .i64 0, .int .i64 0, .int .i64 0] 70)
  have hq : (h.proto = 1 ∨ h.proto = 17 ∨ h.proto = 6) ∧ 4 ≤ d.length := ⟨by unfold sup at hs; omega, h4⟩
  have HA : Hid (A = A) := Lib.hid rfl
  have HB : Hid (B = B) := Lib.hid rfl
  have HK := Lib.hid (fun w => psup_yes h.proto w hs)
  have HG0 := Lib.hid (fun w' (g : Gr w w') => get_gN 0 2 w' (hr.gr g) (by omega) (by omega) (by omega) A (hA.trans (if_pos hq)))
  have HG1 := Lib.hid (fun w' (g : Gr w w') => get_gN 2 2 w' (hr.gr g) (by omega) (by omega) (by omega) B (hB.trans (if_pos hq)))
  rw [← hN] at HG0 HG1
  have d4 : decide ((4 : Int) ≤ (N : Int)) = true := by rw [decide_eq_true_eq]; omega
  clear hs h4 hq
  clear hN hA hB
  clear hr
  unfold Hd.p pkV kyV
  go_enter Try.func74, Try.ntmps74
  go_upto_region 1 with fail
  have hgz : w.heap.size < w.heap.size + 1 := by omega
  simp only [List.toArray] at hC hR
  generalize (w.alloc (.cells #[.int .i64 h.tos, .int .i64 h.id, .int .i64 h.ttl, .int .i64 h.proto, .bool h.keep, .int .u32 h.src, .int .u32 h.dst, .slice av N cv] 85)).alloc (.cells #[.int .u32 0, .int .u32 0, .int .i64 0, .int .i64 0, .int .i64 0] 70) = w2 at hC hR hG2 ⊢
  generalize w.heap.size + 1 = g2 at hR hgz ⊢
  have HC2 := Lib.hid hC
  clear hC
  obtain ⟨⟨q0, q1, q2, q3, q4, q5, q6, q7⟩, -⟩ := HC2.out.eight
  go_upto_region 2 with fail
  clear q0 q1 q2 q3 q4 q5 q6 q7
  have hY := CL.new w2 [.int .u32 h.src, .int .u32 h.dst, .int .i64 h.proto, .int .i64 0, .int .i64 0] 70 _ rfl
  have hg3 := Gr.alloc (Gr.refl w2) (.cells #[.int .u32 h.src, .int .u32 h.dst, .int .i64 h.proto, .int .i64 0, .int .i64 0] 70)
  have hne : w2.heap.size ≠ g2 := by have := hR.lt; omega
  have hle3 : w.heap.size < w2.heap.size := by have := hR.lt; omega
  simp only [List.toArray] at hY
  generalize w2.alloc (.cells #[.int .u32 h.src, .int .u32 h.dst, .int .i64 h.proto, .int .i64 0, .int .i64 0] 70) = w3 at hY hg3 ⊢
  generalize w2.heap.size = g3 at hY hne hle3 ⊢
  have HC := Lib.hid (HC2.out.gr hg3)
  have hR3 := hR.gr hg3
  have hG := hG2.step hg3
  have HZ := Lib.hid (And.intro hgz (And.intro hle3 hne))
  clear HC2 hR hG2 hg3 hgz hle3 hne
  obtain ⟨⟨y0, y1, y2, y3, y4⟩, u0, u1, u2, u3, u4⟩ := CL.five hY
  obtain ⟨⟨q0, q1, q2, q3, q4, q5, q6, q7⟩, -⟩ := HC.out.eight
  go_wp2_with fail
  refine (HK.out _).mono ?_
  rintro e w4 ⟨rfl, rfl⟩
  go_wp2_with fail
  refine (HG0.out _ hG).mono ?_
  rintro e w4 ⟨rfl, rfl⟩
  go_wp2_with fail
  clear q0 q1 q2 q3 q4 q5 q6 q7 y0 y1 y2 y3 y4 u0 u1 u2 u3 u4
  have hY1 := hY.set 3 (.int .i64 A) (by simp)
  have hz := HZ.out
  have HC1 := Lib.hid (HC.out.other (s := g3) (o := 3) (.int .i64 A) (by omega))
  have hR4 := hR3.other (s := g3) (o := 3) (.int .i64 A) (by omega)
  have hG4 := hG.setCell (p := ⟨g3, 3, none⟩) (by show w.heap.size ≤ g3; omega) (.int .i64 A)
  clear hz hY HC hR3 hG
  simp only [List.set_cons_succ, List.set_cons_zero] at hY1
  generalize w3.setCell ⟨g3, 3, none⟩ (.int .i64 A) = w4 at hY1 HC1 hR4 hG4 ⊢
  obtain ⟨⟨y0, y1, y2, y3, y4⟩, u0, u1, u2, u3, u4⟩ := CL.five hY1
  obtain ⟨⟨q0, q1, q2, q3, q4, q5, q6, q7⟩, -⟩ := HC1.out.eight
  refine (HG1.out _ hG4).mono ?_
  rintro e w5 ⟨rfl, rfl⟩
  go_upto_region 5 with fail
  clear q0 q1 q2 q3 q4 q5 q6 q7 y0 y1 y2 y3 y4 u0 u1 u2 u3 u4
  have hY2 := hY1.set 4 (.int .i64 B) (by simp)
  have hz := HZ.out
  have hR3 := hR4.other (s := g3) (o := 4) (.int .i64 B) (by omega)
  have hG := hG4.setCell (p := ⟨g3, 4, none⟩) (by show w.heap.size ≤ g3; omega) (.int .i64 B)
  clear hz hY1 HC1 hR4 hG4
  simp only [List.set_cons_succ, List.set_cons_zero] at hY2
  generalize w4.setCell ⟨g3, 4, none⟩ (.int .i64 B) = w5 at hY2 hR3 hG ⊢
  obtain ⟨⟨y0, y1, y2, y3, y4⟩, u0, u1, u2, u3, u4⟩ := CL.five hY2
  obtain ⟨⟨r0, r1, r2, r3, r4⟩, s0, s1, s2, s3, s4⟩ := CL.five hR3
  go_wp2_with fail
  clear r0 r1 r2 r3 r4 s0 s1 s2 s3 s4 y0 y1 y2 y3 y4 u0 u1 u2 u3 u4
  have hcF := hR3.fill [.int .u32 h.src, .int .u32 h.dst, .int .i64 h.proto, .int .i64 A, .int .i64 B] rfl
  have hgF := hG.fill (Nat.le_of_lt HZ.out.1) [.int .u32 h.src, .int .u32 h.dst, .int .i64 h.proto, .int .i64 A, .int .i64 B] 0
  simp only [fillC, Nat.reduceAdd] at hcF hgF
  generalize ((((w5.setCell ⟨g2, 0, none⟩ (.int .u32 h.src)).setCell ⟨g2, 1, none⟩ (.int .u32 h.dst)).setCell ⟨g2, 2, none⟩ (.int .i64 h.proto)).setCell ⟨g2, 3, none⟩ (.int .i64 A)).setCell ⟨g2, 4, none⟩ (.int .i64 B) = wF at hcF hgF ⊢
  obtain ⟨⟨c0, c1, c2, c3, c4⟩, -⟩ := CL.five hcF
  exact bodyPost_ret (v := .agg #[.int .u32 h.src, .int .u32 h.dst, .int .i64 h.proto, .int .i64 A, .int .i64 B]) (by simp [results, Try.results74, go_sem, c0, c1, c2, c3, c4]) rfl ⟨by first | rfl | (rw [HA.out, HB.out]; rfl), hgF⟩
/-- the key of a packet -/
theorem pkey_any {p : Nat → Prop} {v : Value} {d : List Nat} (h : Hd) (w : World) (hr : Rb p w v d) :
    Calls Try.prog 74 #[h.p v] w fun e w' => e = .returned (kyV h.src h.dst h.proto (kA h.proto d) (kB h.proto d)) ∧ Gr w w' := by
  by_cases hs : sup h.proto
  · by_cases h4 : 4 ≤ d.length
    · exact pkey_long h w hr hs h4
    · exact pkey_short h w hr hs h4
  · exact pkey_no h w hr hs
end Go.Proofs.Ytlkhdbgknkjioaa
