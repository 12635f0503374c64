/- Probes: KeyOf and Read. -/
import Derived.Test.YtlkhdbgknkjioaaUr
import Derived.WalkKit
import Derived.WalkSpells
import Derived.WalkLawsBesides
import Derived.WalkSmall
import Derived.Handy
import Derived.BigQuiet
import Derived.Deep.QuietTactic
import Derived.Deep.RegionHeld3
import Derived.Deep.DeepFit
import Derived.Below
import Derived.Lib.Hide
import Derived.Lib.QuietBelow
namespace Go.Proofs.Ytlkhdbgknkjioaa
open Go Go.RowKit Go.Sort
set_option maxRecDepth 100000
set_option linter.unusedVariables false
set_option linter.unusedSimpArgs false
theorem region_cut1 {P : Program} {c : Code} {Q : Exit → Act → World → Prop} {a : Act} {w : World} (aF : Nat → Act) (R : Nat → World → Prop)
    (h : c.wp P (fun e a' w' => e = .normal ∧ ∃ x, a' = aF x ∧ R x w') a w) (k : ∀ x w', R x w' → Q .normal (aF x) w') : c.wp P Q a w := by
  refine Code.wp_mono (fun e a' w' h' => ?_) h
  obtain ⟨he, x, ha, hr⟩ := h'
  rw [he, ha]
  exact k _ _ hr
theorem pKeyOf_bad (s d pr fl tg tt : Int) (w : World) (h : prbE pr fl tg tt ≠ 0) :
    Calls Try.prog 33 #[prV s d pr fl tg tt] w fun e w' => e = .returned (.tuple #[kyV 0 0 0 0 0, .int .i64 (prbE pr fl tg tt : Nat)]) ∧ Gr w w' := by
  have HK := Lib.hid (fun w => pbuild_bad s d pr fl tg tt w h)
  generalize prbE pr fl tg tt = E at *
  have d1 : ((E : Int) != 0) = true := by rw [bne_iff_ne]; omega
  clear h
  unfold prV at *
  have hR := CL.new (w.alloc (.cells #[.int .u32 s, .int .u32 d, .int .i64 pr, .int .i64 fl, .int .i64 tg, .int .i64 tt] 65)) [.int .u32 0, .int .u32 0, .int .i64 0, .int .i64 0, .int .i64 0] 70 (w.heap.size + 1) (by simp)
  have hC := (CL.new w [.int .u32 s, .int .u32 d, .int .i64 pr, .int .i64 fl, .int .i64 tg, .int .i64 tt] 65 _ rfl).gr (Gr.alloc (Gr.refl _) (.cells #[.int .u32 0, .int .u32 0, .int .i64 0, .int .i64 0, .int .i64 0] 70))
  have hG := ((Gr.refl w).alloc (.cells #[.int .u32 s, .int .u32 d, .int .i64 pr, .int .i64 fl, .int .i64 tg, .int .i64 tt] 65)).alloc (.cells #[.int .u32 0, .int .u32 0, .int .i64 0, .int .i64 0, .int .i64 0] 70)
  have hgz : w.heap.size ≤ w.heap.size + 1 := by omega
  simp only [List.toArray] at hC hR
  go_enter Try.func33, Try.ntmps33
  go_upto_region 1 with fail
  generalize (w.alloc (.cells #[.int .u32 s, .int .u32 d, .int .i64 pr, .int .i64 fl, .int .i64 tg, .int .i64 tt] 65)).alloc (.cells #[.int .u32 0, .int .u32 0, .int .i64 0, .int .i64 0, .int .i64 0] 70) = w1 at hC hR hG ⊢
  generalize w.heap.size + 1 = g1 at hR hgz ⊢
  obtain ⟨⟨x0, x1, x2, x3, x4, x5⟩, -⟩ := CL.six hC
  go_wp2_with fail
  clear x0 x1 x2 x3 x4 x5 hC
  refine (HK.out _).mono ?_
  rintro e w2 ⟨rfl, hg⟩
  replace hR := hR.gr hg
  replace hG := hG.step hg
  clear hg
  obtain ⟨⟨r0, r1, r2, r3, r4⟩, s0, s1, s2, s3, s4⟩ := CL.five hR
  go_wp2_with fail
  clear r0 r1 r2 r3 r4 s0 s1 s2 s3 s4
  have hcF := hR.fill [.int .u32 0, .int .u32 0, .int .i64 0, .int .i64 0, .int .i64 0] rfl
  have hgF := hG.fill hgz [.int .u32 0, .int .u32 0, .int .i64 0, .int .i64 0, .int .i64 0] 0
  simp only [fillC, Nat.reduceAdd] at hcF hgF
  generalize ((((w2.setCell ⟨g1, 0, none⟩ (.int .u32 0)).setCell ⟨g1, 1, none⟩ (.int .u32 0)).setCell ⟨g1, 2, none⟩ (.int .i64 0)).setCell ⟨g1, 3, none⟩ (.int .i64 0)).setCell ⟨g1, 4, none⟩ (.int .i64 0) = wF at hcF hgF ⊢
  obtain ⟨⟨c0, c1, c2, c3, c4⟩, -⟩ := CL.five hcF
  exact bodyPost_ret (v := .tuple #[.agg #[.int .u32 0, .int .u32 0, .int .i64 0, .int .i64 0, .int .i64 0], .int .i64 E]) (by simp [results, Try.results33, go_sem, c0, c1, c2, c3, c4]) rfl ⟨rfl, hgF⟩
theorem pKeyOf_ok (P : Pr) (k : P.ok) (w : World) :
    Calls Try.prog 33 #[P.v] w fun e w' => e = .returned (.tuple #[kyV P.src P.dst P.proto P.a P.b, .int .i64 0]) ∧ Gr w w' := by
  have HK := Lib.hid (fun w => pbuild_ok P k w)
  have HY := Lib.hid (fun (v : Value) (w : World) (hv : Rb (fun _ => True) w v P.pk) => pKey_ok w hv (by have := (Pr.pk_len k).2; omega) (Pr.pk_dc k).1)
  rw [(Pr.pk_dc k).2.1, (Pr.pk_dc k).2.2] at HY
  have e1 : kA P.hd.proto P.data = P.a := (Pr.key_at k).1
  have e2 : kB P.hd.proto P.data = P.b := (Pr.key_at k).2
  rw [e1, e2] at HY
  have HL := Lib.hid (Pr.pk_len k)
  clear k e1 e2
  unfold Pr.v prV kyV at *
  unfold Pr.hd at HY
  simp only at HY
  generalize P.a = A at *
  generalize P.b = B at *
  have hR := CL.new (w.alloc (.cells #[.int .u32 P.src, .int .u32 P.dst, .int .i64 P.proto, .int .i64 P.flow, .int .i64 P.tag, .int .i64 P.ttl] 65)) [.int .u32 0, .int .u32 0, .int .i64 0, .int .i64 0, .int .i64 0] 70 (w.heap.size + 1) (by simp)
  have hC := (CL.new w [.int .u32 P.src, .int .u32 P.dst, .int .i64 P.proto, .int .i64 P.flow, .int .i64 P.tag, .int .i64 P.ttl] 65 _ rfl).gr (Gr.alloc (Gr.refl _) (.cells #[.int .u32 0, .int .u32 0, .int .i64 0, .int .i64 0, .int .i64 0] 70))
  have hG := ((Gr.refl w).alloc (.cells #[.int .u32 P.src, .int .u32 P.dst, .int .i64 P.proto, .int .i64 P.flow, .int .i64 P.tag, .int .i64 P.ttl] 65)).alloc (.cells #[.int .u32 0, .int .u32 0, .int .i64 0, .int .i64 0, .int .i64 0] 70)
  have hgz : w.heap.size ≤ w.heap.size + 1 := by omega
  simp only [List.toArray] at hC hR
  go_enter Try.func33, Try.ntmps33
  go_upto_region 1 with fail
  generalize (w.alloc (.cells #[.int .u32 P.src, .int .u32 P.dst, .int .i64 P.proto, .int .i64 P.flow, .int .i64 P.tag, .int .i64 P.ttl] 65)).alloc (.cells #[.int .u32 0, .int .u32 0, .int .i64 0, .int .i64 0, .int .i64 0] 70) = w1 at hC hR hG ⊢
  generalize w.heap.size + 1 = g1 at hR hgz ⊢
  obtain ⟨⟨x0, x1, x2, x3, x4, x5⟩, -⟩ := CL.six hC
  go_wp2_with fail
  clear x0 x1 x2 x3 x4 x5 hC
  refine (HK.out _).mono ?_
  rintro e w2 ⟨v2, rfl, ho, hg⟩
  replace hR := hR.gr hg
  replace hG := hG.step hg
  have hv := ho.rb.any
  obtain ⟨a2, c2, rfl, -, -⟩ := hv.form
  have HX := Lib.hid (HY.out _ _ hv)
  generalize P.pk.length = M at *
  clear hg ho hv
  go_wp2_with fail
  refine HX.out.mono ?_
  rintro e w4 ⟨rfl, hg⟩
  replace hR := hR.gr hg
  replace hG := hG.step hg
  clear hg HX HK HY
  obtain ⟨⟨r0, r1, r2, r3, r4⟩, s0, s1, s2, s3, s4⟩ := CL.five hR
  go_wp2_with fail
  clear r0 r1 r2 r3 r4 s0 s1 s2 s3 s4
  have hcF := hR.fill [.int .u32 P.src, .int .u32 P.dst, .int .i64 P.proto, .int .i64 A, .int .i64 B] rfl
  have hgF := hG.fill hgz [.int .u32 P.src, .int .u32 P.dst, .int .i64 P.proto, .int .i64 A, .int .i64 B] 0
  simp only [fillC, Nat.reduceAdd] at hcF hgF
  generalize ((((w4.setCell ⟨g1, 0, none⟩ (.int .u32 P.src)).setCell ⟨g1, 1, none⟩ (.int .u32 P.dst)).setCell ⟨g1, 2, none⟩ (.int .i64 P.proto)).setCell ⟨g1, 3, none⟩ (.int .i64 A)).setCell ⟨g1, 4, none⟩ (.int .i64 B) = wF at hcF hgF ⊢
  obtain ⟨⟨c0, c1, c2, c3, c4⟩, -⟩ := CL.five hcF
  exact bodyPost_ret (v := .tuple #[.agg #[.int .u32 P.src, .int .u32 P.dst, .int .i64 P.proto, .int .i64 A, .int .i64 B], .int .i64 0]) (by simp [results, Try.results33, go_sem, c0, c1, c2, c3, c4]) rfl ⟨rfl, hgF⟩
end Go.Proofs.Ytlkhdbgknkjioaa
