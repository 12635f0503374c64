/- Probes: Key and KeyOf. -/
import Derived.Test.YtlkhdbgknkjioaaUk
import Derived.WalkKit
import Derived.WalkSpells
import Derived.WalkLawsBesides
import Derived.WalkSmall
import Derived.Handy
import Derived.BigQuiet
import Derived.Deep.QuietTactic
import Derived.Deep.RegionHeld3
import Derived.Deep.DeepFit
import Derived.Below
import Derived.Lib.Hide
import Derived.Lib.QuietBelow
namespace Go.Proofs.Ytlkhdbgknkjioaa
open Go Go.RowKit Go.Sort
set_option maxRecDepth 100000
set_option linter.unusedVariables false
set_option linter.unusedSimpArgs false
theorem pKey_err {p : Nat → Prop} {v : Value} {l : List Nat} (w : World) (hr : Rb p w v l) (hl : l.length ≤ 90000) (hn : dcE l ≠ 0) :
    Calls Try.prog 40 #[v] w fun e w' => e = .returned (.tuple #[kyV 0 0 0 0 0, .int .i64 (dcE l : Nat)]) ∧ Gr w w' := by
  have HD := Lib.hid (fun w' (g : Gr w w') => decode_err w' (hr.gr g) hl hn)
  generalize dcE l = E at *
  have d1 : ((E : Int) != 0) = true := by rw [bne_iff_ne]; omega
  obtain ⟨av, cv, rfl, -, -⟩ := hr.form
  generalize l.length = N at *
  clear hr hl hn
  go_enter Try.func40, Try.ntmps40
  go_upto_region 1 with fail
  have hR := CL.new w [.int .u32 0, .int .u32 0, .int .i64 0, .int .i64 0, .int .i64 0] 70 _ rfl
  have hG := (Gr.refl w).alloc (.cells #[.int .u32 0, .int .u32 0, .int .i64 0, .int .i64 0, .int .i64 0] 70)
  have hgz := Nat.le_refl w.heap.size
  simp only [List.toArray] at hR
  generalize w.alloc (.cells #[.int .u32 0, .int .u32 0, .int .i64 0, .int .i64 0, .int .i64 0] 70) = w1 at hR hG ⊢
  generalize hge : w.heap.size = g1 at hR ⊢
  rw [hge] at hgz
  replace hgz : w.heap.size ≤ g1 := by omega
  clear hge
  go_wp2_with fail
  refine (HD.out _ hG).mono ?_
  rintro e w2 ⟨rfl, hg⟩
  unfold pkV
  replace hR := hR.gr hg
  replace hG := hG.step hg
  clear hg
  have hg3 := Gr.alloc (Gr.refl w2) (.cells #[.int .i64 0, .int .i64 0, .int .i64 0, .int .i64 0, .bool false, .int .u32 0, .int .u32 0, .slice none 0 0] 85)
  replace hR := hR.gr hg3
  replace hG := hG.step hg3
  clear hg3
  obtain ⟨⟨r0, r1, r2, r3, r4⟩, s0, s1, s2, s3, s4⟩ := CL.five hR
  go_wp2_with fail
  clear r0 r1 r2 r3 r4 s0 s1 s2 s3 s4
  generalize w2.alloc (.cells #[.int .i64 0, .int .i64 0, .int .i64 0, .int .i64 0, .bool false, .int .u32 0, .int .u32 0, .slice none 0 0] 85) = w3 at hR hG ⊢
  have hcF := hR.fill [.int .u32 0, .int .u32 0, .int .i64 0, .int .i64 0, .int .i64 0] rfl
  have hgF := hG.fill hgz [.int .u32 0, .int .u32 0, .int .i64 0, .int .i64 0, .int .i64 0] 0
  simp only [fillC, Nat.reduceAdd] at hcF hgF
  generalize ((((w3.setCell ⟨g1, 0, none⟩ (.int .u32 0)).setCell ⟨g1, 1, none⟩ (.int .u32 0)).setCell ⟨g1, 2, none⟩ (.int .i64 0)).setCell ⟨g1, 3, none⟩ (.int .i64 0)).setCell ⟨g1, 4, none⟩ (.int .i64 0) = wF at hcF hgF ⊢
  obtain ⟨⟨c0, c1, c2, c3, c4⟩, -⟩ := CL.five hcF
  exact bodyPost_ret (v := .tuple #[.agg #[.int .u32 0, .int .u32 0, .int .i64 0, .int .i64 0, .int .i64 0], .int .i64 E]) (by simp [results, Try.results40, go_sem, c0, c1, c2, c3, c4]) rfl ⟨rfl, hgF⟩
theorem pKey_ok {p : Nat → Prop} {v : Value} {l : List Nat} (w : World) (hr : Rb p w v l) (hl : l.length ≤ 90000) (hn : dcE l = 0) :
    Calls Try.prog 40 #[v] w fun e w' => e = .returned (.tuple #[kyV (hdAt l).src (hdAt l).dst (hdAt l).proto (kA (hdAt l).proto (l.drop 20)) (kB (hdAt l).proto (l.drop 20)), .int .i64 0]) ∧ Gr w w' := by
  have HD := Lib.hid (fun w' (g : Gr w w') => decode_ok w' (hr.gr g) hl hn)
  generalize hdAt l = h at *
  generalize l.drop 20 = d at *
  obtain ⟨av, cv, rfl, -, -⟩ := hr.form
  generalize l.length = N at *
  clear hr hl hn
  unfold Hd.p pkV at HD
  have HK := Lib.hid (fun (v : Value) (w : World) (hv : Rb (fun _ => True) w v d) => pkey_any h w hv)
  unfold Hd.p pkV at HK
  generalize kA h.proto d = A at *
  generalize kB h.proto d = B at *
  unfold kyV at *
  go_enter Try.func40, Try.ntmps40
  go_upto_region 1 with fail
  have hR := CL.new w [.int .u32 0, .int .u32 0, .int .i64 0, .int .i64 0, .int .i64 0] 70 _ rfl
  have hG := (Gr.refl w).alloc (.cells #[.int .u32 0, .int .u32 0, .int .i64 0, .int .i64 0, .int .i64 0] 70)
  have hgz := Nat.le_refl w.heap.size
  simp only [List.toArray] at hR
  generalize w.alloc (.cells #[.int .u32 0, .int .u32 0, .int .i64 0, .int .i64 0, .int .i64 0] 70) = w1 at hR hG ⊢
  generalize hge : w.heap.size = g1 at hR ⊢
  rw [hge] at hgz
  replace hgz : w.heap.size ≤ g1 := by omega
  clear hge
  go_wp2_with fail
  refine (HD.out _ hG).mono ?_
  rintro e w2 ⟨v2, rfl, ho, hg⟩
  have hv := ho.rb.any
  obtain ⟨a2, c2, rfl, -, -⟩ := hv.form
  generalize d.length = M at *
  replace hR := hR.gr hg
  replace hG := hG.step hg
  clear hg ho
  have hg3 := Gr.alloc (Gr.refl w2) (.cells #[.int .i64 h.tos, .int .i64 h.id, .int .i64 h.ttl, .int .i64 h.proto, .bool h.keep, .int .u32 h.src, .int .u32 h.dst, .slice a2 M c2] 85)
  have HX := Lib.hid (HK.out _ _ (hv.gr hg3))
  clear hv
  go_wp2_with fail
  replace hR := hR.gr hg3
  replace hG := hG.step hg3
  clear hg3
  refine HX.out.mono ?_
  rintro e w4 ⟨rfl, hg⟩
  replace hR := hR.gr hg
  replace hG := hG.step hg
  clear hg HX HK
  obtain ⟨⟨r0, r1, r2, r3, r4⟩, s0, s1, s2, s3, s4⟩ := CL.five hR
  go_wp2_with fail
  clear r0 r1 r2 r3 r4 s0 s1 s2 s3 s4
  have hcF := hR.fill [.int .u32 h.src, .int .u32 h.dst, .int .i64 h.proto, .int .i64 A, .int .i64 B] rfl
  have hgF := hG.fill hgz [.int .u32 h.src, .int .u32 h.dst, .int .i64 h.proto, .int .i64 A, .int .i64 B] 0
  simp only [fillC, Nat.reduceAdd] at hcF hgF
  generalize ((((w4.setCell ⟨g1, 0, none⟩ (.int .u32 h.src)).setCell ⟨g1, 1, none⟩ (.int .u32 h.dst)).setCell ⟨g1, 2, none⟩ (.int .i64 h.proto)).setCell ⟨g1, 3, none⟩ (.int .i64 A)).setCell ⟨g1, 4, none⟩ (.int .i64 B) = wF at hcF hgF ⊢
  obtain ⟨⟨c0, c1, c2, c3, c4⟩, -⟩ := CL.five hcF
  exact bodyPost_ret (v := .tuple #[.agg #[.int .u32 h.src, .int .u32 h.dst, .int .i64 h.proto, .int .i64 A, .int .i64 B], .int .i64 0]) (by simp [results, Try.results40, go_sem, c0, c1, c2, c3, c4]) rfl ⟨rfl, hgF⟩
end Go.Proofs.Ytlkhdbgknkjioaa
