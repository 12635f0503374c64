/- What a host answers to a probe. -/
import Derived.Test.YtkpejaiigopmgaaDoorYeM
import Derived.Test.YtkpejaiigopmgaaDoorKeM
import Derived.Test.YtkpejaiigopmgaaDoorKuM
import Derived.Test.YtkpejaiigopmgaaDoorKhM
import Derived.Test.YtkpejaiigopmgaaDoorGD
import Derived.WalkKit
import Derived.WalkSpells
import Derived.WalkLawsBesides
import Derived.WalkSmall
import Derived.Handy
import Derived.BigQuiet
import Derived.Deep.QuietTactic
import Derived.Deep.RegionHeld3
import Derived.Deep.DeepFit
import Derived.Below
import Derived.Lib.Hide
import Derived.Lib.QuietBelow
namespace Go.Proofs.YtkpejaiigopmgaaDoor
open Go Go.RowKit Go.Sort
set_option maxRecDepth 100000
set_option linter.unusedVariables false
set_option linter.unusedSimpArgs false
set_option maxHeartbeats 1000000 in
theorem ereply_ok {p : Nat → Prop} {v : Value} {e : List Nat} (H q : Hd) (A b : Nat) (w : World) (hH : H.ok) (hr : Rb p w v (echoL false A b e)) (ha : A < 65536) (hb : b < 65536) (hl : e.length ≤ 1472) :
    Calls Tryd.prog 29 #[H.v, q.p v] w fun e' w' => ∃ v', e' = .returned (.tuple #[v', .int .i64 0]) ∧ OwB w.heap.size w' v' (enc H (echoL true A b e)) ∧ Gr w w' := by
  have HD := Lib.hid (fun w' (g : Gr w w') => echo_dec w' (hr.gr g) ha hb hl)
  have HN := Lib.hid (fun (w' : World) (v' : Value) (h : Rb (fun _ => True) w' v' e) => echo_ok true A b w' h ha hb hl)
  have HE0 := Lib.hid (fun (w' : World) (v' : Value) (h : Rb (fun _ => True) w' v' (echoL true A b e)) => encode_enc H hH w' h (by rw [echo_len]; omega))
  obtain ⟨a, c, rfl, -, -⟩ := hr.form
  generalize (echoL false A b e).length = M at *
  generalize hX : echoL true A b e = X at *
  clear hr ha hb hl hH hX
  unfold Hd.v hdV Hd.p pkV at *
  obtain ⟨T, hT⟩ : ∃ T : Int, T = (H.tos : Int) := ⟨_, rfl⟩
  have hB := (CL.new w [.int .i64 H.tos, .int .i64 H.id, .int .i64 H.ttl, .int .i64 H.proto, .bool H.keep, .int .u32 H.src, .int .u32 H.dst] 51 _ rfl).gr (Gr.alloc (Gr.refl _) (.cells #[.int .i64 q.tos, .int .i64 q.id, .int .i64 q.ttl, .int .i64 q.proto, .bool q.keep, .int .u32 q.src, .int .u32 q.dst, .slice a M c] 55))
  have hP := CL.new (w.alloc (.cells #[.int .i64 H.tos, .int .i64 H.id, .int .i64 H.ttl, .int .i64 H.proto, .bool H.keep, .int .u32 H.src, .int .u32 H.dst] 51)) [.int .i64 q.tos, .int .i64 q.id, .int .i64 q.ttl, .int .i64 q.proto, .bool q.keep, .int .u32 q.src, .int .u32 q.dst, .slice a M c] 55 (w.heap.size + 1) (by simp)
  have hG := ((Gr.refl w).alloc (.cells #[.int .i64 H.tos, .int .i64 H.id, .int .i64 H.ttl, .int .i64 H.proto, .bool H.keep, .int .u32 H.src, .int .u32 H.dst] 51)).alloc (.cells #[.int .i64 q.tos, .int .i64 q.id, .int .i64 q.ttl, .int .i64 q.proto, .bool q.keep, .int .u32 q.src, .int .u32 q.dst, .slice a M c] 55)
  simp only [List.toArray] at hB hP
  clear hT T
  go_enter Tryd.func29, Tryd.ntmps29
  go_upto_region 1 with fail
  generalize (w.alloc (.cells #[.int .i64 H.tos, .int .i64 H.id, .int .i64 H.ttl, .int .i64 H.proto, .bool H.keep, .int .u32 H.src, .int .u32 H.dst] 51)).alloc (.cells #[.int .i64 q.tos, .int .i64 q.id, .int .i64 q.ttl, .int .i64 q.proto, .bool q.keep, .int .u32 q.src, .int .u32 q.dst, .slice a M c] 55) = w1 at hB hP hG ⊢
  generalize hge : w.heap.size = gh at hB hP ⊢
  have hgz : w.heap.size ≤ gh := by omega
  generalize gh + 1 = gp at hP ⊢
  clear hge
  obtain ⟨⟨x0, x1, x2, x3, x4, x5, x6, x7⟩, -⟩ := hP.eight
  go_wp2_with fail
  refine (HD.out _ hG).mono ?_
  rintro e w2 ⟨v2, rfl, ho, hg⟩
  replace hB := hB.gr hg
  replace hG := hG.step hg
  clear hg x0 x1 x2 x3 x4 x5 x6 x7 hP HD
  obtain ⟨a2, c2, rfl, -, -⟩ := ho.rb.form
  have hv := ho.rb
  generalize e.length = M2 at *
  have hC := CL.new w2 [.bool false, .int .i64 A, .int .i64 b, .slice a2 M2 c2] 79 _ rfl
  have hg3 := Gr.alloc (Gr.refl w2) (.cells #[.bool false, .int .i64 A, .int .i64 b, .slice a2 M2 c2] 79)
  simp only [List.toArray] at hC
  go_upto_region 4 with fail
  have hge := Gr.size hG
  have hne : gh ≠ w2.heap.size := by have := hB.lt; omega
  replace hv := hv.imp (q := fun b => b ≠ w2.heap.size) (fun b hb _ => by omega)
  generalize w2.alloc (.cells #[.bool false, .int .i64 A, .int .i64 b, .slice a2 M2 c2] 79) = w3 at hC hg3 ⊢
  generalize w2.heap.size = ge at hC hge hne hv ⊢
  replace hB := hB.gr hg3
  replace hG := hG.step hg3
  replace hv := hv.gr hg3
  obtain ⟨⟨x0, x1, x2, x3⟩, u0, u1, u2, u3⟩ := CL.four hC
  go_upto_region 5 with fail
  clear x0 x1 x2 x3 u0 u1 u2 u3
  replace hC := hC.set 0 (.bool true) (by simp)
  replace hB := hB.other (s := ge) (o := 0) (.bool true) hne
  replace hG := hG.setCell (p := ⟨ge, 0, none⟩) hge (.bool true)
  have hv5 : Rb (fun _ => True) (w3.setCell ⟨ge, 0, none⟩ (.bool true)) (.slice a2 M2 c2) e := (hv.ex (Ex.set (Ex.refl ge w3) 0 (.bool true)) (fun b hb => hb)).any
  simp only [List.set_cons_succ, List.set_cons_zero] at hC
  generalize w3.setCell ⟨ge, 0, none⟩ (.bool true) = w5 at hC hB hG hv5 ⊢
  obtain ⟨⟨x0, x1, x2, x3⟩, -⟩ := CL.four hC
  go_wp2_with fail
  refine (HN.out _ _ hv5).mono ?_
  rintro e' w6 ⟨v6, rfl, ho6, hg⟩
  replace hB := hB.gr hg
  replace hG := hG.step hg
  clear x0 x1 x2 x3 hC hg
  have HE := Lib.hid (HE0.out _ _ ho6.rb.any)
  obtain ⟨a6, c6, rfl, -, -⟩ := ho6.rb.form
  generalize X.length = M6 at *
  obtain ⟨⟨y0, y1, y2, y3, y4, y5, y6⟩, -⟩ := hB.seven
  go_wp2_with fail
  refine HE.out.mono ?_
  rintro e w9 ⟨v9, rfl, ho, hg⟩
  replace ho := ho.base (Gr.size hG)
  replace hG := hG.step hg
  go_wp2_with fail
  go_ret2
  exact ⟨_, rfl, ho, hG⟩
set_option maxHeartbeats 1000000 in
theorem treset_ok {p : Nat → Prop} {v : Value} (H q : Hd) (sp dp sq wi K : Nat) (w : World) (hH : H.ok) (hq : q.ok) (hr : Rb p w v (tcpL q.src q.dst sp dp sq 0 2 wi [])) (ha : sp < 65536) (hb : dp < 65536) (hs : sq ≤ 65534) (hw : wi < 65536) (hK : K = sq + 1) :
    Calls Tryd.prog 31 #[H.v, q.p v] w fun e' w' => ∃ v', e' = .returned (.tuple #[v', .int .i64 0]) ∧ OwB w.heap.size w' v' (enc H (tcpL H.src H.dst dp sp 0 K 20 0 [])) ∧ Gr w w' := by
  have HD := Lib.hid (fun w' (g : Gr w w') => tcp_dec w' (hr.gr g) hq.src hq.dst ha hb (by omega) (by decide) (by decide) hw (by simp))
  have HN := Lib.hid (fun (w' : World) => tcp_ok H.src H.dst dp sp 0 K 20 0 w' (Rb.nil (fun _ => True) w') hH.src hH.dst hb ha (by decide) (by omega) (by decide) (by decide) (by simp))
  have HE0 := Lib.hid (fun (w' : World) (v' : Value) (h : Rb (fun _ => True) w' v' (tcpL H.src H.dst dp sp 0 K 20 0 [])) => encode_enc H hH w' h (by rw [tcp_len]; decide))
  obtain ⟨a, c, rfl, -, -⟩ := hr.form
  generalize (tcpL q.src q.dst sp dp sq 0 2 wi []).length = M at *
  generalize hX : tcpL H.src H.dst dp sp 0 K 20 0 [] = X at *
  have e1 : (sq : Int) + 1 = (K : Int) := by omega
  have e2 : IntKind.i64.wrap (K : Int) = (K : Int) := by rw [IntWalk.i64_in _ (by omega)]
  have e3 : (K : Int).tmod 4294967296 = (K : Int) := by rw [Int.tmod_eq_emod_of_nonneg (by omega)]; omega
  have e4 : (K : Int) % 4294967296 = (K : Int) := by omega
  have e5 : (bits .and .i64 2 2 == 0) = false := by decide
  clear hr ha hb hs hw hH hq hX hK
  unfold Hd.v hdV Hd.p pkV at *
  obtain ⟨T, hT⟩ : ∃ T : Int, T = (H.tos : Int) := ⟨_, rfl⟩
  have hB := (CL.new w [.int .i64 H.tos, .int .i64 H.id, .int .i64 H.ttl, .int .i64 H.proto, .bool H.keep, .int .u32 H.src, .int .u32 H.dst] 51 _ rfl).gr (Gr.alloc (Gr.refl _) (.cells #[.int .i64 q.tos, .int .i64 q.id, .int .i64 q.ttl, .int .i64 q.proto, .bool q.keep, .int .u32 q.src, .int .u32 q.dst, .slice a M c] 55))
  have hP := CL.new (w.alloc (.cells #[.int .i64 H.tos, .int .i64 H.id, .int .i64 H.ttl, .int .i64 H.proto, .bool H.keep, .int .u32 H.src, .int .u32 H.dst] 51)) [.int .i64 q.tos, .int .i64 q.id, .int .i64 q.ttl, .int .i64 q.proto, .bool q.keep, .int .u32 q.src, .int .u32 q.dst, .slice a M c] 55 (w.heap.size + 1) (by simp)
  have hG := ((Gr.refl w).alloc (.cells #[.int .i64 H.tos, .int .i64 H.id, .int .i64 H.ttl, .int .i64 H.proto, .bool H.keep, .int .u32 H.src, .int .u32 H.dst] 51)).alloc (.cells #[.int .i64 q.tos, .int .i64 q.id, .int .i64 q.ttl, .int .i64 q.proto, .bool q.keep, .int .u32 q.src, .int .u32 q.dst, .slice a M c] 55)
  simp only [List.toArray] at hB hP
  clear hT T
  go_enter Tryd.func31, Tryd.ntmps31
  go_upto_region 1 with fail
  generalize (w.alloc (.cells #[.int .i64 H.tos, .int .i64 H.id, .int .i64 H.ttl, .int .i64 H.proto, .bool H.keep, .int .u32 H.src, .int .u32 H.dst] 51)).alloc (.cells #[.int .i64 q.tos, .int .i64 q.id, .int .i64 q.ttl, .int .i64 q.proto, .bool q.keep, .int .u32 q.src, .int .u32 q.dst, .slice a M c] 55) = w1 at hB hP hG ⊢
  generalize hge : w.heap.size = gh at hB hP ⊢
  have hgz : w.heap.size ≤ gh := by omega
  generalize gh + 1 = gp at hP ⊢
  clear hge
  obtain ⟨⟨x0, x1, x2, x3, x4, x5, x6, x7⟩, -⟩ := hP.eight
  go_wp2_with fail
  refine (HD.out _ hG).mono ?_
  rintro e w2 ⟨v2, rfl, ho, hg⟩
  replace hB := hB.gr hg
  replace hG := hG.step hg
  clear hg x0 x1 x2 x3 x4 x5 x6 x7 hP HD
  obtain ⟨a2, c2, rfl, -, -⟩ := ho.rb.form
  have hv := ho.rb
  have hC := CL.new w2 [.int .i64 sp, .int .i64 dp, .int .i64 sq, .int .i64 0, .int .i64 2, .int .i64 wi, .slice a2 0 c2] 84 _ rfl
  have hg3 := Gr.alloc (Gr.refl w2) (.cells #[.int .i64 sp, .int .i64 dp, .int .i64 sq, .int .i64 0, .int .i64 2, .int .i64 wi, .slice a2 0 c2] 84)
  simp only [List.toArray] at hC
  go_upto_region 2 with fail
  generalize w2.alloc (.cells #[.int .i64 sp, .int .i64 dp, .int .i64 sq, .int .i64 0, .int .i64 2, .int .i64 wi, .slice a2 0 c2] 84) = w3 at hC hg3 ⊢
  generalize w2.heap.size = ge at hC ⊢
  replace hB := hB.gr hg3
  replace hG := hG.step hg3
  clear hv hg3 ho
  obtain ⟨⟨x0, x1, x2, x3, x4, x5, x6⟩, -⟩ := hC.seven
  obtain ⟨⟨y0, y1, y2, y3, y4, y5, y6⟩, -⟩ := hB.seven
  go_wp2_with fail
  refine (HN.out _).mono ?_
  rintro e' w6 ⟨v6, rfl, ho6, hg⟩
  replace hB := hB.gr hg
  replace hG := hG.step hg
  clear x0 x1 x2 x3 x4 x5 x6 y0 y1 y2 y3 y4 y5 y6 hC hg
  have HE := Lib.hid (HE0.out _ _ ho6.rb.any)
  obtain ⟨a6, c6, rfl, -, -⟩ := ho6.rb.form
  generalize X.length = M6 at *
  obtain ⟨⟨y0, y1, y2, y3, y4, y5, y6⟩, -⟩ := hB.seven
  go_wp2_with fail
  refine HE.out.mono ?_
  rintro e w9 ⟨v9, rfl, ho, hg⟩
  replace ho := ho.base (Gr.size hG)
  replace hG := hG.step hg
  go_wp2_with fail
  go_ret2
  exact ⟨_, rfl, ho, hG⟩
end Go.Proofs.YtkpejaiigopmgaaDoor
