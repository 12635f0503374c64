/- Several texts in one. -/
import Derived.Test.YtkpejaiigopmgaaGreatDoorYeM
import Derived.Test.YtkpejaiigopmgaaGreatDoorKeM
import Derived.Test.YtkpejaiigopmgaaGreatDoorKuM
import Derived.Test.YtkpejaiigopmgaaGreatDoorKhM
import Derived.Test.YtkpejaiigopmgaaGreatDoorGD
import Derived.WalkKit
import Derived.WalkSpells
import Derived.WalkLawsBesides
import Derived.WalkSmall
import Derived.Handy
import Derived.BigQuiet
import Derived.Deep.QuietTactic
import Derived.Deep.RegionHeld3
import Derived.Deep.DeepFit
import Derived.Below
import Derived.Lib.Hide
import Derived.Lib.QuietBelow
/- What a host answers to a probe. -/
namespace Go.Proofs.YtkpejaiigopmgaaGreatDoor
open Go Go.RowKit Go.Sort
set_option maxRecDepth 100000
set_option linter.unusedVariables false
set_option linter.unusedSimpArgs false
set_option maxHeartbeats 1000000 in
theorem ereply_ok {p : Nat → Prop} {v : Value} {e : List Nat} (H q : Hd) (A b : Nat) (w : World) (hH : H.ok) (hr : Rb p w v (echoL false A b e)) (ha : A < 65536) (hb : b < 65536) (hl : e.length ≤ 1472) :
    Calls Tryz.prog 23 #[H.v, q.p v] w fun e' w' => ∃ v', e' = .returned (.tuple #[v', .int .i64 0]) ∧ OwB w.heap.size w' v' (enc H (echoL true A b e)) ∧ Gr w w' := by
  have HD := Lib.hid (fun w' (g : Gr w w') => echo_dec w' (hr.gr g) ha hb hl)
  have HN := Lib.hid (fun (w' : World) (v' : Value) (h : Rb (fun _ => True) w' v' e) => echo_ok true A b w' h ha hb hl)
  have HE0 := Lib.hid (fun (w' : World) (v' : Value) (h : Rb (fun _ => True) w' v' (echoL true A b e)) => encode_enc H hH w' h (by rw [echo_len]; omega))
  obtain ⟨a, c, rfl, -, -⟩ := hr.form
  generalize (echoL false A b e).length = M at *
  generalize hX : echoL true A b e = X at *
  clear hr ha hb hl hH hX
  unfold Hd.v hdV Hd.p pkV at *
  obtain ⟨T, hT⟩ : ∃ T : Int, T = (H.tos : Int) := ⟨_, rfl⟩
  have hB := (CL.new w [.int .i64 H.tos, .int .i64 H.id, .int .i64 H.ttl, .int .i64 H.proto, .bool H.keep, .int .u32 H.src, .int .u32 H.dst] 52 _ rfl).gr (Gr.alloc (Gr.refl _) (.cells #[.int .i64 q.tos, .int .i64 q.id, .int .i64 q.ttl, .int .i64 q.proto, .bool q.keep, .int .u32 q.src, .int .u32 q.dst, .slice a M c] 55))
  have hP := CL.new (w.alloc (.cells #[.int .i64 H.tos, .int .i64 H.id, .int .i64 H.ttl, .int .i64 H.proto, .bool H.keep, .int .u32 H.src, .int .u32 H.dst] 52)) [.int .i64 q.tos, .int .i64 q.id, .int .i64 q.ttl, .int .i64 q.proto, .bool q.keep, .int .u32 q.src, .int .u32 q.dst, .slice a M c] 55 (w.heap.size + 1) (by simp)
  have hG := ((Gr.refl w).alloc (.cells #[.int .i64 H.tos, .int .i64 H.id, .int .i64 H.ttl, .int .i64 H.proto, .bool H.keep, .int .u32 H.src, .int .u32 H.dst] 52)).alloc (.cells #[.int .i64 q.tos, .int .i64 q.id, .int .i64 q.ttl, .int .i64 q.proto, .bool q.keep, .int .u32 q.src, .int .u32 q.dst, .slice a M c] 55)
  simp only [List.toArray] at hB hP
  clear hT T
  go_enter Tryz.func23, Tryz.ntmps23
  go_upto_region 1 with fail
  generalize (w.alloc (.cells #[.int .i64 H.tos, .int .i64 H.id, .int .i64 H.ttl, .int .i64 H.proto, .bool H.keep, .int .u32 H.src, .int .u32 H.dst] 52)).alloc (.cells #[.int .i64 q.tos, .int .i64 q.id, .int .i64 q.ttl, .int .i64 q.proto, .bool q.keep, .int .u32 q.src, .int .u32 q.dst, .slice a M c] 55) = w1 at hB hP hG ⊢
  generalize hge : w.heap.size = gh at hB hP ⊢
  have hgz : w.heap.size ≤ gh := by omega
  generalize gh + 1 = gp at hP ⊢
  clear hge
  obtain ⟨⟨x0, x1, x2, x3, x4, x5, x6, x7⟩, -⟩ := hP.eight
  go_wp2_with fail
  refine (HD.out _ hG).mono ?_
  rintro e w2 ⟨v2, rfl, ho, hg⟩
  replace hB := hB.gr hg
  replace hG := hG.step hg
  clear hg x0 x1 x2 x3 x4 x5 x6 x7 hP HD
  obtain ⟨a2, c2, rfl, -, -⟩ := ho.rb.form
  have hv := ho.rb
  generalize e.length = M2 at *
  have hC := CL.new w2 [.bool false, .int .i64 A, .int .i64 b, .slice a2 M2 c2] 74 _ rfl
  have hg3 := Gr.alloc (Gr.refl w2) (.cells #[.bool false, .int .i64 A, .int .i64 b, .slice a2 M2 c2] 74)
  simp only [List.toArray] at hC
  go_upto_region 4 with fail
  have hge := Gr.size hG
  have hne : gh ≠ w2.heap.size := by have := hB.lt; omega
  replace hv := hv.imp (q := fun b => b ≠ w2.heap.size) (fun b hb _ => by omega)
  generalize w2.alloc (.cells #[.bool false, .int .i64 A, .int .i64 b, .slice a2 M2 c2] 74) = w3 at hC hg3 ⊢
  generalize w2.heap.size = ge at hC hge hne hv ⊢
  replace hB := hB.gr hg3
  replace hG := hG.step hg3
  replace hv := hv.gr hg3
  obtain ⟨⟨x0, x1, x2, x3⟩, u0, u1, u2, u3⟩ := CL.four hC
  go_upto_region 5 with fail
  clear x0 x1 x2 x3 u0 u1 u2 u3
  replace hC := hC.set 0 (.bool true) (by simp)
  replace hB := hB.other (s := ge) (o := 0) (.bool true) hne
  replace hG := hG.setCell (p := ⟨ge, 0, none⟩) hge (.bool true)
  have hv5 : Rb (fun _ => True) (w3.setCell ⟨ge, 0, none⟩ (.bool true)) (.slice a2 M2 c2) e := (hv.ex (Ex.set (Ex.refl ge w3) 0 (.bool true)) (fun b hb => hb)).any
  simp only [List.set_cons_succ, List.set_cons_zero] at hC
  generalize w3.setCell ⟨ge, 0, none⟩ (.bool true) = w5 at hC hB hG hv5 ⊢
  obtain ⟨⟨x0, x1, x2, x3⟩, -⟩ := CL.four hC
  go_wp2_with fail
  refine (HN.out _ _ hv5).mono ?_
  rintro e' w6 ⟨v6, rfl, ho6, hg⟩
  replace hB := hB.gr hg
  replace hG := hG.step hg
  clear x0 x1 x2 x3 hC hg
  have HE := Lib.hid (HE0.out _ _ ho6.rb.any)
  obtain ⟨a6, c6, rfl, -, -⟩ := ho6.rb.form
  generalize X.length = M6 at *
  obtain ⟨⟨y0, y1, y2, y3, y4, y5, y6⟩, -⟩ := hB.seven
  go_wp2_with fail
  refine HE.out.mono ?_
  rintro e w9 ⟨v9, rfl, ho, hg⟩
  replace ho := ho.base (Gr.size hG)
  replace hG := hG.step hg
  go_wp2_with fail
  go_ret2
  exact ⟨_, rfl, ho, hG⟩
set_option maxHeartbeats 1000000 in
theorem treset_ok {p : Nat → Prop} {v : Value} (H q : Hd) (sp dp sq wi K : Nat) (w : World) (hH : H.ok) (hq : q.ok) (hr : Rb p w v (tcpL q.src q.dst sp dp sq 0 2 wi [])) (ha : sp < 65536) (hb : dp < 65536) (hs : sq ≤ 65534) (hw : wi < 65536) (hK : K = sq + 1) :
    Calls Tryz.prog 25 #[H.v, q.p v] w fun e' w' => ∃ v', e' = .returned (.tuple #[v', .int .i64 0]) ∧ OwB w.heap.size w' v' (enc H (tcpL H.src H.dst dp sp 0 K 20 0 [])) ∧ Gr w w' := by
  have HD := Lib.hid (fun w' (g : Gr w w') => tcp_dec w' (hr.gr g) hq.src hq.dst ha hb (by omega) (by decide) (by decide) hw (by simp))
  have HN := Lib.hid (fun (w' : World) => tcp_ok H.src H.dst dp sp 0 K 20 0 w' (Rb.nil (fun _ => True) w') hH.src hH.dst hb ha (by decide) (by omega) (by decide) (by decide) (by simp))
  have HE0 := Lib.hid (fun (w' : World) (v' : Value) (h : Rb (fun _ => True) w' v' (tcpL H.src H.dst dp sp 0 K 20 0 [])) => encode_enc H hH w' h (by rw [tcp_len]; decide))
  obtain ⟨a, c, rfl, -, -⟩ := hr.form
  generalize (tcpL q.src q.dst sp dp sq 0 2 wi []).length = M at *
  generalize hX : tcpL H.src H.dst dp sp 0 K 20 0 [] = X at *
  have e1 : (sq : Int) + 1 = (K : Int) := by omega
  have e2 : IntKind.i64.wrap (K : Int) = (K : Int) := by rw [IntWalk.i64_in _ (by omega)]
  have e3 : (K : Int).tmod 4294967296 = (K : Int) := by rw [Int.tmod_eq_emod_of_nonneg (by omega)]; omega
  have e4 : (K : Int) % 4294967296 = (K : Int) := by omega
  have e5 : (bits .and .i64 2 2 == 0) = false := by decide
  clear hr ha hb hs hw hH hq hX hK
  unfold Hd.v hdV Hd.p pkV at *
  obtain ⟨T, hT⟩ : ∃ T : Int, T = (H.tos : Int) := ⟨_, rfl⟩
  have hB := (CL.new w [.int .i64 H.tos, .int .i64 H.id, .int .i64 H.ttl, .int .i64 H.proto, .bool H.keep, .int .u32 H.src, .int .u32 H.dst] 52 _ rfl).gr (Gr.alloc (Gr.refl _) (.cells #[.int .i64 q.tos, .int .i64 q.id, .int .i64 q.ttl, .int .i64 q.proto, .bool q.keep, .int .u32 q.src, .int .u32 q.dst, .slice a M c] 55))
  have hP := CL.new (w.alloc (.cells #[.int .i64 H.tos, .int .i64 H.id, .int .i64 H.ttl, .int .i64 H.proto, .bool H.keep, .int .u32 H.src, .int .u32 H.dst] 52)) [.int .i64 q.tos, .int .i64 q.id, .int .i64 q.ttl, .int .i64 q.proto, .bool q.keep, .int .u32 q.src, .int .u32 q.dst, .slice a M c] 55 (w.heap.size + 1) (by simp)
  have hG := ((Gr.refl w).alloc (.cells #[.int .i64 H.tos, .int .i64 H.id, .int .i64 H.ttl, .int .i64 H.proto, .bool H.keep, .int .u32 H.src, .int .u32 H.dst] 52)).alloc (.cells #[.int .i64 q.tos, .int .i64 q.id, .int .i64 q.ttl, .int .i64 q.proto, .bool q.keep, .int .u32 q.src, .int .u32 q.dst, .slice a M c] 55)
  simp only [List.toArray] at hB hP
  clear hT T
  go_enter Tryz.func25, Tryz.ntmps25
  go_upto_region 1 with fail
  generalize (w.alloc (.cells #[.int .i64 H.tos, .int .i64 H.id, .int .i64 H.ttl, .int .i64 H.proto, .bool H.keep, .int .u32 H.src, .int .u32 H.dst] 52)).alloc (.cells #[.int .i64 q.tos, .int .i64 q.id, .int .i64 q.ttl, .int .i64 q.proto, .bool q.keep, .int .u32 q.src, .int .u32 q.dst, .slice a M c] 55) = w1 at hB hP hG ⊢
  generalize hge : w.heap.size = gh at hB hP ⊢
  have hgz : w.heap.size ≤ gh := by omega
  generalize gh + 1 = gp at hP ⊢
  clear hge
  obtain ⟨⟨x0, x1, x2, x3, x4, x5, x6, x7⟩, -⟩ := hP.eight
  go_wp2_with fail
  refine (HD.out _ hG).mono ?_
  rintro e w2 ⟨v2, rfl, ho, hg⟩
  replace hB := hB.gr hg
  replace hG := hG.step hg
  clear hg x0 x1 x2 x3 x4 x5 x6 x7 hP HD
  obtain ⟨a2, c2, rfl, -, -⟩ := ho.rb.form
  have hv := ho.rb
  have hC := CL.new w2 [.int .i64 sp, .int .i64 dp, .int .i64 sq, .int .i64 0, .int .i64 2, .int .i64 wi, .slice a2 0 c2] 80 _ rfl
  have hg3 := Gr.alloc (Gr.refl w2) (.cells #[.int .i64 sp, .int .i64 dp, .int .i64 sq, .int .i64 0, .int .i64 2, .int .i64 wi, .slice a2 0 c2] 80)
  simp only [List.toArray] at hC
  go_upto_region 2 with fail
  generalize w2.alloc (.cells #[.int .i64 sp, .int .i64 dp, .int .i64 sq, .int .i64 0, .int .i64 2, .int .i64 wi, .slice a2 0 c2] 80) = w3 at hC hg3 ⊢
  generalize w2.heap.size = ge at hC ⊢
  replace hB := hB.gr hg3
  replace hG := hG.step hg3
  clear hv hg3 ho
  obtain ⟨⟨x0, x1, x2, x3, x4, x5, x6⟩, -⟩ := hC.seven
  obtain ⟨⟨y0, y1, y2, y3, y4, y5, y6⟩, -⟩ := hB.seven
  go_wp2_with fail
  refine (HN.out _).mono ?_
  rintro e' w6 ⟨v6, rfl, ho6, hg⟩
  replace hB := hB.gr hg
  replace hG := hG.step hg
  clear x0 x1 x2 x3 x4 x5 x6 y0 y1 y2 y3 y4 y5 y6 hC hg
  have HE := Lib.hid (HE0.out _ _ ho6.rb.any)
  obtain ⟨a6, c6, rfl, -, -⟩ := ho6.rb.form
  generalize X.length = M6 at *
  obtain ⟨⟨y0, y1, y2, y3, y4, y5, y6⟩, -⟩ := hB.seven
  go_wp2_with fail
  refine HE.out.mono ?_
  rintro e w9 ⟨v9, rfl, ho, hg⟩
  replace ho := ho.base (Gr.size hG)
  replace hG := hG.step hg
  go_wp2_with fail
  go_ret2
  exact ⟨_, rfl, ho, hG⟩
end Go.Proofs.YtkpejaiigopmgaaGreatDoor
/- Host. -/
namespace Go.Proofs.YtkpejaiigopmgaaGreatDoor
open Go Go.RowKit Go.Sort
set_option maxRecDepth 100000
set_option linter.unusedVariables false
set_option linter.unusedSimpArgs false
theorem Pr.answ {P : Pr} (k : P.ok) : (P.hd.proto = 1 ∧ P.data.getD 0 0 = 8) ∨ P.hd.proto = 17 ∨ (P.hd.proto = 6 ∧ P.data.length = 20 ∧ P.data.getD 13 0 = 2) := by
  rcases k.proto with h | h | h
  · exact .inl ⟨h, Pr.data_8 k h⟩
  · exact .inr (.inl h)
  · exact .inr (.inr ⟨h, Pr.data_13 k h⟩)
set_option maxHeartbeats 2000000 in
theorem rhost_icmp {p : Nat → Prop} {v : Value} (P : Pr) (frm id ttl : Nat) (w : World) (k : P.ok) (hr : Rb p w v P.pk) (ht : SpTab w) (hu : usb P.src) (hi : id ≤ 65535) (htt : ttl ≤ 255) (hf : frm < 4294967296) (hp : P.proto = 1) :
    Calls Tryz.prog 9 #[v, .int .u32 frm, .int .i64 id, .int .i64 ttl] w fun e w' => ∃ v', e = .returned (.tuple #[v', .int .i64 0]) ∧ OwB w.heap.size w' v' (hostL P frm id ttl) ∧ Gr w w' := by
  have hA : (ans 1 id ttl frm P.src).ok := ans_ok (by omega) hi htt hf k.src
  have AN := Lib.hid (fun w' (g : Gr w w') => answ_yes w' (Pr.hd_ok k) (hr.gr g) (by have := (Pr.data_at k).2.1; omega) (by have := (Pr.data_at k).1; omega) (ht.gr g) (by exact hu) (Pr.answ k))
  have HK := Lib.hid k
  have HEC := Lib.hid (fun (w' : World) (v' : Value) (h : Rb (fun _ => True) w' v' (echoL false 21075 P.tag (bput (icN P.tag P.flow) 2))) => ereply_ok (ans 1 id ttl frm P.src) P.hd 21075 P.tag w' hA h (by decide) (by have := k.tag; omega) (by rw [bput_len]; omega))
  rw [hostL_icmp hp]
  unfold echL erD
  have HDT := Lib.hid (Pr.data_icmp hp)
  unfold icL at HDT
  generalize enc (ans 1 id ttl frm P.src) (echoL true 21075 P.tag (bput (icN P.tag P.flow) 2)) = X at *
  obtain ⟨av, cv, rfl, -, -⟩ := hr.form
  generalize P.pk.length = N at *
  have d1 : ((P.proto : Int) == 1) = true := by rw [hp]; rfl
  have HP1 := Lib.hid (show (P.proto : Int) = ((1 : Nat) : Int) by rw [hp])
  unfold Hd.p pkV Pr.hd at AN
  unfold Hd.v hdV ans Hd.p pkV Pr.hd at HEC
  simp only at AN HEC
  rw [← HP1.out] at HEC
  clear hr ht hu hi htt hf hp k
  have hC := CL.new w [.int .i64 0, .int .i64 id, .int .i64 ttl, .int .i64 0, .bool false, .int .u32 frm, .int .u32 0] 52 _ rfl
  have hG := Gr.alloc (Gr.refl w) (.cells #[.int .i64 0, .int .i64 id, .int .i64 ttl, .int .i64 0, .bool false, .int .u32 frm, .int .u32 0] 52)
  have hgz := Nat.le_refl w.heap.size
  have HCk := Lib.hid (fun w => check_any 0 id ttl 0 false frm 0 w)
  rw [show ckE 0 id ttl 0 = 0 from ans_ck (proto := 0) (src := frm) (dst := 0) (ans_ok (by omega) hA.id hA.ttl hA.src (by omega))] at HCk
  unfold hdV at HCk
  simp only [List.toArray] at hC
  go_enter Tryz.func9, Tryz.ntmps9
  go_upto_region 2 with fail
  generalize w.alloc (.cells #[.int .i64 0, .int .i64 id, .int .i64 ttl, .int .i64 0, .bool false, .int .u32 frm, .int .u32 0] 52) = w1 at hC hG ⊢
  generalize hge : w.heap.size = gh at hC ⊢
  rw [hge] at hgz
  replace hgz : w.heap.size ≤ gh := by omega
  clear hge
  obtain ⟨⟨x0, x1, x2, x3, x4, x5, x6⟩, -⟩ := hC.seven
  go_wp2_with fail
  refine (HCk.out _).mono ?_
  rintro e w2 ⟨rfl, hg⟩
  replace hC := hC.gr hg
  replace hG := hG.step hg
  clear hg x0 x1 x2 x3 x4 x5 x6 HCk
  go_wp2_with fail
  refine (AN.out _ hG).mono ?_
  rintro e w3 ⟨v3, rfl, ho, hg⟩
  have hlt := hC.lt
  have hv := ho.rb.imp (q := fun b => b ≠ gh) (fun b _ hb => by omega)
  clear hlt
  replace hC := hC.gr hg
  replace hG := hG.step hg
  clear hg
  obtain ⟨a3, c3, rfl, -, -⟩ := ho.rb.form
  generalize P.data.length = M at *
  have hP := CL.new w3 [.int .i64 0, .int .i64 P.tag, .int .i64 P.ttl, .int .i64 P.proto, .bool true, .int .u32 P.src, .int .u32 P.dst, .slice a3 M c3] 55 _ rfl
  have hg3 := Gr.alloc (Gr.refl w3) (.cells #[.int .i64 0, .int .i64 P.tag, .int .i64 P.ttl, .int .i64 P.proto, .bool true, .int .u32 P.src, .int .u32 P.dst, .slice a3 M c3] 55)
  simp only [List.toArray] at hP
  have hne : w3.heap.size ≠ gh := by have := hC.lt; omega
  go_upto_region 7 with fail
  generalize w3.alloc (.cells #[.int .i64 0, .int .i64 P.tag, .int .i64 P.ttl, .int .i64 P.proto, .bool true, .int .u32 P.src, .int .u32 P.dst, .slice a3 M c3] 55) = w4 at hP hg3 ⊢
  generalize w3.heap.size = gp at hP hne ⊢
  replace hC := (hC.gr hg3).gr (Gr.drew (Gr.refl _))
  replace hG := (hG.step hg3).step (Gr.drew (Gr.refl _))
  replace hv := (hv.gr hg3).gr (Gr.drew (Gr.refl _))
  have HP := Lib.hid (hP.gr (Gr.drew (Gr.refl w4)))
  clear hg3 ho hP
  refine region_plain (Ex gh w4.drew) (by kernel_rfl) ?_
  generalize w4.drew = w5 at HP hC hG hv ⊢
  have hS : Ex gh w5 w5 := Ex.refl _ _
  refine take_at 0 (some 29) (v := ?vi0) rfl rfl (by kernel_rfl) (by kernel_rfl) (by kernel_rfl) (by rfl) ?yi0 hS ?ti0
  case yi0 =>
    intro w' hSw
    obtain ⟨⟨q0, q1, q2, q3, q4, q5, q6, q7⟩, -⟩ := (HP.out.ex hSw hne).eight
    go_simp
    (try with_reducible rfl)
  simp only [Act.put, List.setIfInBounds_toArray, List.set_cons_zero, List.set_cons_succ]
  refine take_at 1 (some 30) (v := ?vi1) rfl rfl (by kernel_rfl) (by kernel_rfl) (by kernel_rfl) (by rfl) ?yi1 hS ?ti1
  case yi1 =>
    intro w' hSw
    obtain ⟨⟨q0, q1, q2, q3, q4, q5, q6, q7⟩, -⟩ := (HP.out.ex hSw hne).eight
    go_simp
    (try with_reducible rfl)
  simp only [Act.put, List.setIfInBounds_toArray, List.set_cons_zero, List.set_cons_succ]
  refine take_at 2 (some 31) (v := ?vi2) rfl rfl (by kernel_rfl) (by kernel_rfl) (by kernel_rfl) (by rfl) ?yi2 hS ?ti2
  case yi2 =>
    intro w' hSw
    obtain ⟨⟨q0, q1, q2, q3, q4, q5, q6, q7⟩, -⟩ := (HP.out.ex hSw hne).eight
    go_simp
    (try with_reducible rfl)
  simp only [Act.put, List.setIfInBounds_toArray, List.set_cons_zero, List.set_cons_succ]
  refine take_at 3 (some 32) (v := ?vi3) rfl rfl (by kernel_rfl) (by kernel_rfl) (by kernel_rfl) (by rfl) ?yi3 hS ?ti3
  case yi3 =>
    intro w' hSw
    obtain ⟨⟨q0, q1, q2, q3, q4, q5, q6, q7⟩, -⟩ := (HP.out.ex hSw hne).eight
    go_simp
    (try with_reducible rfl)
  simp only [Act.put, List.setIfInBounds_toArray, List.set_cons_zero, List.set_cons_succ]
  refine take_at 4 (some 33) (v := ?vi4) rfl rfl (by kernel_rfl) (by kernel_rfl) (by kernel_rfl) (by rfl) ?yi4 hS ?ti4
  case yi4 =>
    intro w' hSw
    obtain ⟨⟨q0, q1, q2, q3, q4, q5, q6, q7⟩, -⟩ := (HP.out.ex hSw hne).eight
    go_simp
    (try with_reducible rfl)
  simp only [Act.put, List.setIfInBounds_toArray, List.set_cons_zero, List.set_cons_succ]
  refine take_at 5 (some 34) (v := ?vi5) rfl rfl (by kernel_rfl) (by kernel_rfl) (by kernel_rfl) (by rfl) ?yi5 hS ?ti5
  case yi5 =>
    intro w' hSw
    obtain ⟨⟨q0, q1, q2, q3, q4, q5, q6, q7⟩, -⟩ := (HP.out.ex hSw hne).eight
    go_simp
    (try with_reducible rfl)
  simp only [Act.put, List.setIfInBounds_toArray, List.set_cons_zero, List.set_cons_succ]
  refine take_at 6 (some 35) (v := ?vi6) rfl rfl (by kernel_rfl) (by kernel_rfl) (by kernel_rfl) (by rfl) ?yi6 hS ?ti6
  case yi6 =>
    intro w' hSw
    obtain ⟨⟨q0, q1, q2, q3, q4, q5, q6, q7⟩, -⟩ := (HP.out.ex hSw hne).eight
    go_simp
    (try with_reducible rfl)
  simp only [Act.put, List.setIfInBounds_toArray, List.set_cons_zero, List.set_cons_succ]
  have hS2 := hS.set 3 (.int .i64 P.proto)
  have hC2 := hC.set 3 (.int .i64 P.proto) (by simp)
  have hG2 := hG.setCell (p := ⟨gh, 3, none⟩) hgz (.int .i64 P.proto)
  have hv2 := hv.ex hS2 (fun b hb => hb)
  simp only [List.set_cons_succ, List.set_cons_zero] at hC2
  obtain ⟨⟨x0, x1, x2, x3, x4, x5, x6⟩, u0, u1, u2, u3, u4, u5, u6⟩ := hC.seven
  refine next_at 7 rfl (by kernel_rfl) (by rfl) (fun K hK => ?_)
  go_simp
  refine hK _ _ hS2 ?_
  clear hK K x0 x1 x2 x3 x4 x5 x6 u0 u1 u2 u3 u4 u5 u6 hC hG hv hS
  have hS := hS2
  clear hS2
  generalize w5.setCell ⟨gh, 3, none⟩ (.int .i64 P.proto) = w6 at hS hC2 hG2 hv2 ⊢
  refine take_at 8 (some 36) (v := ?vi8) rfl rfl (by kernel_rfl) (by kernel_rfl) (by kernel_rfl) (by rfl) ?yi8 hS ?ti8
  case yi8 =>
    intro w' hSw
    obtain ⟨⟨q0, q1, q2, q3, q4, q5, q6, q7⟩, -⟩ := (HP.out.ex hSw hne).eight
    go_simp
    (try with_reducible rfl)
  simp only [Act.put, List.setIfInBounds_toArray, List.set_cons_zero, List.set_cons_succ]
  have hS2 := hS.set 6 (.int .u32 P.src)
  have hC := hC2.set 6 (.int .u32 P.src) (by simp)
  have hG := hG2.setCell (p := ⟨gh, 6, none⟩) hgz (.int .u32 P.src)
  have hv := (hv2.ex (Ex.set (Ex.refl gh w6) 6 (.int .u32 P.src)) (fun b hb => hb)).any
  replace HP := Lib.hid (HP.out.ex hS2 hne)
  simp only [List.set_cons_succ, List.set_cons_zero] at hC
  obtain ⟨⟨x0, x1, x2, x3, x4, x5, x6⟩, u0, u1, u2, u3, u4, u5, u6⟩ := hC2.seven
  refine next_at 9 rfl (by kernel_rfl) (by rfl) (fun K hK => ?_)
  go_simp
  refine hK _ _ hS2 ?_
  clear hK K x0 x1 x2 x3 x4 x5 x6 u0 u1 u2 u3 u4 u5 u6 hC2 hG2 hv2 hS hS2
  generalize w6.setCell ⟨gh, 6, none⟩ (.int .u32 P.src) = w7 at HP hC hG hv ⊢
  refine wpAnyH_done (by kernel_rfl) ?_ _
  refine qz_normal ?_
  obtain ⟨⟨x0, x1, x2, x3, x4, x5, x6⟩, -⟩ := hC.seven
  obtain ⟨⟨y0, y1, y2, y3, y4, y5, y6, y7⟩, -⟩ := HP.out.eight
  go_wp2_with fail
  rw [HDT.out] at hv
  refine (HEC.out _ _ hv).mono ?_
  rintro e w8 ⟨v8, rfl, ho, hg⟩
  replace ho := ho.base (Gr.size hG)
  replace hG := hG.step hg
  go_wp2_with fail
  go_ret2
  exact ⟨_, rfl, ho, hG⟩
set_option maxHeartbeats 2000000 in
theorem rhost_tcp {p : Nat → Prop} {v : Value} (P : Pr) (frm id ttl : Nat) (w : World) (k : P.ok) (hr : Rb p w v P.pk) (ht : SpTab w) (hu : usb P.src) (hi : id ≤ 65535) (htt : ttl ≤ 255) (hf : frm < 4294967296) (hp : P.proto = 6) :
    Calls Tryz.prog 9 #[v, .int .u32 frm, .int .i64 id, .int .i64 ttl] w fun e w' => ∃ v', e = .returned (.tuple #[v', .int .i64 0]) ∧ OwB w.heap.size w' v' (hostL P frm id ttl) ∧ Gr w w' := by
  have hA : (ans 1 id ttl frm P.src).ok := ans_ok (by omega) hi htt hf k.src
  have AN := Lib.hid (fun w' (g : Gr w w') => answ_yes w' (Pr.hd_ok k) (hr.gr g) (by have := (Pr.data_at k).2.1; omega) (by have := (Pr.data_at k).1; omega) (ht.gr g) (by exact hu) (Pr.answ k))
  have HK := Lib.hid k
  have HEC := Lib.hid (fun (w' : World) (v' : Value) (h : Rb (fun _ => True) w' v' (tcpL P.hd.src P.hd.dst (20000 + P.flow) 80 P.tag 0 2 1024 [])) => treset_ok (ans 6 id ttl frm P.src) P.hd (20000 + P.flow) 80 P.tag 1024 (P.tag + 1) w' (ans_ok (by omega) hi htt hf k.src) (Pr.hd_ok k) h (by have := k.flow; omega) (by decide) k.tag (by decide) rfl)
  rw [hostL_tcp hp]
  unfold rstL rsD
  have HDT := Lib.hid (Pr.data_tcp hp)
  unfold tcL at HDT
  rw [show tcpL (ans 6 id ttl frm P.src).src (ans 6 id ttl frm P.src).dst 80 (20000 + P.flow) 0 (P.tag + 1) 20 0 [] = tcpL frm P.src 80 (20000 + P.flow) 0 (P.tag + 1) 20 0 [] from rfl] at HEC
  generalize enc (ans 6 id ttl frm P.src) (tcpL frm P.src 80 (20000 + P.flow) 0 (P.tag + 1) 20 0 []) = X at *
  obtain ⟨av, cv, rfl, -, -⟩ := hr.form
  generalize P.pk.length = N at *
  have d1 : ((P.proto : Int) == 1) = false := by rw [hp]; rfl
  have d2 : ((P.proto : Int) == 17) = false := by rw [hp]; rfl
  have d3 : ((P.proto : Int) == 6) = true := by rw [hp]; rfl
  have HP1 := Lib.hid (show (P.proto : Int) = ((6 : Nat) : Int) by rw [hp])
  unfold Hd.p pkV Pr.hd at AN
  unfold Hd.v hdV ans Hd.p pkV Pr.hd at HEC
  simp only at AN HEC
  rw [← HP1.out] at HEC
  clear hr ht hu hi htt hf hp k
  have hC := CL.new w [.int .i64 0, .int .i64 id, .int .i64 ttl, .int .i64 0, .bool false, .int .u32 frm, .int .u32 0] 52 _ rfl
  have hG := Gr.alloc (Gr.refl w) (.cells #[.int .i64 0, .int .i64 id, .int .i64 ttl, .int .i64 0, .bool false, .int .u32 frm, .int .u32 0] 52)
  have hgz := Nat.le_refl w.heap.size
  have HCk := Lib.hid (fun w => check_any 0 id ttl 0 false frm 0 w)
  rw [show ckE 0 id ttl 0 = 0 from ans_ck (proto := 0) (src := frm) (dst := 0) (ans_ok (by omega) hA.id hA.ttl hA.src (by omega))] at HCk
  unfold hdV at HCk
  simp only [List.toArray] at hC
  go_enter Tryz.func9, Tryz.ntmps9
  go_upto_region 2 with fail
  generalize w.alloc (.cells #[.int .i64 0, .int .i64 id, .int .i64 ttl, .int .i64 0, .bool false, .int .u32 frm, .int .u32 0] 52) = w1 at hC hG ⊢
  generalize hge : w.heap.size = gh at hC ⊢
  rw [hge] at hgz
  replace hgz : w.heap.size ≤ gh := by omega
  clear hge
  obtain ⟨⟨x0, x1, x2, x3, x4, x5, x6⟩, -⟩ := hC.seven
  go_wp2_with fail
  refine (HCk.out _).mono ?_
  rintro e w2 ⟨rfl, hg⟩
  replace hC := hC.gr hg
  replace hG := hG.step hg
  clear hg x0 x1 x2 x3 x4 x5 x6 HCk
  go_wp2_with fail
  refine (AN.out _ hG).mono ?_
  rintro e w3 ⟨v3, rfl, ho, hg⟩
  have hlt := hC.lt
  have hv := ho.rb.imp (q := fun b => b ≠ gh) (fun b _ hb => by omega)
  clear hlt
  replace hC := hC.gr hg
  replace hG := hG.step hg
  clear hg
  obtain ⟨a3, c3, rfl, -, -⟩ := ho.rb.form
  generalize P.data.length = M at *
  have hP := CL.new w3 [.int .i64 0, .int .i64 P.tag, .int .i64 P.ttl, .int .i64 P.proto, .bool true, .int .u32 P.src, .int .u32 P.dst, .slice a3 M c3] 55 _ rfl
  have hg3 := Gr.alloc (Gr.refl w3) (.cells #[.int .i64 0, .int .i64 P.tag, .int .i64 P.ttl, .int .i64 P.proto, .bool true, .int .u32 P.src, .int .u32 P.dst, .slice a3 M c3] 55)
  simp only [List.toArray] at hP
  have hne : w3.heap.size ≠ gh := by have := hC.lt; omega
  go_upto_region 7 with fail
  generalize w3.alloc (.cells #[.int .i64 0, .int .i64 P.tag, .int .i64 P.ttl, .int .i64 P.proto, .bool true, .int .u32 P.src, .int .u32 P.dst, .slice a3 M c3] 55) = w4 at hP hg3 ⊢
  generalize w3.heap.size = gp at hP hne ⊢
  replace hC := (hC.gr hg3).gr (Gr.drew (Gr.refl _))
  replace hG := (hG.step hg3).step (Gr.drew (Gr.refl _))
  replace hv := (hv.gr hg3).gr (Gr.drew (Gr.refl _))
  have HP := Lib.hid (hP.gr (Gr.drew (Gr.refl w4)))
  clear hg3 ho hP
  refine region_plain (Ex gh w4.drew) (by kernel_rfl) ?_
  generalize w4.drew = w5 at HP hC hG hv ⊢
  have hS : Ex gh w5 w5 := Ex.refl _ _
  refine take_at 0 (some 29) (v := ?vt0) rfl rfl (by kernel_rfl) (by kernel_rfl) (by kernel_rfl) (by rfl) ?yt0 hS ?tt0
  case yt0 =>
    intro w' hSw
    obtain ⟨⟨q0, q1, q2, q3, q4, q5, q6, q7⟩, -⟩ := (HP.out.ex hSw hne).eight
    go_simp
    (try with_reducible rfl)
  simp only [Act.put, List.setIfInBounds_toArray, List.set_cons_zero, List.set_cons_succ]
  refine take_at 1 (some 30) (v := ?vt1) rfl rfl (by kernel_rfl) (by kernel_rfl) (by kernel_rfl) (by rfl) ?yt1 hS ?tt1
  case yt1 =>
    intro w' hSw
    obtain ⟨⟨q0, q1, q2, q3, q4, q5, q6, q7⟩, -⟩ := (HP.out.ex hSw hne).eight
    go_simp
    (try with_reducible rfl)
  simp only [Act.put, List.setIfInBounds_toArray, List.set_cons_zero, List.set_cons_succ]
  refine take_at 2 (some 31) (v := ?vt2) rfl rfl (by kernel_rfl) (by kernel_rfl) (by kernel_rfl) (by rfl) ?yt2 hS ?tt2
  case yt2 =>
    intro w' hSw
    obtain ⟨⟨q0, q1, q2, q3, q4, q5, q6, q7⟩, -⟩ := (HP.out.ex hSw hne).eight
    go_simp
    (try with_reducible rfl)
  simp only [Act.put, List.setIfInBounds_toArray, List.set_cons_zero, List.set_cons_succ]
  refine take_at 3 (some 32) (v := ?vt3) rfl rfl (by kernel_rfl) (by kernel_rfl) (by kernel_rfl) (by rfl) ?yt3 hS ?tt3
  case yt3 =>
    intro w' hSw
    obtain ⟨⟨q0, q1, q2, q3, q4, q5, q6, q7⟩, -⟩ := (HP.out.ex hSw hne).eight
    go_simp
    (try with_reducible rfl)
  simp only [Act.put, List.setIfInBounds_toArray, List.set_cons_zero, List.set_cons_succ]
  refine take_at 4 (some 33) (v := ?vt4) rfl rfl (by kernel_rfl) (by kernel_rfl) (by kernel_rfl) (by rfl) ?yt4 hS ?tt4
  case yt4 =>
    intro w' hSw
    obtain ⟨⟨q0, q1, q2, q3, q4, q5, q6, q7⟩, -⟩ := (HP.out.ex hSw hne).eight
    go_simp
    (try with_reducible rfl)
  simp only [Act.put, List.setIfInBounds_toArray, List.set_cons_zero, List.set_cons_succ]
  refine take_at 5 (some 34) (v := ?vt5) rfl rfl (by kernel_rfl) (by kernel_rfl) (by kernel_rfl) (by rfl) ?yt5 hS ?tt5
  case yt5 =>
    intro w' hSw
    obtain ⟨⟨q0, q1, q2, q3, q4, q5, q6, q7⟩, -⟩ := (HP.out.ex hSw hne).eight
    go_simp
    (try with_reducible rfl)
  simp only [Act.put, List.setIfInBounds_toArray, List.set_cons_zero, List.set_cons_succ]
  refine take_at 6 (some 35) (v := ?vt6) rfl rfl (by kernel_rfl) (by kernel_rfl) (by kernel_rfl) (by rfl) ?yt6 hS ?tt6
  case yt6 =>
    intro w' hSw
    obtain ⟨⟨q0, q1, q2, q3, q4, q5, q6, q7⟩, -⟩ := (HP.out.ex hSw hne).eight
    go_simp
    (try with_reducible rfl)
  simp only [Act.put, List.setIfInBounds_toArray, List.set_cons_zero, List.set_cons_succ]
  have hS2 := hS.set 3 (.int .i64 P.proto)
  have hC2 := hC.set 3 (.int .i64 P.proto) (by simp)
  have hG2 := hG.setCell (p := ⟨gh, 3, none⟩) hgz (.int .i64 P.proto)
  have hv2 := hv.ex hS2 (fun b hb => hb)
  simp only [List.set_cons_succ, List.set_cons_zero] at hC2
  obtain ⟨⟨x0, x1, x2, x3, x4, x5, x6⟩, u0, u1, u2, u3, u4, u5, u6⟩ := hC.seven
  refine next_at 7 rfl (by kernel_rfl) (by rfl) (fun K hK => ?_)
  go_simp
  refine hK _ _ hS2 ?_
  clear hK K x0 x1 x2 x3 x4 x5 x6 u0 u1 u2 u3 u4 u5 u6 hC hG hv hS
  have hS := hS2
  clear hS2
  generalize w5.setCell ⟨gh, 3, none⟩ (.int .i64 P.proto) = w6 at hS hC2 hG2 hv2 ⊢
  refine take_at 8 (some 36) (v := ?vt8) rfl rfl (by kernel_rfl) (by kernel_rfl) (by kernel_rfl) (by rfl) ?yt8 hS ?tt8
  case yt8 =>
    intro w' hSw
    obtain ⟨⟨q0, q1, q2, q3, q4, q5, q6, q7⟩, -⟩ := (HP.out.ex hSw hne).eight
    go_simp
    (try with_reducible rfl)
  simp only [Act.put, List.setIfInBounds_toArray, List.set_cons_zero, List.set_cons_succ]
  have hS2 := hS.set 6 (.int .u32 P.src)
  have hC := hC2.set 6 (.int .u32 P.src) (by simp)
  have hG := hG2.setCell (p := ⟨gh, 6, none⟩) hgz (.int .u32 P.src)
  have hv := (hv2.ex (Ex.set (Ex.refl gh w6) 6 (.int .u32 P.src)) (fun b hb => hb)).any
  replace HP := Lib.hid (HP.out.ex hS2 hne)
  simp only [List.set_cons_succ, List.set_cons_zero] at hC
  obtain ⟨⟨x0, x1, x2, x3, x4, x5, x6⟩, u0, u1, u2, u3, u4, u5, u6⟩ := hC2.seven
  refine next_at 9 rfl (by kernel_rfl) (by rfl) (fun K hK => ?_)
  go_simp
  refine hK _ _ hS2 ?_
  clear hK K x0 x1 x2 x3 x4 x5 x6 u0 u1 u2 u3 u4 u5 u6 hC2 hG2 hv2 hS hS2
  generalize w6.setCell ⟨gh, 6, none⟩ (.int .u32 P.src) = w7 at HP hC hG hv ⊢
  refine wpAnyH_done (by kernel_rfl) ?_ _
  refine qz_normal ?_
  obtain ⟨⟨x0, x1, x2, x3, x4, x5, x6⟩, -⟩ := hC.seven
  obtain ⟨⟨y0, y1, y2, y3, y4, y5, y6, y7⟩, -⟩ := HP.out.eight
  go_wp2_with fail
  rw [HDT.out] at hv
  refine (HEC.out _ _ hv).mono ?_
  rintro e w8 ⟨v8, rfl, ho, hg⟩
  replace ho := ho.base (Gr.size hG)
  replace hG := hG.step hg
  go_wp2_with fail
  go_ret2
  exact ⟨_, rfl, ho, hG⟩
set_option maxHeartbeats 2000000 in
theorem rhost_udp {p : Nat → Prop} {v : Value} (P : Pr) (frm id ttl : Nat) (w : World) (k : P.ok) (hr : Rb p w v P.pk) (ht : SpTab w) (hu : usb P.src) (hi : id ≤ 65535) (htt : ttl ≤ 255) (hf : frm < 4294967296) (hp : P.proto = 17) :
    Calls Tryz.prog 9 #[v, .int .u32 frm, .int .i64 id, .int .i64 ttl] w fun e w' => ∃ v', e = .returned (.tuple #[v', .int .i64 0]) ∧ OwB w.heap.size w' v' (hostL P frm id ttl) ∧ Gr w w' := by
  have hA : (ans 1 id ttl frm P.src).ok := ans_ok (by omega) hi htt hf k.src
  have AN := Lib.hid (fun w' (g : Gr w w') => answ_yes w' (Pr.hd_ok k) (hr.gr g) (by have := (Pr.data_at k).2.1; omega) (by have := (Pr.data_at k).1; omega) (ht.gr g) (by exact hu) (Pr.answ k))
  have HK := Lib.hid k
  have HEC := Lib.hid (fun (w' : World) (g : Gr w w') => rerr_ok frm 3 3 id ttl w' (Pr.hd_ok k) (hr.gr g) (by have := (Pr.data_at k).2.1; omega) (by have := (Pr.data_at k).1; omega) (ht.gr g) (by exact hu) (Pr.answ k) hA (.inl rfl) (by decide))
  have HDU := Lib.hid (fun (w' : World) (v' : Value) (h : Rb (fun _ => True) w' v' (udpL P.src P.dst (20000 + P.flow) 33434 (bput (udN P.src P.dst P.flow P.tag) 2))) => udp_dec w' h k.src k.dst (by have := k.flow; omega) (by decide) (by rw [bput_len]; omega))
  rw [hostL_udp hp]
  unfold errL Pr.qt
  have HDT := Lib.hid (Pr.data_udp hp)
  unfold udL at HDT
  rw [show (enc P.hd P.data).take 28 = P.pk.take 28 from rfl, show P.hd.src = P.src from rfl] at HEC
  generalize enc (ans 1 id ttl frm P.src) (noteL 3 3 (P.pk.take 28)) = X at *
  obtain ⟨av, cv, rfl, -, -⟩ := hr.form
  generalize P.pk.length = N at *
  have d1 : ((P.proto : Int) == 1) = false := by rw [hp]; rfl
  have d2 : ((P.proto : Int) == 17) = true := by rw [hp]; rfl
  unfold Hd.p pkV Pr.hd at AN
  simp only at AN
  simp only [show ((3 : Nat) : Int) = 3 from rfl] at HEC
  generalize 20000 + P.flow = SP at *
  generalize (33434 : Nat) = DP at *
  clear hr ht hu hi htt hf hp k
  have hC := CL.new w [.int .i64 0, .int .i64 id, .int .i64 ttl, .int .i64 0, .bool false, .int .u32 frm, .int .u32 0] 52 _ rfl
  have hG := Gr.alloc (Gr.refl w) (.cells #[.int .i64 0, .int .i64 id, .int .i64 ttl, .int .i64 0, .bool false, .int .u32 frm, .int .u32 0] 52)
  have hgz := Nat.le_refl w.heap.size
  have HCk := Lib.hid (fun w => check_any 0 id ttl 0 false frm 0 w)
  rw [show ckE 0 id ttl 0 = 0 from ans_ck (proto := 0) (src := frm) (dst := 0) (ans_ok (by omega) hA.id hA.ttl hA.src (by omega))] at HCk
  unfold hdV at HCk
  simp only [List.toArray] at hC
  go_enter Tryz.func9, Tryz.ntmps9
  go_upto_region 2 with fail
  generalize w.alloc (.cells #[.int .i64 0, .int .i64 id, .int .i64 ttl, .int .i64 0, .bool false, .int .u32 frm, .int .u32 0] 52) = w1 at hC hG ⊢
  generalize hge : w.heap.size = gh at hC ⊢
  rw [hge] at hgz
  replace hgz : w.heap.size ≤ gh := by omega
  clear hge
  obtain ⟨⟨x0, x1, x2, x3, x4, x5, x6⟩, -⟩ := hC.seven
  go_wp2_with fail
  refine (HCk.out _).mono ?_
  rintro e w2 ⟨rfl, hg⟩
  replace hC := hC.gr hg
  replace hG := hG.step hg
  clear hg x0 x1 x2 x3 x4 x5 x6 HCk
  go_wp2_with fail
  refine (AN.out _ hG).mono ?_
  rintro e w3 ⟨v3, rfl, ho, hg⟩
  have hlt := hC.lt
  have hv := ho.rb.imp (q := fun b => b ≠ gh) (fun b _ hb => by omega)
  clear hlt
  replace hC := hC.gr hg
  replace hG := hG.step hg
  clear hg
  obtain ⟨a3, c3, rfl, -, -⟩ := ho.rb.form
  generalize P.data.length = M at *
  have hP := CL.new w3 [.int .i64 0, .int .i64 P.tag, .int .i64 P.ttl, .int .i64 P.proto, .bool true, .int .u32 P.src, .int .u32 P.dst, .slice a3 M c3] 55 _ rfl
  have hg3 := Gr.alloc (Gr.refl w3) (.cells #[.int .i64 0, .int .i64 P.tag, .int .i64 P.ttl, .int .i64 P.proto, .bool true, .int .u32 P.src, .int .u32 P.dst, .slice a3 M c3] 55)
  simp only [List.toArray] at hP
  have hne : w3.heap.size ≠ gh := by have := hC.lt; omega
  go_upto_region 7 with fail
  generalize w3.alloc (.cells #[.int .i64 0, .int .i64 P.tag, .int .i64 P.ttl, .int .i64 P.proto, .bool true, .int .u32 P.src, .int .u32 P.dst, .slice a3 M c3] 55) = w4 at hP hg3 ⊢
  generalize w3.heap.size = gp at hP hne ⊢
  replace hC := (hC.gr hg3).gr (Gr.drew (Gr.refl _))
  replace hG := (hG.step hg3).step (Gr.drew (Gr.refl _))
  replace hv := (hv.gr hg3).gr (Gr.drew (Gr.refl _))
  have HP := Lib.hid (hP.gr (Gr.drew (Gr.refl w4)))
  clear hg3 ho hP
  refine region_plain (Ex gh w4.drew) (by kernel_rfl) ?_
  generalize w4.drew = w5 at HP hC hG hv ⊢
  have hS : Ex gh w5 w5 := Ex.refl _ _
  refine take_at 0 (some 29) (v := ?vu0) rfl rfl (by kernel_rfl) (by kernel_rfl) (by kernel_rfl) (by rfl) ?yu0 hS ?tu0
  case yu0 =>
    intro w' hSw
    obtain ⟨⟨q0, q1, q2, q3, q4, q5, q6, q7⟩, -⟩ := (HP.out.ex hSw hne).eight
    go_simp
    (try with_reducible rfl)
  simp only [Act.put, List.setIfInBounds_toArray, List.set_cons_zero, List.set_cons_succ]
  refine take_at 1 (some 30) (v := ?vu1) rfl rfl (by kernel_rfl) (by kernel_rfl) (by kernel_rfl) (by rfl) ?yu1 hS ?tu1
  case yu1 =>
    intro w' hSw
    obtain ⟨⟨q0, q1, q2, q3, q4, q5, q6, q7⟩, -⟩ := (HP.out.ex hSw hne).eight
    go_simp
    (try with_reducible rfl)
  simp only [Act.put, List.setIfInBounds_toArray, List.set_cons_zero, List.set_cons_succ]
  refine take_at 2 (some 31) (v := ?vu2) rfl rfl (by kernel_rfl) (by kernel_rfl) (by kernel_rfl) (by rfl) ?yu2 hS ?tu2
  case yu2 =>
    intro w' hSw
    obtain ⟨⟨q0, q1, q2, q3, q4, q5, q6, q7⟩, -⟩ := (HP.out.ex hSw hne).eight
    go_simp
    (try with_reducible rfl)
  simp only [Act.put, List.setIfInBounds_toArray, List.set_cons_zero, List.set_cons_succ]
  refine take_at 3 (some 32) (v := ?vu3) rfl rfl (by kernel_rfl) (by kernel_rfl) (by kernel_rfl) (by rfl) ?yu3 hS ?tu3
  case yu3 =>
    intro w' hSw
    obtain ⟨⟨q0, q1, q2, q3, q4, q5, q6, q7⟩, -⟩ := (HP.out.ex hSw hne).eight
    go_simp
    (try with_reducible rfl)
  simp only [Act.put, List.setIfInBounds_toArray, List.set_cons_zero, List.set_cons_succ]
  refine take_at 4 (some 33) (v := ?vu4) rfl rfl (by kernel_rfl) (by kernel_rfl) (by kernel_rfl) (by rfl) ?yu4 hS ?tu4
  case yu4 =>
    intro w' hSw
    obtain ⟨⟨q0, q1, q2, q3, q4, q5, q6, q7⟩, -⟩ := (HP.out.ex hSw hne).eight
    go_simp
    (try with_reducible rfl)
  simp only [Act.put, List.setIfInBounds_toArray, List.set_cons_zero, List.set_cons_succ]
  refine take_at 5 (some 34) (v := ?vu5) rfl rfl (by kernel_rfl) (by kernel_rfl) (by kernel_rfl) (by rfl) ?yu5 hS ?tu5
  case yu5 =>
    intro w' hSw
    obtain ⟨⟨q0, q1, q2, q3, q4, q5, q6, q7⟩, -⟩ := (HP.out.ex hSw hne).eight
    go_simp
    (try with_reducible rfl)
  simp only [Act.put, List.setIfInBounds_toArray, List.set_cons_zero, List.set_cons_succ]
  refine take_at 6 (some 35) (v := ?vu6) rfl rfl (by kernel_rfl) (by kernel_rfl) (by kernel_rfl) (by rfl) ?yu6 hS ?tu6
  case yu6 =>
    intro w' hSw
    obtain ⟨⟨q0, q1, q2, q3, q4, q5, q6, q7⟩, -⟩ := (HP.out.ex hSw hne).eight
    go_simp
    (try with_reducible rfl)
  simp only [Act.put, List.setIfInBounds_toArray, List.set_cons_zero, List.set_cons_succ]
  have hS2 := hS.set 3 (.int .i64 P.proto)
  have hC2 := hC.set 3 (.int .i64 P.proto) (by simp)
  have hG2 := hG.setCell (p := ⟨gh, 3, none⟩) hgz (.int .i64 P.proto)
  have hv2 := hv.ex hS2 (fun b hb => hb)
  simp only [List.set_cons_succ, List.set_cons_zero] at hC2
  obtain ⟨⟨x0, x1, x2, x3, x4, x5, x6⟩, u0, u1, u2, u3, u4, u5, u6⟩ := hC.seven
  refine next_at 7 rfl (by kernel_rfl) (by rfl) (fun K hK => ?_)
  go_simp
  refine hK _ _ hS2 ?_
  clear hK K x0 x1 x2 x3 x4 x5 x6 u0 u1 u2 u3 u4 u5 u6 hC hG hv hS
  have hS := hS2
  clear hS2
  generalize w5.setCell ⟨gh, 3, none⟩ (.int .i64 P.proto) = w6 at hS hC2 hG2 hv2 ⊢
  refine take_at 8 (some 36) (v := ?vu8) rfl rfl (by kernel_rfl) (by kernel_rfl) (by kernel_rfl) (by rfl) ?yu8 hS ?tu8
  case yu8 =>
    intro w' hSw
    obtain ⟨⟨q0, q1, q2, q3, q4, q5, q6, q7⟩, -⟩ := (HP.out.ex hSw hne).eight
    go_simp
    (try with_reducible rfl)
  simp only [Act.put, List.setIfInBounds_toArray, List.set_cons_zero, List.set_cons_succ]
  have hS2 := hS.set 6 (.int .u32 P.src)
  have hC := hC2.set 6 (.int .u32 P.src) (by simp)
  have hG := hG2.setCell (p := ⟨gh, 6, none⟩) hgz (.int .u32 P.src)
  have hv := (hv2.ex (Ex.set (Ex.refl gh w6) 6 (.int .u32 P.src)) (fun b hb => hb)).any
  replace HP := Lib.hid (HP.out.ex hS2 hne)
  simp only [List.set_cons_succ, List.set_cons_zero] at hC
  obtain ⟨⟨x0, x1, x2, x3, x4, x5, x6⟩, u0, u1, u2, u3, u4, u5, u6⟩ := hC2.seven
  refine next_at 9 rfl (by kernel_rfl) (by rfl) (fun K hK => ?_)
  go_simp
  refine hK _ _ hS2 ?_
  clear hK K x0 x1 x2 x3 x4 x5 x6 u0 u1 u2 u3 u4 u5 u6 hC2 hG2 hv2 hS hS2
  generalize w6.setCell ⟨gh, 6, none⟩ (.int .u32 P.src) = w7 at HP hC hG hv ⊢
  refine wpAnyH_done (by kernel_rfl) ?_ _
  refine qz_normal ?_
  obtain ⟨⟨x0, x1, x2, x3, x4, x5, x6⟩, -⟩ := hC.seven
  obtain ⟨⟨y0, y1, y2, y3, y4, y5, y6, y7⟩, -⟩ := HP.out.eight
  go_wp2_with fail
  rw [HDT.out] at hv
  refine (HDU.out _ _ hv).mono ?_
  rintro e w8 ⟨v8, rfl, ho, hg⟩
  replace hG := hG.step hg
  obtain ⟨a8, c8, rfl, -, -⟩ := ho.rb.form
  generalize (bput (udN P.src P.dst P.flow P.tag) 2).length = M8 at *
  have hg3 := Gr.alloc (Gr.refl w8) (.cells #[.int .i64 SP, .int .i64 DP, .slice a8 M8 c8] 60)
  replace hG := hG.step hg3
  clear x0 x1 x2 x3 x4 x5 x6 y0 y1 y2 y3 y4 y5 y6 y7 hC HP hv HDT ho hg hg3
  go_wp2_with fail
  refine (HEC.out _ hG).mono ?_
  rintro e w8 ⟨v8, rfl, ho, hg⟩
  replace ho := ho.base (Gr.size hG)
  replace hG := hG.step hg
  go_wp2_with fail
  go_ret2
  exact ⟨_, rfl, ho, hG⟩
set_option maxHeartbeats 1000000 in
theorem rhost_no {p : Nat → Prop} {v : Value} {l : List Nat} (frm id ttl : Nat) (w : World) (hr : Rb p w v l) (AN0 : ∀ w', Gr w w' → Calls Tryz.prog 22 #[v] w' fun e w'' => e = .returned (.tuple #[pkZ, .bool false]) ∧ Gr w' w'')
    (hi : id ≤ 65535) (htt : ttl ≤ 255) (hf : frm < 4294967296) :
    Calls Tryz.prog 9 #[v, .int .u32 frm, .int .i64 id, .int .i64 ttl] w fun e w' => e = .returned (.tuple #[.slice none 0 0, .int .i64 17]) ∧ Gr w w' := by
  have AN := Lib.hid AN0
  have hA : (ans 1 id ttl frm 0).ok := ans_ok (by omega) hi htt hf (by omega)
  obtain ⟨av, cv, rfl, hcap, hmx⟩ := hr.form
  generalize l.length = N at *
  clear hr AN0 hi htt hf
  have hC := CL.new w [.int .i64 0, .int .i64 id, .int .i64 ttl, .int .i64 0, .bool false, .int .u32 frm, .int .u32 0] 52 _ rfl
  have hG := Gr.alloc (Gr.refl w) (.cells #[.int .i64 0, .int .i64 id, .int .i64 ttl, .int .i64 0, .bool false, .int .u32 frm, .int .u32 0] 52)
  have hgz := Nat.le_refl w.heap.size
  have HCk := Lib.hid (fun w => check_any 0 id ttl 0 false frm 0 w)
  rw [show ckE 0 id ttl 0 = 0 from ans_ck (proto := 0) (src := frm) (dst := 0) (ans_ok (by omega) hA.id hA.ttl hA.src (by omega))] at HCk
  unfold hdV at HCk
  simp only [List.toArray] at hC
  go_enter Tryz.func9, Tryz.ntmps9
  go_upto_region 2 with fail
  generalize w.alloc (.cells #[.int .i64 0, .int .i64 id, .int .i64 ttl, .int .i64 0, .bool false, .int .u32 frm, .int .u32 0] 52) = w1 at hC hG ⊢
  generalize hge : w.heap.size = gh at hC ⊢
  rw [hge] at hgz
  replace hgz : w.heap.size ≤ gh := by omega
  clear hge
  obtain ⟨⟨x0, x1, x2, x3, x4, x5, x6⟩, -⟩ := hC.seven
  go_wp2_with fail
  refine (HCk.out _).mono ?_
  rintro e w2 ⟨rfl, hg⟩
  replace hC := hC.gr hg
  replace hG := hG.step hg
  clear hg x0 x1 x2 x3 x4 x5 x6 HCk
  go_wp2_with fail
  refine (AN.out _ hG).mono ?_
  rintro e w3 ⟨rfl, hg⟩
  unfold pkZ pkV
  have hg3 := Gr.alloc (Gr.refl w3) (.cells #[.int .i64 0, .int .i64 0, .int .i64 0, .int .i64 0, .bool false, .int .u32 0, .int .u32 0, .slice none 0 0] 55)
  replace hG := (hG.step hg).step hg3
  go_wp2_with fail
  go_ret2
  exact ⟨rfl, hG⟩
/-- what a host answers to a probe -/
theorem rhost_ok {p : Nat → Prop} {v : Value} (P : Pr) (frm id ttl : Nat) (w : World) (k : P.ok) (hr : Rb p w v P.pk) (ht : SpTab w) (hu : usb P.src) (hi : id ≤ 65535) (htt : ttl ≤ 255) (hf : frm < 4294967296) :
    Calls Tryz.prog 9 #[v, .int .u32 frm, .int .i64 id, .int .i64 ttl] w fun e w' => ∃ v', e = .returned (.tuple #[v', .int .i64 0]) ∧ OwB w.heap.size w' v' (hostL P frm id ttl) ∧ Gr w w' := by
  rcases k.proto with h | h | h
  · exact rhost_icmp P frm id ttl w k hr ht hu hi htt hf h
  · exact rhost_udp P frm id ttl w k hr ht hu hi htt hf h
  · exact rhost_tcp P frm id ttl w k hr ht hu hi htt hf h
end Go.Proofs.YtkpejaiigopmgaaGreatDoor
