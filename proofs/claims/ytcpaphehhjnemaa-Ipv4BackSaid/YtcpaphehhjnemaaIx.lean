/- The walk of the statement on packets that come back. -/
import Derived.Test.YtcpaphehhjnemaaIq
import Derived.Test.YtcpaphehhjnemaaIa
import Derived.Test.YtcpaphehhjnemaaIs
import Derived.WalkKit
import Derived.WalkSpells
import Derived.WalkLawsBesides
import Derived.WalkSmall
import Derived.Handy
import Derived.BigQuiet
import Derived.Deep.QuietTactic
import Derived.Deep.RegionHeld3
import Derived.Deep.DeepFit
import Derived.Below
import Derived.Lib.Hide
import Derived.Lib.QuietBelow
namespace Go.Proofs.Ytcpaphehhjnemaa
open Go Go.RowKit Go.Sort
set_option maxRecDepth 100000
set_option linter.unusedVariables false
def Hd.cells (h : Hd) (v : Value) : List Value := [.int .i64 h.tos, .int .i64 h.id, .int .i64 h.ttl, .int .i64 h.proto, .bool h.keep, .int .u32 h.src, .int .u32 h.dst, v]
theorem rb_two (w : World) : Rb (fun _ => True) (w.alloc (.cells #[.int .u8 1, .int .u8 2] 5)) (.slice (some ⟨w.heap.size, 0, none⟩) 2 2) [1, 2] := by
  refine ⟨_, 2, rfl, by simp, by omega, (fun h => by cases h), (fun x h => by simp at h; omega), fun i hi => ⟨_, 0, rfl, trivial, ?_⟩⟩
  have : i = 0 ∨ i = 1 := by simp at hi; omega
  rcases this with rfl | rfl <;> simp
set_option maxHeartbeats 4000000 in
theorem back_walk {q : Nat → Prop} (sv vd : Value) (len : Nat) (d : List Nat) (w : World) (hl : len ≤ 9223372036854775807) (hb : BytesV w.heap.size w sv len) (hd : Rb q w vd d) :
    Calls Try.prog 4 #[sv, vd] w fun e w' => e = .returned (.bool true) ∧ Gr w w' := by
  obtain ⟨ad, cd, rfl, hcd, hmd⟩ := hd.form
  by_cases h1 : 1480 < d.length
  · have d1 : decide ((1480 : Int) < (d.length : Int)) = true := by rw [decide_eq_true_eq]; omega
    clear hd
    go_enter Try.func4, Try.ntmps4
    go_wp2_with fail
    refine (iawake_any _).mono ?_
    rintro e w1 ⟨rfl, hg⟩
    go_wp2_with fail
    go_ret
    exact ⟨rfl, hg⟩
  have d1 : decide ((1480 : Int) < (d.length : Int)) = false := by rw [decide_eq_false_iff_not]; omega
  have HD := Lib.hid hd
  have HB := Lib.hid hb
  obtain ⟨M, hM⟩ : ∃ M, M = d.length := ⟨_, rfl⟩
  have HM := Lib.hid hM
  have hM2 : M ≤ 1480 := by omega
  rw [← hM] at HD d1 ⊢
  clear hd hb h1 hM hcd
  go_enter Try.func4, Try.ntmps4
  go_wp2_with fail
  refine (iawake_any _).mono ?_
  rintro e w1 ⟨rfl, hg⟩
  go_wp2_with fail
  refine (new_any sv len 80 _ (by omega) hl (HB.out.gr hg)).mono ?_
  rintro e w2 ⟨b, rfl, hbe, hc2, hg2⟩
  have hbw : w.heap.size ≤ b := by have := Gr.size hg; omega
  replace hg := hg.step hg2
  have HC := Lib.hid hc2
  clear hbe hc2 hg2 HB
  go_wp2_with fail
  refine (next_nat b 256 _ (by omega) (by omega) HC.out).mono ?_
  rintro e w3 ⟨tos, rfl, htos, hc3, he3⟩
  replace hg := Ex.gr hg hbw he3
  clear he3
  go_wp2_with fail
  refine (next_nat b 65536 _ (by omega) (by omega) hc3).mono ?_
  rintro e w4 ⟨id, rfl, hid, hc4, he4⟩
  replace hg := Ex.gr hg hbw he4
  clear he4 hc3
  go_wp2_with fail
  refine (next_nat b 256 _ (by omega) (by omega) hc4).mono ?_
  rintro e w5 ⟨ttl, rfl, httl, hc5, he5⟩
  replace hg := Ex.gr hg hbw he5
  clear he5 hc4
  go_wp2_with fail
  refine (next_nat b 256 _ (by omega) (by omega) hc5).mono ?_
  rintro e w6 ⟨proto, rfl, hproto, hc6, he6⟩
  replace hg := Ex.gr hg hbw he6
  clear he6 hc5
  go_wp2_with fail
  refine (next_nat b 2 _ (by omega) (by omega) hc6).mono ?_
  rintro e w7 ⟨kp, rfl, hkp, hc7, he7⟩
  replace hg := Ex.gr hg hbw he7
  obtain ⟨kb, hkb⟩ : ∃ kb : Bool, ((kp : Int) == 1) = kb := ⟨_, rfl⟩
  clear he7 hc6
  go_wp2_with fail
  refine (address_any b _ hc7).mono ?_
  rintro e w8 ⟨src, rfl, hsrc, hc8, he8⟩
  replace hg := Ex.gr hg hbw he8
  clear he8 hc7
  go_wp2_with fail
  refine (address_any b _ hc8).mono ?_
  rintro e w9 ⟨dst, rfl, hdst, hc9, he9⟩
  replace hg := Ex.gr hg hbw he9
  clear he9 hc8 hc9 HC hbw
  have k0 : (⟨tos, id, ttl, proto, kb, src, dst⟩ : Hd).ok := by constructor <;> simp only <;> omega
  obtain ⟨h, hh⟩ : ∃ h : Hd, h = ⟨tos, id, ttl, proto, kb, src, dst⟩ := ⟨_, rfl⟩
  have e0 : tos = h.tos := by rw [hh]
  have e1 : id = h.id := by rw [hh]
  have e2 : ttl = h.ttl := by rw [hh]
  have e3 : proto = h.proto := by rw [hh]
  have e4 : kb = h.keep := by rw [hh]
  have e5 : src = h.src := by rw [hh]
  have e6 : dst = h.dst := by rw [hh]
  rw [← hh] at k0
  have E4 := Lib.hid e4
  clear hh e4
  subst e0 e1 e2 e3 e5 e6
  have hC := CL.new w9 (h.cells (.slice ad M cd)) 29 _ rfl
  have hG := hg.alloc (.cells (h.cells (.slice ad M cd)).toArray 29)
  have HE := Lib.hid (fun w (hv : Rb q w (.slice ad M cd) d) => encode_enc h k0 w hv (by have := HM.out; omega))
  have K := Lib.hid k0
  unfold Hd.cells at hC hG
  unfold Hd.p pkV at HE
  clear k0 hid httl hproto hsrc hdst htos hkp
  go_wp2_with fail
  have e4 := E4.out
  subst e4
  clear E4
  refine (HE.out _ (HD.out.gr hG)).mono ?_
  rintro e w10 ⟨v10, rfl, ho10, hg10⟩
  replace hC := hC.gr hg10
  have hl := enc_len h d
  rw [← HM.out] at hl
  have HL := Lib.hid hl
  have HO := Lib.hid ho10.rb.any
  obtain ⟨a10, c10, rfl, -, -⟩ := ho10.rb.form
  rw [hl] at HO ⊢
  have hg2 := hG.step hg10
  clear ho10 hg10 hG hg hl hkb
  generalize w9.heap.size = g at *
  go_wp2_with fail
  refine (decode_enc K.out w10 HO.out (by have := HM.out; omega)).mono ?_
  rintro e w11 ⟨v11, rfl, ho11, hg11⟩
  obtain ⟨a11, c11, rfl, -, -⟩ := ho11.rb.form
  rw [← HM.out] at ho11 ⊢
  have hg12 := hg11.alloc (.cells (h.cells (.slice a11 M c11)).toArray 29)
  have hQ := CL.new w11 (h.cells (.slice a11 M c11)) 29 _ rfl
  have HV := Lib.hid (ho11.rb.any.gr (Gr.alloc (Gr.refl w11) (.cells (h.cells (.slice a11 M c11)).toArray 29)))
  replace hC := hC.gr hg12
  replace hg2 := hg2.step hg12
  have HO := Lib.hid (HO.out.gr hg12)
  unfold Hd.cells at hC hQ hg12 hg2 HV HO
  clear ho11 hg11 hg12
  unfold Hd.p pkV
  go_wp2_with fail
  generalize w11.alloc (.cells #[.int .i64 h.tos, .int .i64 h.id, .int .i64 h.ttl, .int .i64 h.proto, .bool h.keep, .int .u32 h.src, .int .u32 h.dst, .slice a11 M c11] 29) = w12 at *
  generalize w11.heap.size = g2 at *
  have HE2 := Lib.hid (encode_enc h K.out w12 HV.out (by have := HM.out; omega))
  unfold Hd.p pkV at HE2
  refine HE2.out.mono ?_
  rintro e w13 ⟨v13, rfl, ho13, hg13⟩
  have HX := Lib.hid ho13.rb.any
  obtain ⟨a13, c13, rfl, -, -⟩ := ho13.rb.form
  rw [HL.out] at HX ⊢
  have HV := Lib.hid (HV.out.gr hg13)
  have HO := Lib.hid (HO.out.gr hg13)
  replace hC := hC.gr hg13
  replace hQ := hQ.gr hg13
  replace hg2 := hg2.step hg13
  clear ho13 hg13 HE2 HE
  have hle : (enc h d).length ≤ 1500 := by rw [HL.out]; omega
  have HLE := Lib.hid hle
  clear hle
  go_wp2_with (first
    | (at_builtin
       refine wpList_app (base := w13.heap.size) rfl (.const (.slice none 0 0)) (.tmp 62) rfl rfl (OwB.nil _ _) rfl HO.out (by have := HLE.out; simp; omega) (Nat.le_refl _) ?_
       intro v14 w14 ho14 g14
       have hg14 : Gr w13 w14 := Gr.grownNew (Gr.refl _) g14 (fun _ h => by cases h)
       rw [List.nil_append] at ho14
       have HO14 := Lib.hid ho14
       clear ho14 g14)
    | (at_builtin
       refine wpList_app (base := w13.heap.size) rfl (.tmp 63) (.tmp 64) rfl rfl (HO14.out.gr (Gr.alloc (Gr.refl _) _)) rfl (rb_two w14) (by have := HLE.out; simp; omega) (by have := Gr.size hg14; simp; omega) ?_
       intro v15 w15 ho15 g15
       have hg15 : Gr w13 w15 := (hg14.alloc _).grownNew g15 HO14.out.above
       have HO15 := Lib.hid ho15
       clear ho15 g15))
  refine (peek_enc K.out _ HO15.out.rb (by have := HM.out; omega) (by simp)).mono ?_
  rintro e w16 ⟨rfl, hg16⟩
  replace hg15 := hg15.step hg16
  have HV := Lib.hid (HV.out.gr hg15)
  have HO := Lib.hid (HO.out.gr hg15)
  have HX := Lib.hid (HX.out.gr hg15)
  have hC := hC.gr hg15
  have hQ := hQ.gr hg15
  have hg2 := hg2.step hg15
  rw [← HM.out]
  clear HO14 HO15 hg14 hg15 hg16
  unfold Hd.v hdV
  obtain ⟨⟨x0, x1, x2, x3, x4, x5, x6, x7⟩, -⟩ := hC.eight
  obtain ⟨⟨y0, y1, y2, y3, y4, y5, y6, y7⟩, -⟩ := hQ.eight
  have hgl := hC.lt
  have hgl2 := hQ.lt
  have hga := Gr.alloc (Gr.refl w16) (.cells #[.int .i64 h.tos, .int .i64 h.id, .int .i64 h.ttl, .int .i64 h.proto, .bool h.keep, .int .u32 h.src, .int .u32 h.dst] 26)
  have HS := Lib.hid (rsame_self h.tos h.id h.ttl h.proto h.keep h.src h.dst _ ((HD.out.gr hg2).gr hga) (HV.out.gr hga) (by have := HM.out; omega))
  have HQ := Lib.hid (fun w' (k : Gr w16 w') => weq_any w' (HO.out.gr k) (HX.out.gr k))
  rw [decide_eq_true (rfl : enc h d = enc h d)] at HQ
  unfold pkV at HS
  go_wp2_with fail
  refine HS.out.mono ?_
  rintro e w17 ⟨rfl, hg17⟩
  have hg18 := hga.step hg17
  have hc := Gr.cells hg18
  have hx := fun o => hc.1 g o hgl
  rw [← hx] at x0 x1 x2 x3 x4 x5 x6 x7
  have hn0 := (CL.new w16 [.int .i64 h.tos, .int .i64 h.id, .int .i64 h.ttl, .int .i64 h.proto, .bool h.keep, .int .u32 h.src, .int .u32 h.dst] 26 _ rfl).gr hg17
  obtain ⟨⟨n0, n1, n2, n3, n4, n5, n6⟩, -⟩ := hn0.seven
  clear hc hx
  go_wp2_with fail
  refine (HQ.out _ hg18).mono ?_
  rintro e w19 ⟨rfl, rfl⟩
  go_wp2_with fail
  go_ret
  exact ⟨rfl, hg2.step hg18⟩
end Go.Proofs.Ytcpaphehhjnemaa
