/- The walk of the statement on lowered packets. -/
import Derived.Test.YtcpaphehhjnemaaIu
import Derived.Test.YtcpaphehhjnemaaIa
import Derived.WalkKit
import Derived.WalkSpells
import Derived.WalkLawsBesides
import Derived.WalkSmall
import Derived.Handy
import Derived.BigQuiet
import Derived.Deep.QuietTactic
import Derived.Deep.RegionHeld3
import Derived.Deep.DeepFit
import Derived.Below
import Derived.Lib.Hide
import Derived.Lib.QuietBelow
namespace Go.Proofs.Ytcpaphehhjnemaa
open Go Go.RowKit Go.Sort
set_option maxRecDepth 100000
set_option linter.unusedVariables false
def Hd.cells (h : Hd) (v : Value) : List Value := [.int .i64 h.tos, .int .i64 h.id, .int .i64 h.ttl, .int .i64 h.proto, .bool h.keep, .int .u32 h.src, .int .u32 h.dst, v]
theorem cells_low (h : Hd) (v : Value) : (h.cells v).set 2 (.int .i64 (h.ttl - 1 : Nat)) = h.low.cells v := rfl
theorem get_gN {p : Nat → Prop} {v : Value} {l : List Nat} (i k : Nat) (w : World) (h : Rb p w v l) (hk0 : 1 ≤ k) (hk1 : k ≤ 7) (hik : i + k ≤ l.length) :
    Calls Try.prog 25 #[v, .int .i64 i, .int .i64 k] w fun e w' => e = .returned (.tuple #[.int .i64 (gN l i k : Nat), .int .i64 0]) ∧ w = w' := get_yes i k w h hk0 hk1 hik
set_option maxHeartbeats 4000000 in
theorem lowers_walk {q : Nat → Prop} (sv vd : Value) (len times : Nat) (d : List Nat) (w : World) (hl : len ≤ 9223372036854775807) (hb : BytesV w.heap.size w sv len) (hd : Rb q w vd d) (ht : times < 256) :
    Calls Try.prog 5 #[sv, vd, .int .u8 times] w fun e w' => e = .returned (.bool true) ∧ Gr w w' := by
  obtain ⟨ad, cd, rfl, hcd, hmd⟩ := hd.form
  by_cases h1 : 200 < d.length
  · have d1 : decide ((200 : Int) < (d.length : Int)) = true := by rw [decide_eq_true_eq]; omega
    clear hd
    go_enter Try.func5, Try.ntmps5
    go_wp2_with fail
    refine (iawake_any _).mono ?_
    rintro e w1 ⟨rfl, hg⟩
    go_wp2_with fail
    go_ret
    exact ⟨rfl, hg⟩
  have d1 : decide ((200 : Int) < (d.length : Int)) = false := by rw [decide_eq_false_iff_not]; omega
  have HD := Lib.hid hd
  have HB := Lib.hid hb
  obtain ⟨M, hM⟩ : ∃ M, M = d.length := ⟨_, rfl⟩
  have HM := Lib.hid hM
  have hM2 : M ≤ 200 := by omega
  rw [← hM] at HD d1 ⊢
  clear hd hb h1 hM hcd
  go_enter Try.func5, Try.ntmps5
  go_wp2_with fail
  refine (iawake_any _).mono ?_
  rintro e w1 ⟨rfl, hg⟩
  go_wp2_with fail
  refine (new_any sv len 80 _ (by omega) hl (HB.out.gr hg)).mono ?_
  rintro e w2 ⟨b, rfl, hbe, hc2, hg2⟩
  have hbw : w.heap.size ≤ b := by have := Gr.size hg; omega
  replace hg := hg.step hg2
  have HC := Lib.hid hc2
  clear hbe hc2 hg2 HB
  go_wp2_with fail
  refine (next_nat b 65536 _ (by omega) (by omega) HC.out).mono ?_
  rintro e w3 ⟨id, rfl, hid, hc3, he3⟩
  replace hg := Ex.gr hg hbw he3
  clear he3
  go_wp2_with fail
  refine (next_nat b 256 _ (by omega) (by omega) hc3).mono ?_
  rintro e w4 ⟨ttl, rfl, httl, hc4, he4⟩
  replace hg := Ex.gr hg hbw he4
  clear he4 hc3
  go_wp2_with fail
  refine (next_nat b 256 _ (by omega) (by omega) hc4).mono ?_
  rintro e w5 ⟨proto, rfl, hproto, hc5, he5⟩
  replace hg := Ex.gr hg hbw he5
  clear he5 hc4
  go_wp2_with fail
  refine (address_any b _ hc5).mono ?_
  rintro e w6 ⟨src, rfl, hsrc, hc6, he6⟩
  replace hg := Ex.gr hg hbw he6
  clear he6 hc5
  go_wp2_with fail
  refine (address_any b _ hc6).mono ?_
  rintro e w7 ⟨dst, rfl, hdst, hc7, he7⟩
  replace hg := Ex.gr hg hbw he7
  clear he7 hc6 hc7 HC hbw
  have k0 : (⟨0, id, ttl, proto, false, src, dst⟩ : Hd).ok := by constructor <;> simp only <;> omega
  have hC := CL.new w7 ((⟨0, id, ttl, proto, false, src, dst⟩ : Hd).cells (.slice ad M cd)) 29 _ rfl
  have hG := hg.alloc (.cells ((⟨0, id, ttl, proto, false, src, dst⟩ : Hd).cells (.slice ad M cd)).toArray 29)
  have HE := Lib.hid (fun w (hv : Rb q w (.slice ad M cd) d) => encode_enc ⟨0, id, ttl, proto, false, src, dst⟩ k0 w hv (by have := HM.out; omega))
  have K0 := Lib.hid k0
  unfold Hd.cells at hC hG
  unfold Hd.p pkV at HE
  simp only at hC hG HE
  clear k0 hid httl hproto hsrc hdst
  have z0 : ((0 : Nat) : Int) = 0 := rfl
  rw [z0] at hC hG HE
  go_wp2_with fail
  refine (HE.out _ (HD.out.gr hG)).mono ?_
  rintro e w8 ⟨v8, rfl, ho8, hg8⟩
  replace hC := hC.gr hg8
  have hgw := Gr.size hG
  have HO8 := Lib.hid (ho8.base hgw)
  have HG8 := Lib.hid (hG.step hg8)
  have hgg : w.heap.size ≤ w7.heap.size := Gr.size hg
  have HC8 := Lib.hid (show CL w8 w7.heap.size ((⟨0, id, ttl, proto, false, src, dst⟩ : Hd).cells (.slice ad M cd)) from hC)
  obtain ⟨a8, c8, hv8, -, -⟩ := ho8.rb.form
  generalize w7.heap.size = g at *
  clear hC hG hg8 HE ho8 hg z0 hgw
  subst hv8
  go_wp2_with fail
  go_loopw [9, 10, 11] (fun bv ev iv wr => ∃ (t : Nat) (h : Hd), t ≤ 11 ∧ h.ok ∧ iv = .int .i64 t ∧ ev = .int .i64 0 ∧ OwB w.heap.size wr bv (enc h d) ∧ CL wr g (h.cells (.slice ad M cd)) ∧ Gr w wr) (fun _ _ iv _ => 12 - (intOf iv).toNat)
  case atStart => exact ⟨0, _, by omega, K0.out, rfl, rfl, HO8.out, HC8.out, HG8.out⟩
  case round =>
    obtain ⟨t, h, ht12, hk, rfl, rfl, ho, hC, hgr⟩ := hrel
    clear HO8 HC8 HG8
    have K := Lib.hid hk
    have hO := ho.rb
    obtain ⟨abv, cbv, rfl, -, -⟩ := hO.form
    have HO := Lib.hid ho
    have HOR := Lib.hid hO.any
    have hle := enc_len h d
    rw [← HM.out] at hle
    rw [hle] at HO HOR ⊢
    have hC0 := hC
    unfold Hd.cells at hC
    obtain ⟨⟨x0, x1, x2, x3, x4, x5, x6, x7⟩, z0, z1, z2, z3, z4, z5, z6, z7⟩ := hC.eight
    have HC := Lib.hid hC0
    clear hC hC0 ho hO hle
    by_cases hlt : t < times % 12
    · have d2 : (t : Int) < (times : Int) % 12 := by omega
      have d2b : decide ((t : Int) < (times : Int) % 12) = true := by rw [decide_eq_true_eq]; omega
      by_cases htt : h.ttl < 2
      · have d3 : decide ((h.ttl : Int) < 2) = true := by rw [decide_eq_true_eq]; omega
        have HL := Lib.hid (lower_low K.out wr HOR.out (by have := HM.out; omega) htt)
        go_wp2_with fail
        refine HL.out.mono ?_
        rintro e w9 ⟨rfl, hg9⟩
        have hx2 := ((HC.out.gr hg9).at' 2 _ rfl).1
        go_wp2_with fail
        go_ret
        exact ⟨rfl, hgr.step hg9⟩
      · have d3 : decide ((h.ttl : Int) < 2) = false := by rw [decide_eq_false_iff_not]; omega
        have HL := Lib.hid (lower_enc K.out wr HOR.out (by have := HM.out; omega) htt)
        have htt2 := K.out.ttl
        have l1 := enc_len h d
        have l2 := enc_len h.low d
        rw [← HM.out] at l1 l2
        have HL1 := Lib.hid l1
        have HL2 := Lib.hid l2
        obtain ⟨T, hT⟩ : ∃ T, T = h.ttl - 1 := ⟨_, rfl⟩
        have e1 : (h.ttl : Int) - 1 = (T : Int) := by omega
        have hT2 : T ≤ 255 := by omega
        have HT := Lib.hid hT
        have HU := Lib.hid (low_upd K.out d (by have := HM.out; omega))
        clear l1 l2 hT htt2
        go_wp2_with fail
        refine HL.out.mono ?_
        rintro e w9 ⟨v9, rfl, ho9, hg9⟩
        have hgl := (HC.out).lt
        have HX := Lib.hid ho9
        have HXR := Lib.hid ho9.rb.any
        have hab9 := ho9.above
        obtain ⟨a9, c9, rfl, -, -⟩ := ho9.rb.form
        rw [HL2.out] at HX HXR hab9 ⊢
        have HAB := Lib.hid (fun k hk => (by have := hab9 k hk; omega : k ≠ g))
        have HC9 := Lib.hid (HC.out.gr hg9)
        have HOR9 := Lib.hid (HOR.out.gr hg9)
        have hgr9 := hgr.step hg9
        have hs9 := Gr.size hg9
        obtain ⟨⟨y0, y1, y2, y3, y4, y5, y6, y7⟩, q0, q1, q2, q3, q4, q5, q6, q7⟩ := HC9.out.eight
        have HG1 := Lib.hid (get_gN 8 2 w9 HOR9.out (by omega) (by omega) (by rw [HL1.out]; omega))
        have HG2 := Lib.hid (get_gN 10 2 w9 HOR9.out (by omega) (by omega) (by rw [HL1.out]; omega))
        have HG3 := Lib.hid (get_gN 8 2 w9 HXR.out (by omega) (by omega) (by rw [HL2.out]; omega))
        have HG4 := Lib.hid (get_gN 10 2 w9 HXR.out (by omega) (by omega) (by rw [HL2.out]; omega))
        generalize gN (enc h d) 8 2 = n1 at *
        generalize gN (enc h d) 10 2 = n2 at *
        generalize gN (enc h.low d) 8 2 = n3 at *
        generalize gN (enc h.low d) 10 2 = n4 at *
        clear x0 x1 x2 x3 x4 x5 x6 x7 z0 z1 z2 z3 z4 z5 z6 z7 ho9 hab9 hg9 HL HC HOR
        go_wp2_with fail
        refine HG1.out.mono ?_
        rintro e w10 ⟨rfl, rfl⟩
        go_wp2_with fail
        refine HG2.out.mono ?_
        rintro e w10 ⟨rfl, rfl⟩
        go_wp2_with fail
        refine HG3.out.mono ?_
        rintro e w10 ⟨rfl, rfl⟩
        go_wp2_with fail
        refine HG4.out.mono ?_
        rintro e w10 ⟨rfl, rfl⟩
        go_wp2_with fail
        refine (wupd_any _ _ _ _).mono ?_
        rintro e w10 ⟨rfl, rfl⟩
        rw [HU.out]
        clear HG1 HG2 HG3 HG4
        go_wp2_with fail
        have hgrS := hgr9.setCell (p := ⟨g, 2, none⟩) hgg (.int .i64 T)
        have hCS := HC9.out.set 2 (.int .i64 T) (by simp [Hd.cells])
        rw [show (h.cells (.slice ad M cd)).set 2 (.int .i64 T) = h.low.cells (.slice ad M cd) by rw [HT.out]; rfl] at hCS
        have hXS := (HX.out.cellset (o := 2) HAB.out (.int .i64 T)).rb.any
        clear y0 y1 y2 y3 y4 y5 y6 y7 q0 q1 q2 q3 q4 q5 q6 q7
        generalize w9.setCell ⟨g, 2, none⟩ (.int .i64 T) = w10 at *
        have HE := Lib.hid (encode_enc h.low (Hd.low_ok K.out) w10 (HD.out.gr hgrS) (by have := HM.out; omega))
        unfold Hd.p pkV Hd.low at HE
        simp only at HE
        rw [← HT.out] at HE
        refine HE.out.mono ?_
        rintro e w11 ⟨v11, rfl, ho11, hg11⟩
        have hl11 : ({ tos := h.tos, id := h.id, ttl := T, proto := h.proto, keep := h.keep, src := h.src, dst := h.dst } : Hd) = h.low := by rw [HT.out]; rfl
        rw [hl11] at ho11
        have HQ := Lib.hid (weq_any w11 ho11.rb (hXS.gr hg11))
        rw [decide_eq_true (rfl : enc h.low d = enc h.low d)] at HQ
        have hsw := Gr.size hgrS
        have HF1 := Lib.hid (ho11.base hsw)
        have HF2 := Lib.hid (hCS.gr hg11)
        have HF3 := Lib.hid (hgrS.step hg11)
        obtain ⟨a11, c11, rfl, -, -⟩ := ho11.rb.form
        rw [HL2.out] at HQ HF1 ⊢
        clear ho11 hg11 hXS hCS hgrS hl11 HE hsw
        go_wp2_with fail
        refine HQ.out.mono ?_
        rintro e w12 ⟨rfl, rfl⟩
        go_wp2_with fail
        case roundEnd =>
          exact ⟨⟨t + 1, h.low, by omega, Hd.low_ok K.out, by simp, rfl, HF1.out, HF2.out, HF3.out⟩, by simp [intOf]; omega⟩
    · have d2 : ¬ (t : Int) < (times : Int) % 12 := by omega
      have d2b : decide ((t : Int) < (times : Int) % 12) = false := by rw [decide_eq_false_iff_not]; omega
      go_wp2_with fail
      go_ret
      exact ⟨rfl, hgr⟩
end Go.Proofs.Ytcpaphehhjnemaa
