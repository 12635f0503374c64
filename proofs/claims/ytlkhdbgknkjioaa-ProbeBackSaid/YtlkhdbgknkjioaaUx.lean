/- The walk of the statement on reading back. -/
import Derived.Test.YtlkhdbgknkjioaaUw
import Derived.WalkKit
import Derived.WalkSpells
import Derived.WalkLawsBesides
import Derived.WalkSmall
import Derived.Handy
import Derived.BigQuiet
import Derived.Deep.QuietTactic
import Derived.Deep.RegionHeld3
import Derived.Deep.DeepFit
import Derived.Below
import Derived.Lib.Hide
import Derived.Lib.QuietBelow
namespace Go.Proofs.Ytlkhdbgknkjioaa
open Go Go.RowKit Go.Sort
set_option maxRecDepth 100000
set_option linter.unusedVariables false
set_option linter.unusedSimpArgs false
def Pr.low (p : Pr) : Pr := { p with ttl := p.ttl - 1 }
theorem Pr.low_ok {p : Pr} (k : p.ok) (h : ¬ p.ttl < 2) : p.low.ok := ⟨k.src, k.dst, k.proto, k.flow, k.tag, by show 1 ≤ p.ttl - 1; omega, by have := k.t1; show p.ttl - 1 ≤ 255; omega⟩
theorem Pr.low_pk (p : Pr) : enc p.hd.low p.data = p.low.pk := rfl
theorem back_walk (sv : Value) (len : Nat) (w : World) (hl : len ≤ 9223372036854775807) (hb : BytesV w.heap.size w sv len) :
    Calls Try.prog 6 #[sv] w fun e w' => e = .returned (.bool true) ∧ Gr w w' := by
  have HB := Lib.hid hb
  clear hb
  go_enter Try.func6, Try.ntmps6
  go_wp2_with fail
  refine (pawake_any _).mono ?_
  rintro e w1 ⟨rfl, hg⟩
  go_wp2_with fail
  refine (new_any sv len 80 _ (by omega) hl (HB.out.gr hg)).mono ?_
  rintro e w2 ⟨b, rfl, hbe, hc, hg2⟩
  have hbw : w.heap.size ≤ b := by have := Gr.size hg; omega
  have hG := hg.step hg2
  clear hbe hg2 hg HB hl
  go_wp2_with fail
  refine (right_any b _ hc).mono ?_
  rintro e w3 ⟨P, rfl, hP, hc', hx⟩
  replace hG := Ex.gr hG hbw hx
  replace hc := hc'
  clear hc' hx
  unfold Pr.v prV
  clear hc hbw
  have hC := CL.new w3 P.vs 65 _ rfl
  have hgn := Gr.alloc (Gr.refl w3) (.cells P.vs.toArray 65)
  unfold Pr.vs at hC hgn
  simp only [List.toArray] at hC hgn
  have HBd := Lib.hid (fun w => pbuild_ok P hP w)
  have HRd := Lib.hid (fun (v : Value) (w : World) (hv : Rb (fun _ => True) w v P.pk) => pRead_ok P hP w hv)
  unfold Pr.v prV at HBd HRd
  have HP := Lib.hid hP
  clear hP
  go_upto_region 4 with fail
  have hle : w.heap.size ≤ w3.heap.size := Gr.size hG
  generalize w3.alloc (.cells #[.int .u32 P.src, .int .u32 P.dst, .int .i64 P.proto, .int .i64 P.flow, .int .i64 P.tag, .int .i64 P.ttl] 65) = w4 at hC hgn ⊢
  generalize w3.heap.size = gp at hC hle ⊢
  replace hG := hG.step hgn
  clear hgn
  obtain ⟨⟨y0, y1, y2, y3, y4, y5⟩, -⟩ := CL.six hC
  go_wp2_with fail
  refine (HBd.out _).mono ?_
  rintro e w5 ⟨v5, rfl, ho, hg⟩
  clear y0 y1 y2 y3 y4 y5
  replace hC := hC.gr hg
  replace hG := hG.step hg
  have HV := Lib.hid ho.rb.any
  obtain ⟨a5, c5, rfl, -, -⟩ := ho.rb.any.form
  generalize hpl : P.pk.length = K at *
  clear ho hg hpl
  go_wp2_with fail
  refine (HRd.out _ _ HV.out).mono ?_
  rintro e w6 ⟨rfl, hg⟩
  replace hC := hC.gr hg
  replace hG := hG.step hg
  replace HV := Lib.hid (HV.out.gr hg)
  clear hg
  have hQ := CL.new w6 P.vs 65 _ rfl
  have hgn := Gr.alloc (Gr.refl w6) (.cells P.vs.toArray 65)
  have hne : gp < w6.heap.size := hC.lt
  unfold Pr.vs at hQ hgn
  simp only [List.toArray] at hQ hgn
  go_upto_region 6 with fail
  generalize w6.alloc (.cells #[.int .u32 P.src, .int .u32 P.dst, .int .i64 P.proto, .int .i64 P.flow, .int .i64 P.tag, .int .i64 P.ttl] 65) = w7 at hQ hgn ⊢
  generalize w6.heap.size = gq at hQ hne ⊢
  replace hC := hC.gr hgn
  replace hG := hG.step hgn
  replace HV := Lib.hid (HV.out.gr hgn)
  clear hgn
  obtain ⟨⟨y0, y1, y2, y3, y4, y5⟩, -⟩ := CL.six hC
  obtain ⟨⟨z0, z1, z2, z3, z4, z5⟩, -⟩ := CL.six hQ
  go_wp2_with fail
  by_cases ht : P.ttl < 2
  · have d1 : decide ((P.ttl : Int) < 2) = true := by rw [decide_eq_true_eq]; omega
    have HL := Lib.hid (lower_low (h := P.hd) (d := P.data) (Pr.hd_ok HP.out) w7 HV.out (by have := (Pr.data_at HP.out).2.1; omega) ht)
    clear ht y0 y1 y2 y3 y4 y5 z0 z1 z2 z3 z4 z5
    refine HL.out.mono ?_
    rintro e w8 ⟨rfl, hg⟩
    obtain ⟨⟨y0, y1, y2, y3, y4, y5⟩, -⟩ := CL.six (hC.gr hg)
    go_wp2_with fail
    go_ret
    exact ⟨rfl, hG.step hg⟩
  · have d1 : decide ((P.ttl : Int) < 2) = false := by rw [decide_eq_false_iff_not]; omega
    have HL := Lib.hid (lower_enc (h := P.hd) (d := P.data) (Pr.hd_ok HP.out) w7 HV.out (by have := (Pr.data_at HP.out).2.1; omega) ht)
    have HR2 := Lib.hid (fun (v : Value) (w : World) (hv : Rb (fun _ => True) w v P.low.pk) => pRead_ok P.low (Pr.low_ok HP.out ht) w hv)
    have ht1 := HP.out.t1
    have HK := Lib.hid (Pr.pk_len (Pr.low_ok HP.out ht)).1
    rw [Pr.low_pk] at HL
    unfold Pr.v prV at HR2
    obtain ⟨T, hT⟩ : ∃ T, T = P.ttl - 1 := ⟨_, rfl⟩
    rw [show P.low.src = P.src from rfl, show P.low.dst = P.dst from rfl, show P.low.proto = P.proto from rfl, show P.low.flow = P.flow from rfl, show P.low.tag = P.tag from rfl, show P.low.ttl = T from hT.symm] at HR2
    have e1 : (P.ttl : Int) - 1 = (T : Int) := by omega
    have eW : IntKind.i64.wrap (T : Int) = (T : Int) := by rw [IntWalk.i64_in _ (by omega)]
    clear ht y0 y1 y2 y3 y4 y5 z0 z1 z2 z3 z4 z5 ht1 hT
    have hpl := hC.lt
    refine HL.out.mono ?_
    rintro e w8 ⟨v8, rfl, ho, hg⟩
    replace hC := hC.gr hg
    replace hQ := hQ.gr hg
    replace hG := hG.step hg
    have HV2 := Lib.hid (ho.rb.imp (q := fun b => b ≠ gp) (fun b _ hb => by omega))
    clear hpl
    obtain ⟨a8, c8, rfl, -, -⟩ := ho.rb.any.form
    generalize P.low.pk.length = K8 at *
    clear ho hg HL HV
    obtain ⟨⟨y0, y1, y2, y3, y4, y5⟩, u0, u1, u2, u3, u4, u5⟩ := CL.six hC
    go_upto_region 12 with fail
    clear y0 y1 y2 y3 y4 y5 u0 u1 u2 u3 u4 u5
    have hC2 := hC.set 5 (.int .i64 T) (by simp)
    replace hQ := hQ.other (s := gp) (o := 5) (.int .i64 T) (by omega)
    replace HV2 := (HV2.out.ex (Ex.set (Ex.refl gp w8) 5 (.int .i64 T)) (fun b hb => hb)).any
    replace hG := hG.setCell (p := ⟨gp, 5, none⟩) hle (.int .i64 T)
    simp only [List.set_cons_succ, List.set_cons_zero] at hC2
    generalize w8.setCell ⟨gp, 5, none⟩ (.int .i64 T) = w9 at hC2 hQ HV2 hG ⊢
    clear hC
    go_wp2_with fail
    refine (HR2.out _ _ HV2).mono ?_
    rintro e w10 ⟨rfl, hg⟩
    replace hC2 := hC2.gr hg
    replace hQ := hQ.gr hg
    replace hG := hG.step hg
    clear hg HV2
    obtain ⟨⟨z0, z1, z2, z3, z4, z5⟩, u0, u1, u2, u3, u4, u5⟩ := CL.six hQ
    go_upto_region 13 with fail
    clear z0 z1 z2 z3 z4 z5 u0 u1 u2 u3 u4 u5
    have hQF := hQ.fill [.int .u32 P.src, .int .u32 P.dst, .int .i64 P.proto, .int .i64 P.flow, .int .i64 P.tag, .int .i64 T] rfl
    have hCF := hC2.fillO (s := gq) (by omega) [.int .u32 P.src, .int .u32 P.dst, .int .i64 P.proto, .int .i64 P.flow, .int .i64 P.tag, .int .i64 T] 0
    have hGF := hG.fill (g := gq) (by omega) [.int .u32 P.src, .int .u32 P.dst, .int .i64 P.proto, .int .i64 P.flow, .int .i64 P.tag, .int .i64 T] 0
    simp only [fillC, Nat.reduceAdd] at hQF hCF hGF
    generalize (((((w10.setCell ⟨gq, 0, none⟩ (.int .u32 P.src)).setCell ⟨gq, 1, none⟩ (.int .u32 P.dst)).setCell ⟨gq, 2, none⟩ (.int .i64 P.proto)).setCell ⟨gq, 3, none⟩ (.int .i64 P.flow)).setCell ⟨gq, 4, none⟩ (.int .i64 P.tag)).setCell ⟨gq, 5, none⟩ (.int .i64 T) = wF at hQF hCF hGF ⊢
    obtain ⟨⟨y0, y1, y2, y3, y4, y5⟩, -⟩ := CL.six hCF
    obtain ⟨⟨z0, z1, z2, z3, z4, z5⟩, -⟩ := CL.six hQF
    go_wp2_with fail
    go_ret
    exact ⟨rfl, hGF⟩
end Go.Proofs.Ytlkhdbgknkjioaa
