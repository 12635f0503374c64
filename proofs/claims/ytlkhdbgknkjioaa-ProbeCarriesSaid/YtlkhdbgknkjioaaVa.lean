/- The walk of the statement on what probes carry. -/
import Derived.Test.YtlkhdbgknkjioaaUw
import Derived.WalkKit
import Derived.WalkSpells
import Derived.WalkLawsBesides
import Derived.WalkSmall
import Derived.Handy
import Derived.BigQuiet
import Derived.Deep.QuietTactic
import Derived.Deep.RegionHeld3
import Derived.Deep.DeepFit
import Derived.Below
import Derived.Lib.Hide
import Derived.Lib.QuietBelow
namespace Go.Proofs.Ytlkhdbgknkjioaa
open Go Go.RowKit Go.Sort
set_option maxRecDepth 100000
set_option linter.unusedVariables false
set_option linter.unusedSimpArgs false
set_option linter.unusedVariables false
theorem carries_walk (sv : Value) (len : Nat) (w : World) (hl : len ≤ 9223372036854775807) (hb : BytesV w.heap.size w sv len) :
    Calls Try.prog 8 #[sv] w fun e w' => e = .returned (.bool true) ∧ Gr w w' := by
  have HB := Lib.hid hb
  clear hb
  go_enter Try.func8, Try.ntmps8
  go_wp2_with fail
  refine (pawake_any _).mono ?_
  rintro e w1 ⟨rfl, hg⟩
  go_wp2_with fail
  refine (new_any sv len 80 _ (by omega) hl (HB.out.gr hg)).mono ?_
  rintro e w2 ⟨b, rfl, hbe, hc, hg2⟩
  have hbw : w.heap.size ≤ b := by have := Gr.size hg; omega
  have hG := hg.step hg2
  clear hbe hg2 hg HB hl
  go_wp2_with fail
  refine (right_any b _ hc).mono ?_
  rintro e w3 ⟨P, rfl, hP, hc', hx⟩
  replace hG := Ex.gr hG hbw hx
  replace hc := hc'
  clear hc' hx
  unfold Pr.v prV
  clear hc hbw
  have hC := CL.new w3 [.int .u32 P.src, .int .u32 P.dst, .int .i64 P.proto, .int .i64 P.flow, .int .i64 P.tag, .int .i64 P.ttl] 65 _ rfl
  have hgn := Gr.alloc (Gr.refl w3) (.cells #[.int .u32 P.src, .int .u32 P.dst, .int .i64 P.proto, .int .i64 P.flow, .int .i64 P.tag, .int .i64 P.ttl] 65)
  simp only [List.toArray] at hC
  have HBd := Lib.hid (fun w => pbuild_ok P hP w)
  have HDc := Lib.hid (fun (v : Value) (w : World) (hv : Rb (fun _ => True) w v (enc P.hd P.data)) => decode_enc (Pr.hd_ok hP) w hv (by have := (Pr.data_at hP).2.1; omega))
  unfold Pr.v prV at HBd
  unfold Hd.p pkV Pr.hd at HDc
  simp only at HDc
  have HP := Lib.hid hP
  have HDL := Lib.hid (Pr.data_at hP).2.1
  clear hP
  go_upto_region 4 with fail
  generalize w3.alloc (.cells #[.int .u32 P.src, .int .u32 P.dst, .int .i64 P.proto, .int .i64 P.flow, .int .i64 P.tag, .int .i64 P.ttl] 65) = w4 at hC hgn ⊢
  generalize w3.heap.size = gp at hC ⊢
  replace hG := hG.step hgn
  clear hgn
  obtain ⟨⟨y0, y1, y2, y3, y4, y5⟩, -⟩ := CL.six hC
  go_wp2_with fail
  refine (HBd.out _).mono ?_
  rintro e w5 ⟨v5, rfl, ho, hg⟩
  clear y0 y1 y2 y3 y4 y5
  replace hC := hC.gr hg
  replace hG := hG.step hg
  have HV := Lib.hid (HDc.out _ _ ho.rb.any)
  obtain ⟨a5, c5, rfl, -, -⟩ := ho.rb.any.form
  generalize P.pk.length = K at *
  clear ho hg HDc HBd
  go_wp2_with fail
  refine HV.out.mono ?_
  rintro e w6 ⟨v6, rfl, ho, hg⟩
  replace hC := hC.gr hg
  replace hG := hG.step hg
  have HR := Lib.hid ho.rb.any
  obtain ⟨a6, c6, rfl, -, -⟩ := ho.rb.any.form
  have HM := Lib.hid (Eq.refl P.data.length)
  generalize P.data.length = M at *
  clear ho hg HV
  have hX := CL.new w6 [.int .i64 0, .int .i64 P.tag, .int .i64 P.ttl, .int .i64 P.proto, .bool true, .int .u32 P.src, .int .u32 P.dst, .slice a6 M c6] 85 _ rfl
  have hgn := Gr.alloc (Gr.refl w6) (.cells #[.int .i64 0, .int .i64 P.tag, .int .i64 P.ttl, .int .i64 P.proto, .bool true, .int .u32 P.src, .int .u32 P.dst, .slice a6 M c6] 85)
  simp only [List.toArray] at hX
  go_upto_region 6 with fail
  generalize w6.alloc (.cells #[.int .i64 0, .int .i64 P.tag, .int .i64 P.ttl, .int .i64 P.proto, .bool true, .int .u32 P.src, .int .u32 P.dst, .slice a6 M c6] 85) = w7 at hX hgn ⊢
  generalize w6.heap.size = gx at hX ⊢
  replace hC := hC.gr hgn
  replace hG := hG.step hgn
  replace HR := Lib.hid (HR.out.gr hgn)
  clear hgn HM
  obtain ⟨⟨y0, y1, y2, y3, y4, y5⟩, -⟩ := CL.six hC
  obtain ⟨⟨z0, z1, z2, z3, z4, z5, z6, z7⟩, -⟩ := hX.eight
  have hf := HP.out.flow
  have ht := HP.out.tag
  rcases HP.out.proto with h | h | h
  · have d1 : ((P.proto : Int) == 17) = false := by rw [h]; rfl
    have d2 : ((P.proto : Int) == 1) = true := by rw [h]; rfl
    have HA := Lib.hid (ic_at (t := P.tag) (f := P.flow) (by omega) hf)
    obtain ⟨W, hW⟩ : ∃ W, W = 16384 + P.flow := ⟨_, rfl⟩
    have eW : (16384 : Int) + (P.flow : Int) = (W : Int) := by omega
    have wW : IntKind.i64.wrap (W : Int) = (W : Int) := by rw [IntWalk.i64_in _ (by omega)]
    rw [Pr.data_icmp h] at HR
    have HG := Lib.hid (fun w' (hv : Rb (fun _ => True) w' (.slice a6 M c6) (icL P.tag P.flow)) => get_gN 2 2 w' hv (by omega) (by omega) (by rw [HA.out.1]; omega) W (by rw [hW]; exact HA.out.2.2.symm))
    have HD := Lib.hid (echo_dec (r := false) (a := 21075) (b := P.tag) (d := bput (icN P.tag P.flow) 2) w7 HR.out (by decide) (by omega) (by rw [bput_len]; omega))
    clear h HA hW hf ht HDL HP
    go_wp2_with fail
    refine HD.out.mono ?_
    rintro e w8 ⟨v8, rfl, ho, hg⟩
    clear y0 y1 y2 y3 y4 y5 z0 z1 z2 z3 z4 z5 z6 z7
    replace hC := hC.gr hg
    replace hX := hX.gr hg
    replace hG := hG.step hg
    replace HR := Lib.hid (HR.out.gr hg)
    clear hg HD
    have h2 : (bput (icN P.tag P.flow) 2).length = 2 := bput_len _ _
    obtain ⟨a8, c8, rfl, -, -⟩ := ho.rb.any.form
    rw [h2]
    clear ho h2
    have hE := CL.new w8 [.bool false, .int .i64 21075, .int .i64 P.tag, .slice a8 2 c8] 36 _ rfl
    have hgn := Gr.alloc (Gr.refl w8) (.cells #[.bool false, .int .i64 21075, .int .i64 P.tag, .slice a8 2 c8] 36)
    simp only [List.toArray] at hE
    go_upto_region 15 with fail
    generalize w8.alloc (.cells #[.bool false, .int .i64 21075, .int .i64 P.tag, .slice a8 2 c8] 36) = w9 at hE hgn ⊢
    generalize w8.heap.size = ge at hE ⊢
    replace hC := hC.gr hgn
    replace hX := hX.gr hgn
    replace hG := hG.step hgn
    replace HG := Lib.hid (HG.out _ (HR.out.gr hgn))
    clear hgn HR
    obtain ⟨⟨y0, y1, y2, y3, y4, y5⟩, -⟩ := CL.six hC
    obtain ⟨⟨z0, z1, z2, z3, z4, z5, z6, z7⟩, -⟩ := hX.eight
    obtain ⟨⟨x0, x1, x2, x3⟩, -⟩ := hE.four
    go_wp2_with fail
    refine HG.out.mono ?_
    rintro e wa ⟨rfl, rfl⟩
    go_wp2_with fail
    go_ret
    exact ⟨rfl, hG⟩
  · have d1 : ((P.proto : Int) == 17) = true := by rw [h]; rfl
    have HA := Lib.hid (ud_at P.src P.dst (t := P.tag) (f := P.flow) hf ht)
    obtain ⟨W, hW⟩ : ∃ W, W = P.tag + 1 := ⟨_, rfl⟩
    have eW : (P.tag : Int) + 1 = (W : Int) := by omega
    have wW : IntKind.i64.wrap (W : Int) = (W : Int) := by rw [IntWalk.i64_in _ (by omega)]
    rw [Pr.data_udp h] at HR
    have HG := Lib.hid (fun w' (hv : Rb (fun _ => True) w' (.slice a6 M c6) (udL P.src P.dst P.flow P.tag)) => get_gN 6 2 w' hv (by omega) (by omega) (by rw [HA.out.1]; omega) W (by rw [hW]; exact HA.out.2.2.2.symm))
    have HD := Lib.hid (udp_dec (src := P.src) (dst := P.dst) (sp := 20000 + P.flow) (dp := 33434) (d := bput (udN P.src P.dst P.flow P.tag) 2) w7 HR.out HP.out.src HP.out.dst (by omega) (by decide) (by rw [bput_len]; omega))
    obtain ⟨S, hS⟩ : ∃ S, S = 20000 + P.flow := ⟨_, rfl⟩
    rw [← hS] at HD
    clear h HA hW hf ht HDL HP hS
    go_wp2_with fail
    refine HD.out.mono ?_
    rintro e w8 ⟨v8, rfl, ho, hg⟩
    clear y0 y1 y2 y3 y4 y5 z0 z1 z2 z3 z4 z5 z6 z7
    replace hC := hC.gr hg
    replace hX := hX.gr hg
    replace hG := hG.step hg
    replace HR := Lib.hid (HR.out.gr hg)
    clear hg HD
    have h2 : (bput (udN P.src P.dst P.flow P.tag) 2).length = 2 := bput_len _ _
    obtain ⟨a8, c8, rfl, -, -⟩ := ho.rb.any.form
    rw [h2]
    clear ho h2
    have hE := CL.new w8 [.int .i64 S, .int .i64 33434, .slice a8 2 c8] 41 _ rfl
    have hgn := Gr.alloc (Gr.refl w8) (.cells #[.int .i64 S, .int .i64 33434, .slice a8 2 c8] 41)
    simp only [List.toArray] at hE
    go_upto_region 11 with fail
    generalize w8.alloc (.cells #[.int .i64 S, .int .i64 33434, .slice a8 2 c8] 41) = w9 at hE hgn ⊢
    generalize w8.heap.size = ge at hE ⊢
    replace hC := hC.gr hgn
    replace hX := hX.gr hgn
    replace hG := hG.step hgn
    replace HG := Lib.hid (HG.out _ (HR.out.gr hgn))
    clear hgn HR
    obtain ⟨⟨y0, y1, y2, y3, y4, y5⟩, -⟩ := CL.six hC
    obtain ⟨⟨z0, z1, z2, z3, z4, z5, z6, z7⟩, -⟩ := hX.eight
    obtain ⟨⟨x0, x1, x2⟩, -⟩ := hE.three
    go_wp2_with fail
    refine HG.out.mono ?_
    rintro e wa ⟨rfl, rfl⟩
    go_wp2_with fail
    go_ret
    exact ⟨rfl, hG⟩
  · have d1 : ((P.proto : Int) == 17) = false := by rw [h]; rfl
    have d2 : ((P.proto : Int) == 1) = false := by rw [h]; rfl
    rw [Pr.data_tcp h] at HR
    have HD := Lib.hid (tcp_dec (src := P.src) (dst := P.dst) (sp := 20000 + P.flow) (dp := 80) (sq := P.tag) (ak := 0) (fl := 2) (wi := 1024) (d := []) w7 HR.out HP.out.src HP.out.dst (by omega) (by decide) (by omega) (by decide) (by decide) (by decide) (by simp))
    obtain ⟨S, hS⟩ : ∃ S, S = 20000 + P.flow := ⟨_, rfl⟩
    rw [← hS] at HD
    clear h hf ht HDL HP hS
    go_wp2_with fail
    refine HD.out.mono ?_
    rintro e w8 ⟨v8, rfl, ho, hg⟩
    clear y0 y1 y2 y3 y4 y5 z0 z1 z2 z3 z4 z5 z6 z7
    replace hC := hC.gr hg
    replace hX := hX.gr hg
    replace hG := hG.step hg
    replace HR := Lib.hid (HR.out.gr hg)
    clear hg HD
    obtain ⟨a8, c8, rfl, -, -⟩ := ho.rb.any.form
    simp only [List.length_nil]
    clear ho
    have hE := CL.new w8 [.int .i64 S, .int .i64 80, .int .i64 P.tag, .int .i64 0, .int .i64 2, .int .i64 1024, .slice a8 0 c8] 44 _ rfl
    have hgn := Gr.alloc (Gr.refl w8) (.cells #[.int .i64 S, .int .i64 80, .int .i64 P.tag, .int .i64 0, .int .i64 2, .int .i64 1024, .slice a8 0 c8] 44)
    simp only [List.toArray] at hE
    go_upto_region 18 with fail
    generalize w8.alloc (.cells #[.int .i64 S, .int .i64 80, .int .i64 P.tag, .int .i64 0, .int .i64 2, .int .i64 1024, .slice a8 0 c8] 44) = w9 at hE hgn ⊢
    generalize w8.heap.size = ge at hE ⊢
    replace hC := hC.gr hgn
    replace hX := hX.gr hgn
    replace hG := hG.step hgn
    clear hgn HR
    obtain ⟨⟨y0, y1, y2, y3, y4, y5⟩, -⟩ := CL.six hC
    obtain ⟨⟨z0, z1, z2, z3, z4, z5, z6, z7⟩, -⟩ := hX.eight
    obtain ⟨⟨x0, x1, x2, x3, x4, x5, x6⟩, -⟩ := hE.seven
    go_wp2_with fail
    go_ret
    exact ⟨rfl, hG⟩
end Go.Proofs.Ytlkhdbgknkjioaa
