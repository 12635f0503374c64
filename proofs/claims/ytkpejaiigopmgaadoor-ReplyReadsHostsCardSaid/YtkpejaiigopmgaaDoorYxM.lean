/- The walk of the statement on answers of hosts that are read back. -/
import Derived.Test.YtkpejaiigopmgaaDoorYvM
import Derived.WalkKit
import Derived.WalkSpells
import Derived.WalkLawsBesides
import Derived.WalkSmall
import Derived.Handy
import Derived.BigQuiet
import Derived.Deep.QuietTactic
import Derived.Deep.RegionHeld3
import Derived.Deep.DeepFit
import Derived.Below
import Derived.Lib.Hide
import Derived.Lib.QuietBelow
namespace Go.Proofs.YtkpejaiigopmgaaDoor
open Go Go.RowKit Go.Sort
set_option maxRecDepth 100000
set_option linter.unusedVariables false
set_option linter.unusedSimpArgs false
theorem read_host_icmp {p : Nat → Prop} {v : Value} (P : Pr) (id left : Nat) (w : World) (k : P.ok) (hi : id ≤ 65535) (hl : left ≤ 255) (hr : Rb p w v (hostL P P.dst id left)) (hp : P.proto = 1) :
    Calls Tryd.prog 12 #[v] w fun e w' => e = .returned (.tuple #[.agg #[.int .u32 P.src, .int .u32 P.dst, .int .i64 P.proto, .int .i64 P.flow, .int .i64 P.tag, .int .i64 0], .agg #[.int .u32 P.dst, .int .i64 2, .int .i64 0, .int .i64 left, .int .i64 id, .int .i64 0], .int .i64 0]) ∧ Gr w w' := by
  rw [hostL_icmp hp] at hr
  unfold echL at hr
  rw [show ans 1 id left P.dst P.src = ans P.proto id left P.dst P.src by rw [hp]] at hr
  exact read_echo (ans P.proto id left P.dst P.src) P.tag P.flow w (ans_ok (by omega) hi hl k.dst k.src) k.tag k.flow hp hr
theorem read_host_tcp {p : Nat → Prop} {v : Value} (P : Pr) (id left : Nat) (w : World) (k : P.ok) (hi : id ≤ 65535) (hl : left ≤ 255) (hr : Rb p w v (hostL P P.dst id left)) (hp : P.proto = 6) :
    Calls Tryd.prog 12 #[v] w fun e w' => e = .returned (.tuple #[.agg #[.int .u32 P.src, .int .u32 P.dst, .int .i64 P.proto, .int .i64 P.flow, .int .i64 P.tag, .int .i64 0], .agg #[.int .u32 P.dst, .int .i64 4, .int .i64 0, .int .i64 left, .int .i64 id, .int .i64 0], .int .i64 0]) ∧ Gr w w' := by
  rw [hostL_tcp hp] at hr
  unfold rstL at hr
  rw [show ans 6 id left P.dst P.src = ans P.proto id left P.dst P.src by rw [hp]] at hr
  exact read_reset (ans P.proto id left P.dst P.src) P w (ans_ok (by omega) hi hl k.dst k.src) k hp rfl hr
theorem read_host_udp {p : Nat → Prop} {v : Value} (P : Pr) (id left : Nat) (w : World) (k : P.ok) (hi : id ≤ 65535) (hl : left ≤ 255) (hr : Rb p w v (hostL P P.dst id left)) (hp : P.proto = 17) :
    Calls Tryd.prog 12 #[v] w fun e w' => e = .returned (.tuple #[.agg #[.int .u32 P.src, .int .u32 P.dst, .int .i64 P.proto, .int .i64 P.flow, .int .i64 P.tag, .int .i64 0], .agg #[.int .u32 P.dst, .int .i64 3, .int .i64 3, .int .i64 left, .int .i64 id, .int .i64 P.ttl], .int .i64 0]) ∧ Gr w w' := by
  rw [hostL_udp hp] at hr
  exact read_note (ans 1 id left P.dst P.src) P 3 3 w (ans_ok (by decide) hi hl k.dst k.src) k rfl rfl hr (.inl rfl) (by decide) 3 rfl
set_option maxHeartbeats 4000000 in
theorem hosts_walk (sv : Value) (len id left : Nat) (w : World) (hl : len ≤ 9223372036854775807) (hb : BytesV w.heap.size w sv len) (ht : SpTab w) (hi : id ≤ 65535) (hle' : left ≤ 255) :
    Calls Tryd.prog 4 #[sv, .int .u16 id, .int .u8 left] w fun e w' => e = .returned (.bool true) ∧ Gr w w' := by
  have HT := Lib.hid ht
  have el : IntKind.i64.wrap (left : Int) = (left : Int) := by rw [IntWalk.i64_in _ (by omega)]
  have ei : IntKind.i64.wrap (id : Int) = (id : Int) := by rw [IntWalk.i64_in _ (by omega)]
  have HI := Lib.hid hi
  have HL := Lib.hid hle'
  clear hi hle'
  have HB := Lib.hid hb
  clear hb
  go_enter Tryd.func4, Tryd.ntmps4
  go_wp2_with fail
  refine (awake_any _ ht).mono ?_
  rintro e w1 ⟨rfl, hg⟩
  go_wp2_with fail
  refine (new_any sv len 80 _ (by omega) hl (HB.out.gr hg)).mono ?_
  rintro e w2 ⟨b, rfl, hbe, hc, hg2⟩
  have hbw : w.heap.size ≤ b := by have := Gr.size hg; omega
  have hG := hg.step hg2
  clear hbe hg2 hg HB hl
  go_wp2_with fail
  refine (right_any b _ hc).mono ?_
  rintro e w3 ⟨P, rfl, hP, hc', hx⟩
  replace hG := Ex.gr hG hbw hx
  replace hc := hc'
  clear hc' hx
  unfold Pr.v prV
  clear ht hc hbw
  have hC := CL.new w3 P.vs 30 _ rfl
  have hgn := Gr.alloc (Gr.refl w3) (.cells P.vs.toArray 30)
  unfold Pr.vs at hC hgn
  simp only [List.toArray] at hC hgn
  have HBd := Lib.hid (fun w => pbuild_ok P hP w)
  unfold Pr.v prV at HBd
  have HP := Lib.hid hP
  clear hP
  go_upto_region 4 with fail
  have hle : w.heap.size ≤ w3.heap.size := Gr.size hG
  generalize w3.alloc (.cells #[.int .u32 P.src, .int .u32 P.dst, .int .i64 P.proto, .int .i64 P.flow, .int .i64 P.tag, .int .i64 P.ttl] 30) = w4 at hC hgn ⊢
  generalize w3.heap.size = gp at hC hle ⊢
  replace hG := hG.step hgn
  clear hgn
  obtain ⟨⟨y0, y1, y2, y3, y4, y5⟩, -⟩ := CL.six hC
  go_wp2_with fail
  refine (HBd.out _).mono ?_
  rintro e w5 ⟨v5, rfl, ho, hg⟩
  clear y0 y1 y2 y3 y4 y5
  replace hC := hC.gr hg
  replace hG := hG.step hg
  by_cases hu : usb P.src
  · have HH := Lib.hid (rhost_ok P P.dst id left w5 HP.out ho.rb.any (HT.out.gr hG) hu HI.out HL.out HP.out.dst)
    have HU := Lib.hid (fun w => usable_any P.src w HP.out.src true ⟨fun _ => hu, fun _ => rfl⟩)
    obtain ⟨a5, c5, rfl, -, -⟩ := ho.rb.any.form
    generalize P.pk.length = N5 at *
    clear ho hg hu HBd
    obtain ⟨⟨y0, y1, y2, y3, y4, y5⟩, -⟩ := CL.six hC
    go_wp2_with fail
    refine HH.out.mono ?_
    rintro e w8 ⟨v8, rfl, ho, hg⟩
    clear y0 y1 y2 y3 y4 y5
    replace hC := hC.gr hg
    replace hG := hG.step hg
    clear hg HH
    rcases HP.out.proto with hp | hp | hp
    · have d6 : ((P.proto : Int) == 6) = false := by rw [hp]; rfl
      have d17 : ((P.proto : Int) == 17) = false := by rw [hp]; rfl
      have HPp := Lib.hid hp
      clear hp
      have HRd := Lib.hid (fun (w' : World) (g : Gr w8 w') => read_host_icmp P id left w' HP.out HI.out HL.out (ho.rb.any.gr g) HPp.out)
      obtain ⟨a8, c8, rfl, -, -⟩ := ho.rb.form
      generalize (hostL P P.dst id left).length = N8 at *
      clear ho
      obtain ⟨⟨y0, y1, y2, y3, y4, y5⟩, -⟩ := CL.six hC
      go_wp2_with fail
      refine (HU.out _).mono ?_
      rintro e w9 ⟨rfl, hgU⟩
      clear y0 y1 y2 y3 y4 y5
      replace hC := hC.gr hgU
      replace hG := hG.step hgU
      go_wp2_with fail
      refine (HRd.out _ hgU).mono ?_
      rintro e w10 ⟨rfl, hg⟩
      replace hC := hC.gr hg
      replace hG := hG.step hg
      clear hg hgU HRd
      have hA1 := CL.new w10 [.int .u32 P.src, .int .u32 P.dst, .int .i64 P.proto, .int .i64 P.flow, .int .i64 P.tag, .int .i64 0] 30 _ rfl
      have hg1 := Gr.alloc (Gr.refl w10) (.cells #[.int .u32 P.src, .int .u32 P.dst, .int .i64 P.proto, .int .i64 P.flow, .int .i64 P.tag, .int .i64 0] 30)
      have hA2 := CL.new (w10.alloc (.cells #[.int .u32 P.src, .int .u32 P.dst, .int .i64 P.proto, .int .i64 P.flow, .int .i64 P.tag, .int .i64 0] 30)) [.int .u32 P.dst, .int .i64 2, .int .i64 0, .int .i64 left, .int .i64 id, .int .i64 0] 40 (w10.heap.size + 1) (by simp)
      have hg2 := Gr.alloc (Gr.refl (w10.alloc (.cells #[.int .u32 P.src, .int .u32 P.dst, .int .i64 P.proto, .int .i64 P.flow, .int .i64 P.tag, .int .i64 0] 30))) (.cells #[.int .u32 P.dst, .int .i64 2, .int .i64 0, .int .i64 left, .int .i64 id, .int .i64 0] 40)
      simp only [List.toArray] at hA1 hA2
      have hlp := hC.lt
      replace hA1 := hA1.gr hg2
      replace hC := (hC.gr hg1).gr hg2
      replace hG := (hG.step hg1).step hg2
      clear hg1 hg2
      go_upto_region 9 with fail
      generalize (w10.alloc (.cells #[.int .u32 P.src, .int .u32 P.dst, .int .i64 P.proto, .int .i64 P.flow, .int .i64 P.tag, .int .i64 0] 30)).alloc (.cells #[.int .u32 P.dst, .int .i64 2, .int .i64 0, .int .i64 left, .int .i64 id, .int .i64 0] 40) = w11 at hA1 hA2 hC hG ⊢
      generalize w10.heap.size = gq at hA1 hA2 hlp ⊢
      generalize hgq : gq + 1 = gr at hA2 ⊢
      have hrl := hA2.lt
      have hlq : gp < gr := by omega
      have hqr : gq < gr := by omega
      clear hgq
      obtain ⟨⟨y0, y1, y2, y3, y4, y5⟩, -⟩ := CL.six hC
      have hW := CL.new w11 [.int .u32 P.dst, .int .i64 2, .int .i64 0, .int .i64 left, .int .i64 id, .int .i64 0] 40 _ rfl
      have hg1 := Gr.alloc (Gr.refl w11) (.cells #[.int .u32 P.dst, .int .i64 2, .int .i64 0, .int .i64 left, .int .i64 id, .int .i64 0] 40)
      simp only [List.toArray] at hW
      go_upto_region 10 with fail
      clear y0 y1 y2 y3 y4 y5
      replace hA1 := hA1.gr hg1
      replace hA2 := hA2.gr hg1
      replace hC := hC.gr hg1
      replace hG := hG.step hg1
      have hgw := Gr.size hG
      generalize w11.alloc (.cells #[.int .u32 P.dst, .int .i64 2, .int .i64 0, .int .i64 left, .int .i64 id, .int .i64 0] 40) = w12 at hA1 hA2 hC hG hW hgw hg1 ⊢
      have hlw : w.heap.size ≤ w11.heap.size := by omega
      generalize w11.heap.size = gw at hW hrl hlw ⊢
      clear hg1 hgw
      obtain ⟨⟨y0, y1, y2, y3, y4, y5⟩, -⟩ := CL.six hC
      go_upto_region 14 with fail
      clear y0 y1 y2 y3 y4 y5
      obtain ⟨⟨y0, y1, y2, y3, y4, y5⟩, u0, u1, u2, u3, u4, u5⟩ := CL.six hC
      go_upto_region 15 with fail
      clear y0 y1 y2 y3 y4 y5 u0 u1 u2 u3 u4 u5
      replace hC := hC.set 5 (.int .i64 0) (by simp)
      replace hA1 := hA1.other (s := gp) (o := 5) (.int .i64 0) (by omega)
      replace hA2 := hA2.other (s := gp) (o := 5) (.int .i64 0) (by omega)
      replace hW := hW.other (s := gp) (o := 5) (.int .i64 0) (by omega)
      replace hG := hG.setCell (p := ⟨gp, 5, none⟩) hle (.int .i64 0)
      simp only [List.set_cons_succ, List.set_cons_zero] at hC
      generalize w12.setCell ⟨gp, 5, none⟩ (.int .i64 0) = w20 at hA1 hA2 hW hC hG ⊢
      obtain ⟨⟨y0, y1, y2, y3, y4, y5⟩, -⟩ := CL.six hC
      obtain ⟨⟨x0, x1, x2, x3, x4, x5⟩, -⟩ := CL.six hA1
      obtain ⟨⟨z0, z1, z2, z3, z4, z5⟩, -⟩ := CL.six hA2
      obtain ⟨⟨q0, q1, q2, q3, q4, q5⟩, -⟩ := CL.six hW
      go_wp2_with fail
      go_ret
      exact ⟨rfl, hG⟩
    · have d6 : ((P.proto : Int) == 6) = false := by rw [hp]; rfl
      have d17 : ((P.proto : Int) == 17) = true := by rw [hp]; rfl
      have HPp := Lib.hid hp
      clear hp
      have HRd := Lib.hid (fun (w' : World) (g : Gr w8 w') => read_host_udp P id left w' HP.out HI.out HL.out (ho.rb.any.gr g) HPp.out)
      obtain ⟨a8, c8, rfl, -, -⟩ := ho.rb.form
      generalize (hostL P P.dst id left).length = N8 at *
      clear ho
      obtain ⟨⟨y0, y1, y2, y3, y4, y5⟩, -⟩ := CL.six hC
      go_wp2_with fail
      refine (HU.out _).mono ?_
      rintro e w9 ⟨rfl, hgU⟩
      clear y0 y1 y2 y3 y4 y5
      replace hC := hC.gr hgU
      replace hG := hG.step hgU
      go_wp2_with fail
      refine (HRd.out _ hgU).mono ?_
      rintro e w10 ⟨rfl, hg⟩
      replace hC := hC.gr hg
      replace hG := hG.step hg
      clear hg hgU HRd
      have hA1 := CL.new w10 [.int .u32 P.src, .int .u32 P.dst, .int .i64 P.proto, .int .i64 P.flow, .int .i64 P.tag, .int .i64 0] 30 _ rfl
      have hg1 := Gr.alloc (Gr.refl w10) (.cells #[.int .u32 P.src, .int .u32 P.dst, .int .i64 P.proto, .int .i64 P.flow, .int .i64 P.tag, .int .i64 0] 30)
      have hA2 := CL.new (w10.alloc (.cells #[.int .u32 P.src, .int .u32 P.dst, .int .i64 P.proto, .int .i64 P.flow, .int .i64 P.tag, .int .i64 0] 30)) [.int .u32 P.dst, .int .i64 3, .int .i64 3, .int .i64 left, .int .i64 id, .int .i64 P.ttl] 40 (w10.heap.size + 1) (by simp)
      have hg2 := Gr.alloc (Gr.refl (w10.alloc (.cells #[.int .u32 P.src, .int .u32 P.dst, .int .i64 P.proto, .int .i64 P.flow, .int .i64 P.tag, .int .i64 0] 30))) (.cells #[.int .u32 P.dst, .int .i64 3, .int .i64 3, .int .i64 left, .int .i64 id, .int .i64 P.ttl] 40)
      simp only [List.toArray] at hA1 hA2
      have hlp := hC.lt
      replace hA1 := hA1.gr hg2
      replace hC := (hC.gr hg1).gr hg2
      replace hG := (hG.step hg1).step hg2
      clear hg1 hg2
      go_upto_region 9 with fail
      generalize (w10.alloc (.cells #[.int .u32 P.src, .int .u32 P.dst, .int .i64 P.proto, .int .i64 P.flow, .int .i64 P.tag, .int .i64 0] 30)).alloc (.cells #[.int .u32 P.dst, .int .i64 3, .int .i64 3, .int .i64 left, .int .i64 id, .int .i64 P.ttl] 40) = w11 at hA1 hA2 hC hG ⊢
      generalize w10.heap.size = gq at hA1 hA2 hlp ⊢
      generalize hgq : gq + 1 = gr at hA2 ⊢
      have hrl := hA2.lt
      have hlq : gp < gr := by omega
      have hqr : gq < gr := by omega
      clear hgq
      obtain ⟨⟨y0, y1, y2, y3, y4, y5⟩, -⟩ := CL.six hC
      have hW := CL.new w11 [.int .u32 P.dst, .int .i64 2, .int .i64 0, .int .i64 left, .int .i64 id, .int .i64 0] 40 _ rfl
      have hg1 := Gr.alloc (Gr.refl w11) (.cells #[.int .u32 P.dst, .int .i64 2, .int .i64 0, .int .i64 left, .int .i64 id, .int .i64 0] 40)
      simp only [List.toArray] at hW
      go_upto_region 10 with fail
      clear y0 y1 y2 y3 y4 y5
      replace hA1 := hA1.gr hg1
      replace hA2 := hA2.gr hg1
      replace hC := hC.gr hg1
      replace hG := hG.step hg1
      have hgw := Gr.size hG
      generalize w11.alloc (.cells #[.int .u32 P.dst, .int .i64 2, .int .i64 0, .int .i64 left, .int .i64 id, .int .i64 0] 40) = w12 at hA1 hA2 hC hG hW hgw hg1 ⊢
      have hlw : w.heap.size ≤ w11.heap.size := by omega
      generalize w11.heap.size = gw at hW hrl hlw ⊢
      clear hg1 hgw
      obtain ⟨⟨y0, y1, y2, y3, y4, y5⟩, -⟩ := CL.six hC
      go_upto_region 13 with fail
      clear y0 y1 y2 y3 y4 y5
      replace hA1 := hA1.gr (Gr.drew (Gr.refl _))
      replace hA2 := hA2.gr (Gr.drew (Gr.refl _))
      replace hW := hW.gr (Gr.drew (Gr.refl _))
      replace hC := hC.gr (Gr.drew (Gr.refl _))
      replace hG := hG.step (Gr.drew (Gr.refl _))
      refine region_plain (Ex gw w12.drew) (by kernel_rfl) ?_
      generalize w12.drew = w13 at hA1 hA2 hW hC hG ⊢
      have hS : Ex gw w13 w13 := Ex.refl _ _
      have HC := Lib.hid hC
      have hne : gp ≠ gw := by omega
      refine take_at 0 (some 63) (v := ?vu0) rfl rfl (by kernel_rfl) (by kernel_rfl) (by kernel_rfl) (by rfl) ?yu0 hS ?tu0
      case yu0 =>
        intro w' hSw
        obtain - := hSw
        go_simp
        (try with_reducible rfl)
      simp only [Act.put, List.setIfInBounds_toArray, List.set_cons_zero, List.set_cons_succ]
      refine take_at 1 (some 64) (v := ?vu1) rfl rfl (by kernel_rfl) (by kernel_rfl) (by kernel_rfl) (by rfl) ?yu1 hS ?tu1
      case yu1 =>
        intro w' hSw
        obtain ⟨⟨y0, y1, y2, y3, y4, y5⟩, -⟩ := CL.six (HC.out.ex hSw hne)
        go_simp
        (try with_reducible rfl)
      simp only [Act.put, List.setIfInBounds_toArray, List.set_cons_zero, List.set_cons_succ]
      refine take_at 2 (some 65) (v := ?vu2) rfl rfl (by kernel_rfl) (by kernel_rfl) (by kernel_rfl) (by rfl) ?yu2 hS ?tu2
      case yu2 =>
        intro w' hSw
        obtain - := hSw
        go_simp
        (try with_reducible rfl)
      simp only [Act.put, List.setIfInBounds_toArray, List.set_cons_zero, List.set_cons_succ]
      have hW2 := hW.set 1 (.int .i64 3) (by simp)
      have hS2 := hS.set 1 (.int .i64 3)
      have hA12 := hA1.other (s := gw) (o := 1) (.int .i64 3) (by omega)
      have hA22 := hA2.other (s := gw) (o := 1) (.int .i64 3) (by omega)
      have hC2 := hC.other (s := gw) (o := 1) (.int .i64 3) (by omega)
      have hG2 := hG.setCell (p := ⟨gw, 1, none⟩) hlw (.int .i64 3)
      simp only [List.set_cons_succ, List.set_cons_zero] at hW2
      obtain ⟨⟨x0, x1, x2, x3, x4, x5⟩, u0, u1, u2, u3, u4, u5⟩ := CL.six hW
      refine next_at 3 rfl (by kernel_rfl) (by rfl) (fun K hK => ?_)
      go_simp
      refine hK _ _ hS2 ?_
      clear hK K x0 x1 x2 x3 x4 x5 u0 u1 u2 u3 u4 u5 hW hS hA1 hA2 hC hG
      have hW := hW2
      have hS := hS2
      have hA1 := hA12
      have hA2 := hA22
      have hC := hC2
      have hG := hG2
      clear hW2 hS2 hA12 hA22 hC2 hG2
      generalize w13.setCell ⟨gw, 1, none⟩ (.int .i64 3) = w14 at hW hS hA1 hA2 hC hG ⊢
      refine take_at 4 (some 66) (v := ?vu4) rfl rfl (by kernel_rfl) (by kernel_rfl) (by kernel_rfl) (by rfl) ?yu4 hS ?tu4
      case yu4 =>
        intro w' hSw
        obtain - := hSw
        go_simp
        (try with_reducible rfl)
      simp only [Act.put, List.setIfInBounds_toArray, List.set_cons_zero, List.set_cons_succ]
      have hW2 := hW.set 2 (.int .i64 3) (by simp)
      have hS2 := hS.set 2 (.int .i64 3)
      have hA12 := hA1.other (s := gw) (o := 2) (.int .i64 3) (by omega)
      have hA22 := hA2.other (s := gw) (o := 2) (.int .i64 3) (by omega)
      have hC2 := hC.other (s := gw) (o := 2) (.int .i64 3) (by omega)
      have hG2 := hG.setCell (p := ⟨gw, 2, none⟩) hlw (.int .i64 3)
      simp only [List.set_cons_succ, List.set_cons_zero] at hW2
      obtain ⟨⟨x0, x1, x2, x3, x4, x5⟩, u0, u1, u2, u3, u4, u5⟩ := CL.six hW
      refine next_at 5 rfl (by kernel_rfl) (by rfl) (fun K hK => ?_)
      go_simp
      refine hK _ _ hS2 ?_
      clear hK K x0 x1 x2 x3 x4 x5 u0 u1 u2 u3 u4 u5 hW hS hA1 hA2 hC hG
      have hW := hW2
      have hS := hS2
      have hA1 := hA12
      have hA2 := hA22
      have hC := hC2
      have hG := hG2
      clear hW2 hS2 hA12 hA22 hC2 hG2
      generalize w14.setCell ⟨gw, 2, none⟩ (.int .i64 3) = w15 at hW hS hA1 hA2 hC hG ⊢
      refine take_at 6 (some 67) (v := ?vu6) rfl rfl (by kernel_rfl) (by kernel_rfl) (by kernel_rfl) (by rfl) ?yu6 hS ?tu6
      case yu6 =>
        intro w' hSw
        obtain - := hSw
        go_simp
        (try with_reducible rfl)
      simp only [Act.put, List.setIfInBounds_toArray, List.set_cons_zero, List.set_cons_succ]
      have hW2 := hW.set 5 (.int .i64 P.ttl) (by simp)
      have hS2 := hS.set 5 (.int .i64 P.ttl)
      have hA12 := hA1.other (s := gw) (o := 5) (.int .i64 P.ttl) (by omega)
      have hA22 := hA2.other (s := gw) (o := 5) (.int .i64 P.ttl) (by omega)
      have hC2 := hC.other (s := gw) (o := 5) (.int .i64 P.ttl) (by omega)
      have hG2 := hG.setCell (p := ⟨gw, 5, none⟩) hlw (.int .i64 P.ttl)
      simp only [List.set_cons_succ, List.set_cons_zero] at hW2
      obtain ⟨⟨x0, x1, x2, x3, x4, x5⟩, u0, u1, u2, u3, u4, u5⟩ := CL.six hW
      refine next_at 7 rfl (by kernel_rfl) (by rfl) (fun K hK => ?_)
      go_simp
      refine hK _ _ hS2 ?_
      clear hK K x0 x1 x2 x3 x4 x5 u0 u1 u2 u3 u4 u5 hW hS hA1 hA2 hC hG
      have hW := hW2
      have hS := hS2
      have hA1 := hA12
      have hA2 := hA22
      have hC := hC2
      have hG := hG2
      clear hW2 hS2 hA12 hA22 hC2 hG2
      generalize w15.setCell ⟨gw, 5, none⟩ (.int .i64 P.ttl) = w16 at hW hS hA1 hA2 hC hG ⊢
      refine wpAnyH_done (by kernel_rfl) ?_ _
      refine qz_normal ?_
      clear hS HC
      go_upto_region 14 with fail
      obtain ⟨⟨y0, y1, y2, y3, y4, y5⟩, u0, u1, u2, u3, u4, u5⟩ := CL.six hC
      go_upto_region 15 with fail
      clear y0 y1 y2 y3 y4 y5 u0 u1 u2 u3 u4 u5
      replace hC := hC.set 5 (.int .i64 0) (by simp)
      replace hA1 := hA1.other (s := gp) (o := 5) (.int .i64 0) (by omega)
      replace hA2 := hA2.other (s := gp) (o := 5) (.int .i64 0) (by omega)
      replace hW := hW.other (s := gp) (o := 5) (.int .i64 0) (by omega)
      replace hG := hG.setCell (p := ⟨gp, 5, none⟩) hle (.int .i64 0)
      simp only [List.set_cons_succ, List.set_cons_zero] at hC
      generalize w16.setCell ⟨gp, 5, none⟩ (.int .i64 0) = w20 at hA1 hA2 hW hC hG ⊢
      obtain ⟨⟨y0, y1, y2, y3, y4, y5⟩, -⟩ := CL.six hC
      obtain ⟨⟨x0, x1, x2, x3, x4, x5⟩, -⟩ := CL.six hA1
      obtain ⟨⟨z0, z1, z2, z3, z4, z5⟩, -⟩ := CL.six hA2
      obtain ⟨⟨q0, q1, q2, q3, q4, q5⟩, -⟩ := CL.six hW
      go_wp2_with fail
      go_ret
      exact ⟨rfl, hG⟩
    · have d6 : ((P.proto : Int) == 6) = true := by rw [hp]; rfl
      have d17 : ((P.proto : Int) == 17) = false := by rw [hp]; rfl
      have HPp := Lib.hid hp
      clear hp
      have HRd := Lib.hid (fun (w' : World) (g : Gr w8 w') => read_host_tcp P id left w' HP.out HI.out HL.out (ho.rb.any.gr g) HPp.out)
      obtain ⟨a8, c8, rfl, -, -⟩ := ho.rb.form
      generalize (hostL P P.dst id left).length = N8 at *
      clear ho
      obtain ⟨⟨y0, y1, y2, y3, y4, y5⟩, -⟩ := CL.six hC
      go_wp2_with fail
      refine (HU.out _).mono ?_
      rintro e w9 ⟨rfl, hgU⟩
      clear y0 y1 y2 y3 y4 y5
      replace hC := hC.gr hgU
      replace hG := hG.step hgU
      go_wp2_with fail
      refine (HRd.out _ hgU).mono ?_
      rintro e w10 ⟨rfl, hg⟩
      replace hC := hC.gr hg
      replace hG := hG.step hg
      clear hg hgU HRd
      have hA1 := CL.new w10 [.int .u32 P.src, .int .u32 P.dst, .int .i64 P.proto, .int .i64 P.flow, .int .i64 P.tag, .int .i64 0] 30 _ rfl
      have hg1 := Gr.alloc (Gr.refl w10) (.cells #[.int .u32 P.src, .int .u32 P.dst, .int .i64 P.proto, .int .i64 P.flow, .int .i64 P.tag, .int .i64 0] 30)
      have hA2 := CL.new (w10.alloc (.cells #[.int .u32 P.src, .int .u32 P.dst, .int .i64 P.proto, .int .i64 P.flow, .int .i64 P.tag, .int .i64 0] 30)) [.int .u32 P.dst, .int .i64 4, .int .i64 0, .int .i64 left, .int .i64 id, .int .i64 0] 40 (w10.heap.size + 1) (by simp)
      have hg2 := Gr.alloc (Gr.refl (w10.alloc (.cells #[.int .u32 P.src, .int .u32 P.dst, .int .i64 P.proto, .int .i64 P.flow, .int .i64 P.tag, .int .i64 0] 30))) (.cells #[.int .u32 P.dst, .int .i64 4, .int .i64 0, .int .i64 left, .int .i64 id, .int .i64 0] 40)
      simp only [List.toArray] at hA1 hA2
      have hlp := hC.lt
      replace hA1 := hA1.gr hg2
      replace hC := (hC.gr hg1).gr hg2
      replace hG := (hG.step hg1).step hg2
      clear hg1 hg2
      go_upto_region 9 with fail
      generalize (w10.alloc (.cells #[.int .u32 P.src, .int .u32 P.dst, .int .i64 P.proto, .int .i64 P.flow, .int .i64 P.tag, .int .i64 0] 30)).alloc (.cells #[.int .u32 P.dst, .int .i64 4, .int .i64 0, .int .i64 left, .int .i64 id, .int .i64 0] 40) = w11 at hA1 hA2 hC hG ⊢
      generalize w10.heap.size = gq at hA1 hA2 hlp ⊢
      generalize hgq : gq + 1 = gr at hA2 ⊢
      have hrl := hA2.lt
      have hlq : gp < gr := by omega
      have hqr : gq < gr := by omega
      clear hgq
      obtain ⟨⟨y0, y1, y2, y3, y4, y5⟩, -⟩ := CL.six hC
      have hW := CL.new w11 [.int .u32 P.dst, .int .i64 2, .int .i64 0, .int .i64 left, .int .i64 id, .int .i64 0] 40 _ rfl
      have hg1 := Gr.alloc (Gr.refl w11) (.cells #[.int .u32 P.dst, .int .i64 2, .int .i64 0, .int .i64 left, .int .i64 id, .int .i64 0] 40)
      simp only [List.toArray] at hW
      go_upto_region 10 with fail
      clear y0 y1 y2 y3 y4 y5
      replace hA1 := hA1.gr hg1
      replace hA2 := hA2.gr hg1
      replace hC := hC.gr hg1
      replace hG := hG.step hg1
      have hgw := Gr.size hG
      generalize w11.alloc (.cells #[.int .u32 P.dst, .int .i64 2, .int .i64 0, .int .i64 left, .int .i64 id, .int .i64 0] 40) = w12 at hA1 hA2 hC hG hW hgw hg1 ⊢
      have hlw : w.heap.size ≤ w11.heap.size := by omega
      generalize w11.heap.size = gw at hW hrl hlw ⊢
      clear hg1 hgw
      obtain ⟨⟨y0, y1, y2, y3, y4, y5⟩, -⟩ := CL.six hC
      obtain ⟨⟨x0, x1, x2, x3, x4, x5⟩, u0, u1, u2, u3, u4, u5⟩ := CL.six hW
      go_upto_region 12 with fail
      clear y0 y1 y2 y3 y4 y5 x0 x1 x2 x3 x4 x5 u0 u1 u2 u3 u4 u5
      replace hW := hW.set 1 (.int .i64 4) (by simp)
      replace hA1 := hA1.other (s := gw) (o := 1) (.int .i64 4) (by omega)
      replace hA2 := hA2.other (s := gw) (o := 1) (.int .i64 4) (by omega)
      replace hC := hC.other (s := gw) (o := 1) (.int .i64 4) (by omega)
      replace hG := hG.setCell (p := ⟨gw, 1, none⟩) hlw (.int .i64 4)
      simp only [List.set_cons_succ, List.set_cons_zero] at hW
      generalize w12.setCell ⟨gw, 1, none⟩ (.int .i64 4) = w13 at hA1 hA2 hW hC hG ⊢
      obtain ⟨⟨y0, y1, y2, y3, y4, y5⟩, -⟩ := CL.six hC
      go_upto_region 14 with fail
      clear y0 y1 y2 y3 y4 y5
      obtain ⟨⟨y0, y1, y2, y3, y4, y5⟩, u0, u1, u2, u3, u4, u5⟩ := CL.six hC
      go_upto_region 15 with fail
      clear y0 y1 y2 y3 y4 y5 u0 u1 u2 u3 u4 u5
      replace hC := hC.set 5 (.int .i64 0) (by simp)
      replace hA1 := hA1.other (s := gp) (o := 5) (.int .i64 0) (by omega)
      replace hA2 := hA2.other (s := gp) (o := 5) (.int .i64 0) (by omega)
      replace hW := hW.other (s := gp) (o := 5) (.int .i64 0) (by omega)
      replace hG := hG.setCell (p := ⟨gp, 5, none⟩) hle (.int .i64 0)
      simp only [List.set_cons_succ, List.set_cons_zero] at hC
      generalize w13.setCell ⟨gp, 5, none⟩ (.int .i64 0) = w20 at hA1 hA2 hW hC hG ⊢
      obtain ⟨⟨y0, y1, y2, y3, y4, y5⟩, -⟩ := CL.six hC
      obtain ⟨⟨x0, x1, x2, x3, x4, x5⟩, -⟩ := CL.six hA1
      obtain ⟨⟨z0, z1, z2, z3, z4, z5⟩, -⟩ := CL.six hA2
      obtain ⟨⟨q0, q1, q2, q3, q4, q5⟩, -⟩ := CL.six hW
      go_wp2_with fail
      go_ret
      exact ⟨rfl, hG⟩
  · have hv := ho.rb.any
    have HH := Lib.hid (rhost_no P.dst id left w5 hv (fun w' g => answ_no w' (Pr.hd_ok HP.out) (hv.gr g) (by have := (Pr.data_at HP.out).2.1; omega) (by have := (Pr.data_at HP.out).1; omega) ((HT.out.gr hG).gr g) (.inl hu)) HI.out HL.out HP.out.dst)
    have HU := Lib.hid (fun w => usable_any P.src w HP.out.src false ⟨fun h => Bool.noConfusion h, fun h => absurd h hu⟩)
    obtain ⟨a5, c5, rfl, -, -⟩ := hv.form
    generalize P.pk.length = N5 at *
    clear ho hg hu HBd hv
    obtain ⟨⟨y0, y1, y2, y3, y4, y5⟩, -⟩ := CL.six hC
    go_wp2_with fail
    refine HH.out.mono ?_
    rintro e w8 ⟨rfl, hg⟩
    clear y0 y1 y2 y3 y4 y5
    replace hC := hC.gr hg
    replace hG := hG.step hg
    obtain ⟨⟨y0, y1, y2, y3, y4, y5⟩, -⟩ := CL.six hC
    clear hg HH
    go_wp2_with fail
    refine (HU.out _).mono ?_
    rintro e w9 ⟨rfl, hg⟩
    go_wp2_with fail
    go_ret
    exact ⟨rfl, hG.step hg⟩
end Go.Proofs.YtkpejaiigopmgaaDoor
