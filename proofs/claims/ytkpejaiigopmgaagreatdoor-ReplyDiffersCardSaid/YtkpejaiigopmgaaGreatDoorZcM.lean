/- Answers from choices. -/
import Derived.Test.YtkpejaiigopmgaaGreatDoorGU
import Derived.Test.YtkpejaiigopmgaaGreatDoorGX
import Derived.WalkKit
import Derived.WalkSpells
import Derived.WalkLawsBesides
import Derived.WalkSmall
import Derived.Handy
import Derived.BigQuiet
import Derived.Deep.QuietTactic
import Derived.Deep.RegionHeld3
import Derived.Deep.DeepFit
import Derived.Below
import Derived.Lib.Hide
import Derived.Lib.QuietBelow
namespace Go.Proofs.YtkpejaiigopmgaaGreatDoor
open Go Go.RowKit Go.Sort
set_option maxRecDepth 100000
set_option linter.unusedVariables false
set_option linter.unusedSimpArgs false
def IsAns (P : Pr) (l : List Nat) : Prop := ∃ frm id ttl, frm < 4294967296 ∧ id ≤ 65535 ∧ ttl ≤ 255 ∧ (l = hostL P P.dst id ttl ∨ ∃ t c, (t = 3 ∨ t = 11) ∧ c < 256 ∧ l = errL P frm t c id ttl)
def AnsPost (B b : Nat) (P : Pr) (w : World) (e : Ending) (w' : World) : Prop :=
  ∃ v l, e = .returned v ∧ Rb (fun k => k ≠ b) w' v l ∧ Cod B w' b ∧ Ex b w w' ∧ ((¬ usb P.src ∧ l = []) ∨ (usb P.src ∧ IsAns P l))
set_option maxHeartbeats 8000000 in
theorem answer_any {B : Nat} (b : Nat) (P : Pr) (w : World) (h : Cod B w b) (k : P.ok) :
    Calls Tryz.prog 8 #[.pointer (some ⟨b, 0, none⟩), P.v] w (AnsPost B b P w) := by
  have HP := Lib.hid k
  have HB := Lib.hid (fun w => rbuild_ok P k w)
  have hbl := h.lt
  have hC := CL.new w P.vs 29 _ rfl
  have hg0 := Gr.alloc (Gr.refl w) (.cells P.vs.toArray 29)
  clear k
  unfold Pr.v prV at *
  unfold Pr.vs at hC hg0
  simp only [List.toArray] at hC hg0
  go_enter Tryz.func8, Tryz.ntmps8
  go_upto_region 1 with fail
  generalize w.alloc (.cells #[.int .u32 P.src, .int .u32 P.dst, .int .i64 P.proto, .int .i64 P.flow, .int .i64 P.tag, .int .i64 P.ttl] 29) = w1 at hC hg0 ⊢
  have hgb : w.heap.size ≠ b := by omega
  generalize w.heap.size = gp at hC hgb ⊢
  have hc := h.gr hg0
  have hx := Ex.ofGr (b := b) hg0
  clear h hg0 hbl
  obtain ⟨⟨y0, y1, y2, y3, y4, y5⟩, -⟩ := CL.six hC
  go_wp2_with fail
  refine (HB.out _).mono ?_
  rintro e w2 ⟨v2, rfl, ho, hg⟩
  have hlc := hc.lt
  replace hC := hC.gr hg
  replace hc := hc.gr hg
  replace hx := hx.trans (Ex.ofGr hg)
  have hr := ho.rb.imp (q := fun k => k ≠ b) (fun k _ hk => by omega)
  obtain ⟨a5, c5, rfl, -, -⟩ := hr.form
  generalize P.pk.length = N5 at *
  clear ho hg HB hlc y0 y1 y2 y3 y4 y5
  go_wp2_with fail
  refine (address_any b _ hc).mono ?_
  rintro e w3 ⟨frm, rfl, hf, hc', hx'⟩
  replace hC := hC.ex hx' hgb
  replace hr := hr.ex hx' (fun k hk => hk)
  replace hx := hx.trans hx'
  replace hc := hc'
  clear hc' hx'
  go_wp2_with fail
  refine (next_nat b 65536 _ (by omega) (by omega) hc).mono ?_
  rintro e w4 ⟨id, rfl, hi, hc', hx'⟩
  replace hC := hC.ex hx' hgb
  replace hr := hr.ex hx' (fun k hk => hk)
  replace hx := hx.trans hx'
  replace hc := hc'
  clear hc' hx'
  go_wp2_with fail
  refine (next_nat b 255 _ (by omega) (by omega) hc).mono ?_
  rintro e w5 ⟨t0, rfl, ht0, hc', hx'⟩
  replace hC := hC.ex hx' hgb
  replace hr := hr.ex hx' (fun k hk => hk)
  replace hx := hx.trans hx'
  replace hc := hc'
  clear hc' hx'
  obtain ⟨tl, htl⟩ : ∃ tl, tl = 1 + t0 := ⟨_, rfl⟩
  have e1 : (1 : Int) + (t0 : Int) = (tl : Int) := by omega
  have e2 : IntKind.i64.wrap (tl : Int) = (tl : Int) := by rw [IntWalk.i64_in _ (by omega)]
  have HTL := Lib.hid (show tl ≤ 255 by omega)
  have HI := Lib.hid hi
  have HF := Lib.hid hf
  clear htl ht0 hi hf
  go_wp2_with fail
  refine (next_nat b 4 _ (by omega) (by omega) hc).mono ?_
  rintro e w6 ⟨y, rfl, hy, hc', hx'⟩
  replace hC := hC.ex hx' hgb
  replace hr := hr.ex hx' (fun k hk => hk)
  replace hx := hx.trans hx'
  replace hc := hc'
  clear hc' hx' e1 e2
  obtain ⟨⟨y0, y1, y2, y3, y4, y5⟩, -⟩ := CL.six hC
  by_cases h0 : y = 0
  · subst h0
    by_cases hu : usb P.src
    · replace hu := Lib.hid hu
      have HH := Lib.hid (rrhost_ok P P.dst id tl w6 HP.out hr hu.out (by have := HI.out; omega) HTL.out HP.out.dst)
      clear hr hC hgb hy
      go_wp2_with fail
      refine HH.out.mono ?_
      rintro e w9 ⟨v9, rfl, ho, hg⟩
      have hr9 := ho.rb.imp (q := fun k => k ≠ b) (fun k _ hk => by have := hc.lt; omega)
      go_wp2_with fail
      go_ret
      exact ⟨_, _, rfl, hr9, hc.gr hg, hx.trans (Ex.ofGr hg), .inr ⟨hu.out, frm, id, tl, HF.out, by have := HI.out; omega, by have := HTL.out; omega, .inl rfl⟩⟩
    · replace hu := Lib.hid hu
      have HH := Lib.hid (rrhost_no P.dst id tl w6 hr (ransw_no w6 (Pr.hd_ok HP.out) hr (by have := (Pr.data_at HP.out).2.1; omega) (by have := (Pr.data_at HP.out).1; omega) hu.out (Pr.answ HP.out)) (by have := HI.out; omega) HTL.out)
      clear hr hC hgb hy
      go_wp2_with fail
      refine HH.out.mono ?_
      rintro e w9 ⟨rfl, hg⟩
      go_wp2_with fail
      go_ret
      exact ⟨_, [], rfl, Rb.nil _ _, hc.gr hg, hx.trans (Ex.ofGr hg), .inl ⟨hu.out, rfl⟩⟩
  · have d0 : ((y : Int) == 0) = false := by rw [beq_eq_false_iff_ne]; omega
    by_cases h1 : y = 1
    · subst h1
      clear h0 hy hC y0 y1 y2 y3 y4 y5
      have hN := CL.new w6 [.int .i64 0, .int .i64 1, .int .i64 3, .int .i64 13] 3 _ rfl
      have hgn := Gr.alloc (Gr.refl w6) (.cells #[.int .i64 0, .int .i64 1, .int .i64 3, .int .i64 13] 3)
      simp only [List.toArray] at hN hgn
      have hnb : w6.heap.size ≠ b := by have := hc.lt; omega
      replace hc := hc.gr hgn
      replace hr := hr.gr hgn
      replace hx := hx.trans (Ex.ofGr hgn)
      clear hgn
      go_wp2_with fail
      generalize w6.alloc (.cells #[.int .i64 0, .int .i64 1, .int .i64 3, .int .i64 13] 3) = w7 at hN hr hc hx ⊢
      generalize w6.heap.size = gs at hN hnb ⊢
      refine (next_nat b 4 _ (by omega) (by omega) hc).mono ?_
      rintro e w8 ⟨z, rfl, hz, hc8, hx8⟩
      replace hr := hr.ex hx8 (fun k hk => hk)
      replace hN := hN.ex hx8 hnb
      replace hc := hc8
      replace hx := hx.trans hx8
      clear hx8 hc8
      have hN0 := (hN.at' 0 _ rfl).1
      have hN1 := (hN.at' 1 _ rfl).1
      have hN2 := (hN.at' 2 _ rfl).1
      have hN3 := (hN.at' 3 _ rfl).1
      have hz' : z = 0 ∨ z = 1 ∨ z = 2 ∨ z = 3 := by omega
      clear hN hz
      by_cases hu : usb P.src
      · replace hu := Lib.hid hu
        rcases hz' with rfl | rfl | rfl | rfl
        · skip
          have HE := Lib.hid (show Calls Tryz.prog 20 #[.slice a5 N5 c5, .int .u32 frm, .int .i64 3, .int .i64 0, .int .i64 id, .int .i64 tl] w8 fun e w'' => ∃ v', e = .returned (.tuple #[v', .int .i64 0]) ∧ OwB (w8).heap.size w'' v' (errL P frm 3 0 id tl) ∧ Gr w8 w'' from
            rrerr_ok (h := P.hd) (d := P.data) frm 3 0 id tl w8 (Pr.hd_ok HP.out) hr (by have := (Pr.data_at HP.out).2.1; omega) (by have := (Pr.data_at HP.out).1; omega) hu.out (Pr.answ HP.out) (ans_ok (by omega) (by have := HI.out; omega) (by have := HTL.out; omega) HF.out HP.out.src) (.inl rfl) (by decide))
          go_wp2_with fail
          refine HE.out.mono ?_
          rintro e w9 ⟨v9, rfl, ho, hg⟩
          have hr9 := ho.rb.imp (q := fun k => k ≠ b) (fun k _ hk => by have := hc.lt; omega)
          go_wp2_with fail
          go_ret
          exact ⟨_, _, rfl, hr9, hc.gr hg, hx.trans (Ex.ofGr hg), .inr ⟨hu.out, frm, id, tl, HF.out, by have := HI.out; omega, by have := HTL.out; omega, .inr ⟨3, 0, .inl rfl, by decide, rfl⟩⟩⟩
        · skip
          have HE := Lib.hid (show Calls Tryz.prog 20 #[.slice a5 N5 c5, .int .u32 frm, .int .i64 3, .int .i64 1, .int .i64 id, .int .i64 tl] w8 fun e w'' => ∃ v', e = .returned (.tuple #[v', .int .i64 0]) ∧ OwB (w8).heap.size w'' v' (errL P frm 3 1 id tl) ∧ Gr w8 w'' from
            rrerr_ok (h := P.hd) (d := P.data) frm 3 1 id tl w8 (Pr.hd_ok HP.out) hr (by have := (Pr.data_at HP.out).2.1; omega) (by have := (Pr.data_at HP.out).1; omega) hu.out (Pr.answ HP.out) (ans_ok (by omega) (by have := HI.out; omega) (by have := HTL.out; omega) HF.out HP.out.src) (.inl rfl) (by decide))
          go_wp2_with fail
          refine HE.out.mono ?_
          rintro e w9 ⟨v9, rfl, ho, hg⟩
          have hr9 := ho.rb.imp (q := fun k => k ≠ b) (fun k _ hk => by have := hc.lt; omega)
          go_wp2_with fail
          go_ret
          exact ⟨_, _, rfl, hr9, hc.gr hg, hx.trans (Ex.ofGr hg), .inr ⟨hu.out, frm, id, tl, HF.out, by have := HI.out; omega, by have := HTL.out; omega, .inr ⟨3, 1, .inl rfl, by decide, rfl⟩⟩⟩
        · skip
          have HE := Lib.hid (show Calls Tryz.prog 20 #[.slice a5 N5 c5, .int .u32 frm, .int .i64 3, .int .i64 3, .int .i64 id, .int .i64 tl] w8 fun e w'' => ∃ v', e = .returned (.tuple #[v', .int .i64 0]) ∧ OwB (w8).heap.size w'' v' (errL P frm 3 3 id tl) ∧ Gr w8 w'' from
            rrerr_ok (h := P.hd) (d := P.data) frm 3 3 id tl w8 (Pr.hd_ok HP.out) hr (by have := (Pr.data_at HP.out).2.1; omega) (by have := (Pr.data_at HP.out).1; omega) hu.out (Pr.answ HP.out) (ans_ok (by omega) (by have := HI.out; omega) (by have := HTL.out; omega) HF.out HP.out.src) (.inl rfl) (by decide))
          go_wp2_with fail
          refine HE.out.mono ?_
          rintro e w9 ⟨v9, rfl, ho, hg⟩
          have hr9 := ho.rb.imp (q := fun k => k ≠ b) (fun k _ hk => by have := hc.lt; omega)
          go_wp2_with fail
          go_ret
          exact ⟨_, _, rfl, hr9, hc.gr hg, hx.trans (Ex.ofGr hg), .inr ⟨hu.out, frm, id, tl, HF.out, by have := HI.out; omega, by have := HTL.out; omega, .inr ⟨3, 3, .inl rfl, by decide, rfl⟩⟩⟩
        · skip
          have HE := Lib.hid (show Calls Tryz.prog 20 #[.slice a5 N5 c5, .int .u32 frm, .int .i64 3, .int .i64 13, .int .i64 id, .int .i64 tl] w8 fun e w'' => ∃ v', e = .returned (.tuple #[v', .int .i64 0]) ∧ OwB (w8).heap.size w'' v' (errL P frm 3 13 id tl) ∧ Gr w8 w'' from
            rrerr_ok (h := P.hd) (d := P.data) frm 3 13 id tl w8 (Pr.hd_ok HP.out) hr (by have := (Pr.data_at HP.out).2.1; omega) (by have := (Pr.data_at HP.out).1; omega) hu.out (Pr.answ HP.out) (ans_ok (by omega) (by have := HI.out; omega) (by have := HTL.out; omega) HF.out HP.out.src) (.inl rfl) (by decide))
          go_wp2_with fail
          refine HE.out.mono ?_
          rintro e w9 ⟨v9, rfl, ho, hg⟩
          have hr9 := ho.rb.imp (q := fun k => k ≠ b) (fun k _ hk => by have := hc.lt; omega)
          go_wp2_with fail
          go_ret
          exact ⟨_, _, rfl, hr9, hc.gr hg, hx.trans (Ex.ofGr hg), .inr ⟨hu.out, frm, id, tl, HF.out, by have := HI.out; omega, by have := HTL.out; omega, .inr ⟨3, 13, .inl rfl, by decide, rfl⟩⟩⟩
      · replace hu := Lib.hid hu
        rcases hz' with rfl | rfl | rfl | rfl
        · skip
          have HE := Lib.hid (show Calls Tryz.prog 20 #[.slice a5 N5 c5, .int .u32 frm, .int .i64 3, .int .i64 0, .int .i64 id, .int .i64 tl] w8 fun e w'' => e = .returned (.tuple #[.slice none 0 0, .int .i64 17]) ∧ Gr w8 w'' from
            rrerr_no frm 3 0 id tl 0 w8 hr (ransw_no w8 (Pr.hd_ok HP.out) hr (by have := (Pr.data_at HP.out).2.1; omega) (by have := (Pr.data_at HP.out).1; omega) hu.out (Pr.answ HP.out)) (ans_ok (by omega) (by have := HI.out; omega) (by have := HTL.out; omega) HF.out (by decide)) (.inl rfl) (by decide))
          go_wp2_with fail
          refine HE.out.mono ?_
          rintro e w9 ⟨rfl, hg⟩
          go_wp2_with fail
          go_ret
          exact ⟨_, [], rfl, Rb.nil _ _, hc.gr hg, hx.trans (Ex.ofGr hg), .inl ⟨hu.out, rfl⟩⟩
        · skip
          have HE := Lib.hid (show Calls Tryz.prog 20 #[.slice a5 N5 c5, .int .u32 frm, .int .i64 3, .int .i64 1, .int .i64 id, .int .i64 tl] w8 fun e w'' => e = .returned (.tuple #[.slice none 0 0, .int .i64 17]) ∧ Gr w8 w'' from
            rrerr_no frm 3 1 id tl 0 w8 hr (ransw_no w8 (Pr.hd_ok HP.out) hr (by have := (Pr.data_at HP.out).2.1; omega) (by have := (Pr.data_at HP.out).1; omega) hu.out (Pr.answ HP.out)) (ans_ok (by omega) (by have := HI.out; omega) (by have := HTL.out; omega) HF.out (by decide)) (.inl rfl) (by decide))
          go_wp2_with fail
          refine HE.out.mono ?_
          rintro e w9 ⟨rfl, hg⟩
          go_wp2_with fail
          go_ret
          exact ⟨_, [], rfl, Rb.nil _ _, hc.gr hg, hx.trans (Ex.ofGr hg), .inl ⟨hu.out, rfl⟩⟩
        · skip
          have HE := Lib.hid (show Calls Tryz.prog 20 #[.slice a5 N5 c5, .int .u32 frm, .int .i64 3, .int .i64 3, .int .i64 id, .int .i64 tl] w8 fun e w'' => e = .returned (.tuple #[.slice none 0 0, .int .i64 17]) ∧ Gr w8 w'' from
            rrerr_no frm 3 3 id tl 0 w8 hr (ransw_no w8 (Pr.hd_ok HP.out) hr (by have := (Pr.data_at HP.out).2.1; omega) (by have := (Pr.data_at HP.out).1; omega) hu.out (Pr.answ HP.out)) (ans_ok (by omega) (by have := HI.out; omega) (by have := HTL.out; omega) HF.out (by decide)) (.inl rfl) (by decide))
          go_wp2_with fail
          refine HE.out.mono ?_
          rintro e w9 ⟨rfl, hg⟩
          go_wp2_with fail
          go_ret
          exact ⟨_, [], rfl, Rb.nil _ _, hc.gr hg, hx.trans (Ex.ofGr hg), .inl ⟨hu.out, rfl⟩⟩
        · skip
          have HE := Lib.hid (show Calls Tryz.prog 20 #[.slice a5 N5 c5, .int .u32 frm, .int .i64 3, .int .i64 13, .int .i64 id, .int .i64 tl] w8 fun e w'' => e = .returned (.tuple #[.slice none 0 0, .int .i64 17]) ∧ Gr w8 w'' from
            rrerr_no frm 3 13 id tl 0 w8 hr (ransw_no w8 (Pr.hd_ok HP.out) hr (by have := (Pr.data_at HP.out).2.1; omega) (by have := (Pr.data_at HP.out).1; omega) hu.out (Pr.answ HP.out)) (ans_ok (by omega) (by have := HI.out; omega) (by have := HTL.out; omega) HF.out (by decide)) (.inl rfl) (by decide))
          go_wp2_with fail
          refine HE.out.mono ?_
          rintro e w9 ⟨rfl, hg⟩
          go_wp2_with fail
          go_ret
          exact ⟨_, [], rfl, Rb.nil _ _, hc.gr hg, hx.trans (Ex.ofGr hg), .inl ⟨hu.out, rfl⟩⟩
    · have d1 : ((y : Int) == 1) = false := by rw [beq_eq_false_iff_ne]; omega
      clear h0 h1 hy hC y0 y1 y2 y3 y4 y5
      by_cases hu : usb P.src
      · replace hu := Lib.hid hu
        have HE := Lib.hid (show Calls Tryz.prog 20 #[.slice a5 N5 c5, .int .u32 frm, .int .i64 11, .int .i64 0, .int .i64 id, .int .i64 tl] w6 fun e w'' => ∃ v', e = .returned (.tuple #[v', .int .i64 0]) ∧ OwB (w6).heap.size w'' v' (errL P frm 11 0 id tl) ∧ Gr w6 w'' from
          rrerr_ok (h := P.hd) (d := P.data) frm 11 0 id tl w6 (Pr.hd_ok HP.out) hr (by have := (Pr.data_at HP.out).2.1; omega) (by have := (Pr.data_at HP.out).1; omega) hu.out (Pr.answ HP.out) (ans_ok (by omega) (by have := HI.out; omega) (by have := HTL.out; omega) HF.out HP.out.src) (.inr rfl) (by decide))
        go_wp2_with fail
        refine HE.out.mono ?_
        rintro e w9 ⟨v9, rfl, ho, hg⟩
        have hr9 := ho.rb.imp (q := fun k => k ≠ b) (fun k _ hk => by have := hc.lt; omega)
        go_wp2_with fail
        go_ret
        exact ⟨_, _, rfl, hr9, hc.gr hg, hx.trans (Ex.ofGr hg), .inr ⟨hu.out, frm, id, tl, HF.out, by have := HI.out; omega, by have := HTL.out; omega, .inr ⟨11, 0, .inr rfl, by decide, rfl⟩⟩⟩
      · replace hu := Lib.hid hu
        have HE := Lib.hid (show Calls Tryz.prog 20 #[.slice a5 N5 c5, .int .u32 frm, .int .i64 11, .int .i64 0, .int .i64 id, .int .i64 tl] w6 fun e w'' => e = .returned (.tuple #[.slice none 0 0, .int .i64 17]) ∧ Gr w6 w'' from
          rrerr_no frm 11 0 id tl 0 w6 hr (ransw_no w6 (Pr.hd_ok HP.out) hr (by have := (Pr.data_at HP.out).2.1; omega) (by have := (Pr.data_at HP.out).1; omega) hu.out (Pr.answ HP.out)) (ans_ok (by omega) (by have := HI.out; omega) (by have := HTL.out; omega) HF.out (by decide)) (.inr rfl) (by decide))
        go_wp2_with fail
        refine HE.out.mono ?_
        rintro e w9 ⟨rfl, hg⟩
        go_wp2_with fail
        go_ret
        exact ⟨_, [], rfl, Rb.nil _ _, hc.gr hg, hx.trans (Ex.ofGr hg), .inl ⟨hu.out, rfl⟩⟩
end Go.Proofs.YtkpejaiigopmgaaGreatDoor
