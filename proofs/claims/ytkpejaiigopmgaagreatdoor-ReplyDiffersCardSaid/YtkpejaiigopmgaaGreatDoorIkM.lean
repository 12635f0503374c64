/- The package ipv4: Peek. -/
import Derived.Test.YtkpejaiigopmgaaGreatDoorIhM
import Derived.Test.YtkpejaiigopmgaaGreatDoorGD
import Derived.Test.YtkpejaiigopmgaaGreatDoorGC
import Derived.WalkKit
import Derived.WalkSpells
import Derived.WalkLawsBesides
import Derived.WalkSmall
import Derived.Handy
import Derived.BigQuiet
import Derived.Deep.QuietTactic
import Derived.Deep.RegionHeld3
import Derived.Deep.DeepFit
import Derived.Below
import Derived.Lib.Hide
import Derived.Lib.QuietBelow
namespace Go.Proofs.YtkpejaiigopmgaaGreatDoor
open Go Go.RowKit Go.Sort
set_option maxRecDepth 100000
set_option linter.unusedVariables false
def hz7 : List Value := [.int .i64 0, .int .i64 0, .int .i64 0, .int .i64 0, .bool false, .int .u32 0, .int .u32 0]
/-- Peek's memory: what is read, the result, the place, the header -/
structure PS (w0 w : World) (v : Value) (n : Nat) (hs : List Value) : Prop where
  gr : Gr w0 w
  c0 : CL w w0.heap.size [v]
  c1 : CL w (w0.heap.size + 1) hz7
  c2 : CL w (w0.heap.size + 2) [.int .i64 n]
  c3 : CL w (w0.heap.size + 3) hs
theorem PS.next {w0 w : World} {v : Value} {n : Nat} {hs : List Value} (h : PS w0 w v n hs) (m : Nat) : PS w0 (w.setCell ⟨w0.heap.size + 2, 0, none⟩ (.int .i64 m)) v m hs :=
  ⟨h.gr.setCell (by simp) _, h.c0.other _ (by omega), h.c1.other _ (by omega), h.c2.set 0 _ (by simp), h.c3.other _ (by omega)⟩
theorem PS.put {w0 w : World} {v : Value} {n : Nat} {hs : List Value} (h : PS w0 w v n hs) (o : Nat) (x : Value) (ho : o < hs.length) : PS w0 (w.setCell ⟨w0.heap.size + 3, o, none⟩ x) v n (hs.set o x) :=
  ⟨h.gr.setCell (by simp) _, h.c0.other _ (by omega), h.c1.other _ (by omega), h.c2.other _ (by omega), h.c3.set o x ho⟩
theorem PS.grow {w0 w w' : World} {v : Value} {n : Nat} {hs : List Value} (h : PS w0 w v n hs) (k : Gr w w') : PS w0 w' v n hs :=
  ⟨h.gr.step k, h.c0.gr k, h.c1.gr k, h.c2.gr k, h.c3.gr k⟩
theorem rdnum_any {p : Nat → Prop} {v : Value} {l : List Nat} {hs : List Value} (w0 w : World) (n k m : Nat) (hm : n + k = m) (hr : Rb p w0 v l) (h : PS w0 w v n hs) (hk0 : 1 ≤ k) (hk1 : k ≤ 7) (hl : n + k ≤ l.length) (hn : n ≤ 1000) :
    Calls Tryz.prog 90 #[.int .i64 k, .pointer (some ⟨w0.heap.size, 0, none⟩), .pointer (some ⟨w0.heap.size + 2, 0, none⟩)] w fun e w' => e = .returned (.int .i64 (gN l n k : Nat)) ∧ PS w0 w' v m hs := by
  subst hm
  obtain ⟨a, cap, rfl, hcap, hmx⟩ := hr.form
  have HG := Lib.hid (get_yes n k w (hr.gr h.gr) hk0 hk1 hl)
  obtain ⟨a0, -⟩ := h.c0.one
  obtain ⟨b0, b1⟩ := h.c2.one
  have HP := Lib.hid (h.next (n + k))
  clear h hr
  go_enter Tryz.func90, Tryz.ntmps90
  go_wp2_with (go_at_call 82; refine HG.out.mono ?_; rintro e w1 ⟨rfl, rfl⟩)
  go_ret
  exact ⟨rfl, HP.out⟩
theorem ps_start (w : World) (v : Value) (T1 T2 T3 T4 : TypeId) : PS w ((((w.alloc (.cells #[v] T1)).alloc (.cells #[.int .i64 0, .int .i64 0, .int .i64 0, .int .i64 0, .bool false, .int .u32 0, .int .u32 0] T2)).alloc (.cells #[.int .i64 0] T3)).alloc
    (.cells #[.int .i64 0, .int .i64 0, .int .i64 0, .int .i64 0, .bool false, .int .u32 0, .int .u32 0] T4)) v 0 hz7 := by
  have g1 := fun (u : World) o => Gr.alloc (Gr.refl u) o
  refine ⟨(((Gr.refl _).alloc _).alloc _).alloc _ |>.alloc _, ?_, ?_, ?_, ?_⟩
  · exact (((CL.new w [v] T1 _ rfl).gr (g1 _ _)).gr (g1 _ _)).gr (g1 _ _)
  · exact ((CL.new _ hz7 T2 _ (by simp)).gr (g1 _ _)).gr (g1 _ _)
  · exact (CL.new _ [.int .i64 0] T3 _ (by simp)).gr (g1 _ _)
  · exact CL.new _ hz7 T4 _ (by simp)
/-- a header is stored -/
theorem CL.fill7 {w : World} {g : Nat} {x0 x1 x2 x3 x4 x5 x6 : Value} (h : CL w g [x0, x1, x2, x3, x4, x5, x6]) (a b c d e f i : Value) :
    CL (((((((w.setCell ⟨g, 0, none⟩ a).setCell ⟨g, 1, none⟩ b).setCell ⟨g, 2, none⟩ c).setCell ⟨g, 3, none⟩ d).setCell ⟨g, 4, none⟩ e).setCell ⟨g, 5, none⟩ f).setCell ⟨g, 6, none⟩ i) g [a, b, c, d, e, f, i] :=
  ((((((h.set 0 a (by simp)).set 1 b (by simp)).set 2 c (by simp)).set 3 d (by simp)).set 4 e (by simp)).set 5 f (by simp)).set 6 i (by simp)
theorem gr_fill7 {w0 w : World} {g : Nat} (h : Gr w0 w) (hg : w0.heap.size ≤ g) (a b c d e f i : Value) :
    Gr w0 (((((((w.setCell ⟨g, 0, none⟩ a).setCell ⟨g, 1, none⟩ b).setCell ⟨g, 2, none⟩ c).setCell ⟨g, 3, none⟩ d).setCell ⟨g, 4, none⟩ e).setCell ⟨g, 5, none⟩ f).setCell ⟨g, 6, none⟩ i) :=
  ((((((h.setCell hg a).setCell hg b).setCell hg c).setCell hg d).setCell hg e).setCell hg f).setCell hg i
theorem peek_short {p : Nat → Prop} {v : Value} {l : List Nat} (w : World) (hr : Rb p w v l) (h : l.length < 20) :
    Calls Tryz.prog 61 #[v] w fun e w' => e = .returned (.tuple #[hdV 0 0 0 0 false 0 0, .int .i64 0, .int .i64 3]) ∧ Gr w w' := by
  obtain ⟨a, cap, rfl, hcap, hmx⟩ := hr.form
  have d1 : decide ((l.length : Int) < 20) = true := by rw [decide_eq_true_eq]; omega
  clear hr h
  unfold hdV
  go_enter Tryz.func61, Tryz.ntmps61
  go_wp2_with fail
  exact bodyPost_ret (v := .tuple #[.agg #[.int .i64 0, .int .i64 0, .int .i64 0, .int .i64 0, .bool false, .int .u32 0, .int .u32 0], .int .i64 0, .int .i64 3]) (by simp [results, Tryz.results61, go_sem]) rfl ⟨rfl, ((Gr.refl _).alloc _).alloc _⟩
/-- what Peek answers -/
def pkH (l : List Nat) : Value := if pkE l = 0 then (hdAt l).v else hdV 0 0 0 0 false 0 0
def pkN (l : List Nat) : Nat := if pkE l = 0 then gN l 2 2 else 0
theorem pk_err {l : List Nat} {n : Nat} (h : pkE l = n) (hn : n ≠ 0) : pkH l = hdV 0 0 0 0 false 0 0 ∧ pkN l = 0 := by
  unfold pkH pkN
  rw [if_neg (by rw [h]; exact hn), if_neg (by rw [h]; exact hn)]; exact ⟨rfl, rfl⟩
theorem pk_ok {l : List Nat} (h : pkE l = 0) : pkH l = (hdAt l).v ∧ pkN l = gN l 2 2 := by
  unfold pkH pkN
  rw [if_pos h, if_pos h]; exact ⟨rfl, rfl⟩
set_option maxHeartbeats 4000000 in
theorem peek_long {p : Nat → Prop} {v : Value} {l : List Nat} (w : World) (hr : Rb p w v l) (h : 20 ≤ l.length) (hl : l.length ≤ 90000) :
    Calls Tryz.prog 61 #[v] w fun e w' => e = .returned (.tuple #[pkH l, .int .i64 (pkN l : Nat), .int .i64 (pkE l : Nat)]) ∧ Gr w w' := by
  obtain ⟨a, cap, rfl, hcap, hmx⟩ := hr.form
  have HR := Lib.hid hr
  have d1 : decide ((l.length : Int) < 20) = false := by rw [decide_eq_false_iff_not]; omega
  have b0 := gN_lt hr.bytes 0 1; have b1 := gN_lt hr.bytes 1 1; have b2 := gN_lt hr.bytes 2 2; have b3 := gN_lt hr.bytes 4 2; have b4 := gN_lt hr.bytes 6 2
  have b5 := gN_lt hr.bytes 8 1; have b6 := gN_lt hr.bytes 9 1; have b7 := gN_lt hr.bytes 12 4; have b8 := gN_lt hr.bytes 16 4
  simp only [Nat.reducePow] at b0 b1 b2 b3 b4 b5 b6 b7 b8
  have hp := ps_start w (.slice a l.length cap) 22 52 3 52
  unfold hz7 at hp
  clear hr
  go_enter Tryz.func61, Tryz.ntmps61
  go_wp2_with fail
  refine (rdnum_any w _ 0 1 1 rfl HR.out hp (by omega) (by omega) (by omega) (by omega)).mono ?_
  rintro e w1 ⟨rfl, hp1⟩
  clear hp
  have hp := hp1
  clear hp1
  obtain ⟨⟨x0, x1, x2, x3, x4, x5, x6⟩, z0, z1, z2, z3, z4, z5, z6⟩ := hp.c3.seven
  go_wp2_with fail
  clear x0 x1 x2 x3 x4 x5 x6 z0 z1 z2 z3 z4 z5 z6
  refine (rdnum_any w _ 1 1 2 rfl HR.out hp (by omega) (by omega) (by omega) (by omega)).mono ?_
  rintro e w2 ⟨rfl, hp1⟩
  clear hp
  have hp := hp1
  clear hp1
  obtain ⟨⟨x0, x1, x2, x3, x4, x5, x6⟩, z0, z1, z2, z3, z4, z5, z6⟩ := hp.c3.seven
  go_wp2_with fail
  clear x0 x1 x2 x3 x4 x5 x6 z0 z1 z2 z3 z4 z5 z6
  replace hp := hp.put 0 (.int .i64 (gN l 1 1 : Nat)) (by simp)
  dsimp only [List.set] at hp
  generalize w2.setCell ⟨w.heap.size + 3, 0, none⟩ (.int .i64 (gN l 1 1 : Nat)) = w2 at *
  refine (rdnum_any w _ 2 2 4 rfl HR.out hp (by omega) (by omega) (by omega) (by omega)).mono ?_
  rintro e w3 ⟨rfl, hp1⟩
  clear hp
  have hp := hp1
  clear hp1
  obtain ⟨⟨x0, x1, x2, x3, x4, x5, x6⟩, z0, z1, z2, z3, z4, z5, z6⟩ := hp.c3.seven
  go_wp2_with fail
  clear x0 x1 x2 x3 x4 x5 x6 z0 z1 z2 z3 z4 z5 z6
  refine (rdnum_any w _ 4 2 6 rfl HR.out hp (by omega) (by omega) (by omega) (by omega)).mono ?_
  rintro e w4 ⟨rfl, hp1⟩
  clear hp
  have hp := hp1
  clear hp1
  obtain ⟨⟨x0, x1, x2, x3, x4, x5, x6⟩, z0, z1, z2, z3, z4, z5, z6⟩ := hp.c3.seven
  go_wp2_with fail
  clear x0 x1 x2 x3 x4 x5 x6 z0 z1 z2 z3 z4 z5 z6
  replace hp := hp.put 1 (.int .i64 (gN l 4 2 : Nat)) (by simp)
  dsimp only [List.set] at hp
  generalize w4.setCell ⟨w.heap.size + 3, 1, none⟩ (.int .i64 (gN l 4 2 : Nat)) = w4 at *
  refine (rdnum_any w _ 6 2 8 rfl HR.out hp (by omega) (by omega) (by omega) (by omega)).mono ?_
  rintro e w5 ⟨rfl, hp1⟩
  clear hp
  have hp := hp1
  clear hp1
  obtain ⟨⟨x0, x1, x2, x3, x4, x5, x6⟩, z0, z1, z2, z3, z4, z5, z6⟩ := hp.c3.seven
  go_wp2_with fail
  clear x0 x1 x2 x3 x4 x5 x6 z0 z1 z2 z3 z4 z5 z6
  refine (rdnum_any w _ 8 1 9 rfl HR.out hp (by omega) (by omega) (by omega) (by omega)).mono ?_
  rintro e w6 ⟨rfl, hp1⟩
  clear hp
  have hp := hp1
  clear hp1
  obtain ⟨⟨x0, x1, x2, x3, x4, x5, x6⟩, z0, z1, z2, z3, z4, z5, z6⟩ := hp.c3.seven
  go_wp2_with fail
  clear x0 x1 x2 x3 x4 x5 x6 z0 z1 z2 z3 z4 z5 z6
  replace hp := hp.put 2 (.int .i64 (gN l 8 1 : Nat)) (by simp)
  dsimp only [List.set] at hp
  generalize w6.setCell ⟨w.heap.size + 3, 2, none⟩ (.int .i64 (gN l 8 1 : Nat)) = w6 at *
  refine (rdnum_any w _ 9 1 10 rfl HR.out hp (by omega) (by omega) (by omega) (by omega)).mono ?_
  rintro e w7 ⟨rfl, hp1⟩
  clear hp
  have hp := hp1
  clear hp1
  obtain ⟨⟨x0, x1, x2, x3, x4, x5, x6⟩, z0, z1, z2, z3, z4, z5, z6⟩ := hp.c3.seven
  go_wp2_with fail
  clear x0 x1 x2 x3 x4 x5 x6 z0 z1 z2 z3 z4 z5 z6
  replace hp := hp.put 3 (.int .i64 (gN l 9 1 : Nat)) (by simp)
  dsimp only [List.set] at hp
  generalize w7.setCell ⟨w.heap.size + 3, 3, none⟩ (.int .i64 (gN l 9 1 : Nat)) = w7 at *
  refine (rdnum_any w _ 10 2 12 rfl HR.out hp (by omega) (by omega) (by omega) (by omega)).mono ?_
  rintro e w8 ⟨rfl, hp1⟩
  clear hp
  have hp := hp1
  clear hp1
  obtain ⟨⟨x0, x1, x2, x3, x4, x5, x6⟩, z0, z1, z2, z3, z4, z5, z6⟩ := hp.c3.seven
  go_wp2_with fail
  clear x0 x1 x2 x3 x4 x5 x6 z0 z1 z2 z3 z4 z5 z6
  refine (rdnum_any w _ 12 4 16 rfl HR.out hp (by omega) (by omega) (by omega) (by omega)).mono ?_
  rintro e w9 ⟨rfl, hp1⟩
  clear hp
  have hp := hp1
  clear hp1
  obtain ⟨⟨x0, x1, x2, x3, x4, x5, x6⟩, z0, z1, z2, z3, z4, z5, z6⟩ := hp.c3.seven
  go_wp2_with fail
  clear x0 x1 x2 x3 x4 x5 x6 z0 z1 z2 z3 z4 z5 z6
  replace hp := hp.put 5 (.int .u32 (gN l 12 4 : Nat)) (by simp)
  dsimp only [List.set] at hp
  generalize w9.setCell ⟨w.heap.size + 3, 5, none⟩ (.int .u32 (gN l 12 4 : Nat)) = w9 at *
  refine (rdnum_any w _ 16 4 20 rfl HR.out hp (by omega) (by omega) (by omega) (by omega)).mono ?_
  rintro e w10 ⟨rfl, hp1⟩
  clear hp
  have hp := hp1
  clear hp1
  obtain ⟨⟨x0, x1, x2, x3, x4, x5, x6⟩, z0, z1, z2, z3, z4, z5, z6⟩ := hp.c3.seven
  obtain ⟨⟨y0, y1, y2, y3, y4, y5, y6⟩, v0, v1, v2, v3, v4, v5, v6⟩ := hp.c1.seven
  have HP := Lib.hid hp
  clear hp
  by_cases e0 : gN l 0 1 = 69
  · have s0 : ((gN l 0 1 : Nat) : Int) = 69 := by omega
    have s0b : (((gN l 0 1 : Nat) : Int) == 69) = true := by rw [beq_iff_eq]; omega
    by_cases f1 : gN l 6 2 = 16384
    · have s1 : (((gN l 6 2 : Nat) : Int) == 16384) = true := by rw [beq_iff_eq]; omega
      have s2 : (((gN l 6 2 : Nat) : Int) == 0) = false := by rw [beq_eq_false_iff_ne]; omega
      by_cases n20 : gN l 2 2 < 20
      · have s3 : decide (((gN l 2 2 : Nat) : Int) < 20) = true := by rw [decide_eq_true_eq]; omega
        have hE := Lib.hid (show pkE l = 2 by unfold pkE; rw [if_neg (by omega), if_pos (fun k => by have := k.2.2; omega)])
        go_wp2_with fail
        have hf := (HP.out.put 6 (.int .u32 (gN l 16 4 : Nat)) (by simp)).put 4 (.bool true) (by simp)
        have hc := hf.c1.fill7 (.int .i64 0) (.int .i64 0) (.int .i64 0) (.int .i64 0) (.bool false) (.int .u32 0) (.int .u32 0)
        have hgf := gr_fill7 hf.gr (show w.heap.size ≤ w.heap.size + 1 by omega) (.int .i64 0) (.int .i64 0) (.int .i64 0) (.int .i64 0) (.bool false) (.int .u32 0) (.int .u32 0)
        clear x0 x1 x2 x3 x4 x5 x6 z0 z1 z2 z3 z4 z5 z6 y0 y1 y2 y3 y4 y5 y6 v0 v1 v2 v3 v4 v5 v6 hf
        generalize (((((((((w10.setCell ⟨w.heap.size + 3, 6, none⟩ (.int .u32 (gN l 16 4 : Nat))).setCell ⟨w.heap.size + 3, 4, none⟩ (.bool true)).setCell ⟨w.heap.size + 1, 0, none⟩ (.int .i64 0)).setCell ⟨w.heap.size + 1, 1, none⟩ (.int .i64 0)).setCell ⟨w.heap.size + 1, 2, none⟩ (.int .i64 0)).setCell ⟨w.heap.size + 1, 3, none⟩ (.int .i64 0)).setCell ⟨w.heap.size + 1, 4, none⟩ (.bool false)).setCell ⟨w.heap.size + 1, 5, none⟩ (.int .u32 0)).setCell ⟨w.heap.size + 1, 6, none⟩ (.int .u32 0)) = wf at *
        obtain ⟨⟨c0, c1, c2, c3, c4, c5, c6⟩, -⟩ := hc.seven
        exact bodyPost_ret (v := .tuple #[.agg #[.int .i64 0, .int .i64 0, .int .i64 0, .int .i64 0, .bool false, .int .u32 0, .int .u32 0], .int .i64 0, .int .i64 2]) (by simp [results, Tryz.results61, go_sem, c0, c1, c2, c3, c4, c5, c6]) rfl ⟨by obtain ⟨pe1, pe2⟩ := pk_err hE.out (by omega); rw [pe1, pe2, hE.out]; rfl, hgf⟩
      · have s3 : decide (((gN l 2 2 : Nat) : Int) < 20) = false := by rw [decide_eq_false_iff_not]; omega
        have HFM : Hid (formOk l) := Lib.hid ⟨e0, .inr f1, by omega⟩
        have HDC := Lib.hid (decide_eq_true f1)
        have HHD : Hid (∀ w, Calls Tryz.prog 60 #[.agg #[.int .i64 (gN l 1 1 : Nat), .int .i64 (gN l 4 2 : Nat), .int .i64 (gN l 8 1 : Nat), .int .i64 (gN l 9 1 : Nat), .bool true, .int .u32 (gN l 12 4 : Nat), .int .u32 (gN l 16 4 : Nat)], .int .i64 (gN l 2 2 : Nat)] w fun e w' => ∃ v', e = .returned v' ∧ OwB w.heap.size w' v' (hbytes (hdAt l) (gN l 2 2)) ∧ Gr w w') := Lib.hid (fun w => by
          have := header_any (hdAt l) (hdAt_ok HR.out.bytes) (gN l 2 2) b2 w
          have hkb : (hdAt l).keep = true := by show decide (gN l 6 2 = 16384) = true; rw [HDC.out]
          unfold Hd.v hdV at this
          rw [hkb] at this
          exact this)
        go_wp2_with fail
        have hf := (HP.out.put 6 (.int .u32 (gN l 16 4 : Nat)) (by simp)).put 4 (.bool true) (by simp)
        simp only [List.set_cons_zero, List.set_cons_succ] at hf
        clear x0 x1 x2 x3 x4 x5 x6 z0 z1 z2 z3 z4 z5 z6 y0 y1 y2 y3 y4 y5 y6 v0 v1 v2 v3 v4 v5 v6 HP
        generalize ((w10.setCell ⟨w.heap.size + 3, 6, none⟩ (.int .u32 (gN l 16 4 : Nat))).setCell ⟨w.heap.size + 3, 4, none⟩ (.bool true)) = wz at *
        have HF := Lib.hid hf
        clear hf
        have HRR := Lib.hid (fun w' (k : Gr wz w') => (HR.out.take (k := 20) (by omega)).gr (HF.out.gr.step k))
        have u1 : (20 : Int) ≤ (cap : Int) := by omega
        have u2 : 20 ≤ cap := by omega
        have hS : Gr wz wz.drew := Gr.drew (Gr.refl _)
        refine region_plain (Gr wz) (by kernel_rfl) ?_
        refine take_at 0 (some 62) (v := ?vtrue0) rfl rfl (by kernel_rfl) (by kernel_rfl) (by kernel_rfl) (by rfl) ?ytrue0 hS ?ttrue0
        case ytrue0 =>
          intro w' hSw
          have hk := HF.out.grow hSw
          obtain ⟨k0, -⟩ := hk.c0.one
          obtain ⟨⟨q0, q1, q2, q3, q4, q5, q6⟩, -⟩ := hk.c3.seven
          clear hk
          go_simp
          (try with_reducible rfl)
        simp only [Act.put, List.setIfInBounds_toArray, List.set_cons_zero, List.set_cons_succ]
        refine take_at 1 (some 63) (v := ?vtrue1) rfl rfl (by kernel_rfl) (by kernel_rfl) (by kernel_rfl) (by rfl) ?ytrue1 hS ?ttrue1
        case ytrue1 =>
          intro w' hSw
          have hk := HF.out.grow hSw
          obtain ⟨k0, -⟩ := hk.c0.one
          obtain ⟨⟨q0, q1, q2, q3, q4, q5, q6⟩, -⟩ := hk.c3.seven
          clear hk
          go_simp
          (try with_reducible rfl)
        simp only [Act.put, List.setIfInBounds_toArray, List.set_cons_zero, List.set_cons_succ]
        refine take_at 2 (some 64) (v := ?vtrue2) rfl rfl (by kernel_rfl) (by kernel_rfl) (by kernel_rfl) (by rfl) ?ytrue2 hS ?ttrue2
        case ytrue2 =>
          intro w' hSw
          have hk := HF.out.grow hSw
          obtain ⟨k0, -⟩ := hk.c0.one
          obtain ⟨⟨q0, q1, q2, q3, q4, q5, q6⟩, -⟩ := hk.c3.seven
          clear hk
          go_simp
          (try with_reducible rfl)
        simp only [Act.put, List.setIfInBounds_toArray, List.set_cons_zero, List.set_cons_succ]
        refine take_at 3 (some 65) (v := ?vtrue3) rfl rfl (by kernel_rfl) (by kernel_rfl) (by kernel_rfl) (by rfl) ?ytrue3 hS ?ttrue3
        case ytrue3 =>
          intro w' hSw
          have hk := HF.out.grow hSw
          obtain ⟨k0, -⟩ := hk.c0.one
          obtain ⟨⟨q0, q1, q2, q3, q4, q5, q6⟩, -⟩ := hk.c3.seven
          clear hk
          go_simp
          (try with_reducible rfl)
        simp only [Act.put, List.setIfInBounds_toArray, List.set_cons_zero, List.set_cons_succ]
        refine next_at 4 rfl (by kernel_rfl) (by rfl) (fun K hK => ?_)
        go_simp
        refine (HHD.out _).mono ?_
        rintro e w12 ⟨vh, rfl, hvh, hg2⟩
        have hS2 := Gr.step (Gr.drew (Gr.refl wz)) hg2
        obtain ⟨gh, ch, rfl, -, -, -⟩ := hvh.form (by rw [hbytes_len]; omega)
        rw [hbytes_len] at hvh ⊢
        have HE := Lib.hid (weq_any w12 (HRR.out _ hS2) hvh.rb)
        refine hK _ _ hS2 ?_
        clear hK K hvh hS hg2
        have hS := hS2
        clear hS2
        by_cases hq : l.take 20 = hbytes (hdAt l) (gN l 2 2)
        · have hE : pkE l = 0 := by unfold pkE; rw [if_neg (by omega), if_neg (fun k => k HFM.out), if_pos hq]
          have HEZ := Lib.hid hE
          rw [decide_eq_true hq] at HE
          clear hq hE
          refine next_at 5 rfl (by kernel_rfl) (by rfl) (fun K hK => ?_)
          go_simp
          refine HE.out.mono ?_
          rintro e w13 ⟨rfl, rfl⟩
          refine hK _ _ hS ?_
          clear hK K HE
          refine next_at 6 rfl (by kernel_rfl) (by rfl) (fun K hK => ?_)
          go_simp
          refine hK _ _ hS ?_
          clear hK K
          refine wpAnyH_done (by kernel_rfl) ?_ _
          refine qz_normal ?_
          have hk := HF.out.grow hS
          obtain ⟨⟨x0, x1, x2, x3, x4, x5, x6⟩, z0, z1, z2, z3, z4, z5, z6⟩ := hk.c3.seven
          obtain ⟨⟨y0, y1, y2, y3, y4, y5, y6⟩, v0, v1, v2, v3, v4, v5, v6⟩ := hk.c1.seven
          go_wp2_with fail
          have hc := hk.c1.fill7 (.int .i64 (gN l 1 1 : Nat)) (.int .i64 (gN l 4 2 : Nat)) (.int .i64 (gN l 8 1 : Nat)) (.int .i64 (gN l 9 1 : Nat)) (.bool true) (.int .u32 (gN l 12 4 : Nat)) (.int .u32 (gN l 16 4 : Nat))
          have hgf := gr_fill7 hk.gr (show w.heap.size ≤ w.heap.size + 1 by omega) (.int .i64 (gN l 1 1 : Nat)) (.int .i64 (gN l 4 2 : Nat)) (.int .i64 (gN l 8 1 : Nat)) (.int .i64 (gN l 9 1 : Nat)) (.bool true) (.int .u32 (gN l 12 4 : Nat)) (.int .u32 (gN l 16 4 : Nat))
          clear x0 x1 x2 x3 x4 x5 x6 z0 z1 z2 z3 z4 z5 z6 y0 y1 y2 y3 y4 y5 y6 v0 v1 v2 v3 v4 v5 v6 hk
          generalize (((((((w12.setCell ⟨w.heap.size + 1, 0, none⟩ (.int .i64 (gN l 1 1 : Nat))).setCell ⟨w.heap.size + 1, 1, none⟩ (.int .i64 (gN l 4 2 : Nat))).setCell ⟨w.heap.size + 1, 2, none⟩ (.int .i64 (gN l 8 1 : Nat))).setCell ⟨w.heap.size + 1, 3, none⟩ (.int .i64 (gN l 9 1 : Nat))).setCell ⟨w.heap.size + 1, 4, none⟩ (.bool true)).setCell ⟨w.heap.size + 1, 5, none⟩ (.int .u32 (gN l 12 4 : Nat))).setCell ⟨w.heap.size + 1, 6, none⟩ (.int .u32 (gN l 16 4 : Nat))) = wf at *
          obtain ⟨⟨c0, c1, c2, c3, c4, c5, c6⟩, -⟩ := hc.seven
          refine bodyPost_ret (v := .tuple #[.agg #[.int .i64 (gN l 1 1 : Nat), .int .i64 (gN l 4 2 : Nat), .int .i64 (gN l 8 1 : Nat), .int .i64 (gN l 9 1 : Nat), .bool true, .int .u32 (gN l 12 4 : Nat), .int .u32 (gN l 16 4 : Nat)], .int .i64 (gN l 2 2 : Nat), .int .i64 0]) (by simp [results, Tryz.results61, go_sem, c0, c1, c2, c3, c4, c5, c6]) rfl ⟨?_, hgf⟩
          obtain ⟨pe1, pe2⟩ := pk_ok HEZ.out
          rw [pe1, pe2, HEZ.out]
          have hkb : (hdAt l).keep = true := by show decide (gN l 6 2 = 16384) = true; rw [HDC.out]
          unfold Hd.v hdV
          rw [hkb]
          rfl
        · have hE : pkE l = 4 := by unfold pkE; rw [if_neg (by omega), if_neg (fun k => k HFM.out), if_neg hq]
          have HEZ := Lib.hid hE
          rw [decide_eq_false hq] at HE
          clear hq hE
          refine next_at 5 rfl (by kernel_rfl) (by rfl) (fun K hK => ?_)
          go_simp
          refine HE.out.mono ?_
          rintro e w13 ⟨rfl, rfl⟩
          refine hK _ _ hS ?_
          clear hK K HE
          refine next_at 6 rfl (by kernel_rfl) (by rfl) (fun K hK => ?_)
          go_simp
          refine hK _ _ hS ?_
          clear hK K
          refine wpAnyH_done (by kernel_rfl) ?_ _
          refine qz_normal ?_
          have hk := HF.out.grow hS
          obtain ⟨⟨y0, y1, y2, y3, y4, y5, y6⟩, v0, v1, v2, v3, v4, v5, v6⟩ := hk.c1.seven
          go_wp2_with fail
          have hc := hk.c1.fill7 (.int .i64 0) (.int .i64 0) (.int .i64 0) (.int .i64 0) (.bool false) (.int .u32 0) (.int .u32 0)
          have hgf := gr_fill7 hk.gr (show w.heap.size ≤ w.heap.size + 1 by omega) (.int .i64 0) (.int .i64 0) (.int .i64 0) (.int .i64 0) (.bool false) (.int .u32 0) (.int .u32 0)
          clear y0 y1 y2 y3 y4 y5 y6 v0 v1 v2 v3 v4 v5 v6 hk
          generalize (((((((w12.setCell ⟨w.heap.size + 1, 0, none⟩ (.int .i64 0)).setCell ⟨w.heap.size + 1, 1, none⟩ (.int .i64 0)).setCell ⟨w.heap.size + 1, 2, none⟩ (.int .i64 0)).setCell ⟨w.heap.size + 1, 3, none⟩ (.int .i64 0)).setCell ⟨w.heap.size + 1, 4, none⟩ (.bool false)).setCell ⟨w.heap.size + 1, 5, none⟩ (.int .u32 0)).setCell ⟨w.heap.size + 1, 6, none⟩ (.int .u32 0)) = wf at *
          obtain ⟨⟨c0, c1, c2, c3, c4, c5, c6⟩, -⟩ := hc.seven
          exact bodyPost_ret (v := .tuple #[.agg #[.int .i64 0, .int .i64 0, .int .i64 0, .int .i64 0, .bool false, .int .u32 0, .int .u32 0], .int .i64 0, .int .i64 4]) (by simp [results, Tryz.results61, go_sem, c0, c1, c2, c3, c4, c5, c6]) rfl ⟨by obtain ⟨pe1, pe2⟩ := pk_err HEZ.out (by omega); rw [pe1, pe2, HEZ.out]; rfl, hgf⟩
    · have s1 : (((gN l 6 2 : Nat) : Int) == 16384) = false := by rw [beq_eq_false_iff_ne]; omega
      by_cases f0 : gN l 6 2 = 0
      · have s2 : (((gN l 6 2 : Nat) : Int) == 0) = true := by rw [beq_iff_eq]; omega
        by_cases n20 : gN l 2 2 < 20
        · have s3 : decide (((gN l 2 2 : Nat) : Int) < 20) = true := by rw [decide_eq_true_eq]; omega
          have hE := Lib.hid (show pkE l = 2 by unfold pkE; rw [if_neg (by omega), if_pos (fun k => by have := k.2.2; omega)])
          go_wp2_with fail
          have hf := (HP.out.put 6 (.int .u32 (gN l 16 4 : Nat)) (by simp)).put 4 (.bool false) (by simp)
          have hc := hf.c1.fill7 (.int .i64 0) (.int .i64 0) (.int .i64 0) (.int .i64 0) (.bool false) (.int .u32 0) (.int .u32 0)
          have hgf := gr_fill7 hf.gr (show w.heap.size ≤ w.heap.size + 1 by omega) (.int .i64 0) (.int .i64 0) (.int .i64 0) (.int .i64 0) (.bool false) (.int .u32 0) (.int .u32 0)
          clear x0 x1 x2 x3 x4 x5 x6 z0 z1 z2 z3 z4 z5 z6 y0 y1 y2 y3 y4 y5 y6 v0 v1 v2 v3 v4 v5 v6 hf
          generalize (((((((((w10.setCell ⟨w.heap.size + 3, 6, none⟩ (.int .u32 (gN l 16 4 : Nat))).setCell ⟨w.heap.size + 3, 4, none⟩ (.bool false)).setCell ⟨w.heap.size + 1, 0, none⟩ (.int .i64 0)).setCell ⟨w.heap.size + 1, 1, none⟩ (.int .i64 0)).setCell ⟨w.heap.size + 1, 2, none⟩ (.int .i64 0)).setCell ⟨w.heap.size + 1, 3, none⟩ (.int .i64 0)).setCell ⟨w.heap.size + 1, 4, none⟩ (.bool false)).setCell ⟨w.heap.size + 1, 5, none⟩ (.int .u32 0)).setCell ⟨w.heap.size + 1, 6, none⟩ (.int .u32 0)) = wf at *
          obtain ⟨⟨c0, c1, c2, c3, c4, c5, c6⟩, -⟩ := hc.seven
          exact bodyPost_ret (v := .tuple #[.agg #[.int .i64 0, .int .i64 0, .int .i64 0, .int .i64 0, .bool false, .int .u32 0, .int .u32 0], .int .i64 0, .int .i64 2]) (by simp [results, Tryz.results61, go_sem, c0, c1, c2, c3, c4, c5, c6]) rfl ⟨by obtain ⟨pe1, pe2⟩ := pk_err hE.out (by omega); rw [pe1, pe2, hE.out]; rfl, hgf⟩
        · have s3 : decide (((gN l 2 2 : Nat) : Int) < 20) = false := by rw [decide_eq_false_iff_not]; omega
          have HFM : Hid (formOk l) := Lib.hid ⟨e0, .inl f0, by omega⟩
          have HDC := Lib.hid (decide_eq_false f1)
          have HHD : Hid (∀ w, Calls Tryz.prog 60 #[.agg #[.int .i64 (gN l 1 1 : Nat), .int .i64 (gN l 4 2 : Nat), .int .i64 (gN l 8 1 : Nat), .int .i64 (gN l 9 1 : Nat), .bool false, .int .u32 (gN l 12 4 : Nat), .int .u32 (gN l 16 4 : Nat)], .int .i64 (gN l 2 2 : Nat)] w fun e w' => ∃ v', e = .returned v' ∧ OwB w.heap.size w' v' (hbytes (hdAt l) (gN l 2 2)) ∧ Gr w w') := Lib.hid (fun w => by
            have := header_any (hdAt l) (hdAt_ok HR.out.bytes) (gN l 2 2) b2 w
            have hkb : (hdAt l).keep = false := by show decide (gN l 6 2 = 16384) = false; rw [HDC.out]
            unfold Hd.v hdV at this
            rw [hkb] at this
            exact this)
          go_wp2_with fail
          have hf := (HP.out.put 6 (.int .u32 (gN l 16 4 : Nat)) (by simp)).put 4 (.bool false) (by simp)
          simp only [List.set_cons_zero, List.set_cons_succ] at hf
          clear x0 x1 x2 x3 x4 x5 x6 z0 z1 z2 z3 z4 z5 z6 y0 y1 y2 y3 y4 y5 y6 v0 v1 v2 v3 v4 v5 v6 HP
          generalize ((w10.setCell ⟨w.heap.size + 3, 6, none⟩ (.int .u32 (gN l 16 4 : Nat))).setCell ⟨w.heap.size + 3, 4, none⟩ (.bool false)) = wz at *
          have HF := Lib.hid hf
          clear hf
          have HRR := Lib.hid (fun w' (k : Gr wz w') => (HR.out.take (k := 20) (by omega)).gr (HF.out.gr.step k))
          have u1 : (20 : Int) ≤ (cap : Int) := by omega
          have u2 : 20 ≤ cap := by omega
          have hS : Gr wz wz.drew := Gr.drew (Gr.refl _)
          refine region_plain (Gr wz) (by kernel_rfl) ?_
          refine take_at 0 (some 62) (v := ?vfalse0) rfl rfl (by kernel_rfl) (by kernel_rfl) (by kernel_rfl) (by rfl) ?yfalse0 hS ?tfalse0
          case yfalse0 =>
            intro w' hSw
            have hk := HF.out.grow hSw
            obtain ⟨k0, -⟩ := hk.c0.one
            obtain ⟨⟨q0, q1, q2, q3, q4, q5, q6⟩, -⟩ := hk.c3.seven
            clear hk
            go_simp
            (try with_reducible rfl)
          simp only [Act.put, List.setIfInBounds_toArray, List.set_cons_zero, List.set_cons_succ]
          refine take_at 1 (some 63) (v := ?vfalse1) rfl rfl (by kernel_rfl) (by kernel_rfl) (by kernel_rfl) (by rfl) ?yfalse1 hS ?tfalse1
          case yfalse1 =>
            intro w' hSw
            have hk := HF.out.grow hSw
            obtain ⟨k0, -⟩ := hk.c0.one
            obtain ⟨⟨q0, q1, q2, q3, q4, q5, q6⟩, -⟩ := hk.c3.seven
            clear hk
            go_simp
            (try with_reducible rfl)
          simp only [Act.put, List.setIfInBounds_toArray, List.set_cons_zero, List.set_cons_succ]
          refine take_at 2 (some 64) (v := ?vfalse2) rfl rfl (by kernel_rfl) (by kernel_rfl) (by kernel_rfl) (by rfl) ?yfalse2 hS ?tfalse2
          case yfalse2 =>
            intro w' hSw
            have hk := HF.out.grow hSw
            obtain ⟨k0, -⟩ := hk.c0.one
            obtain ⟨⟨q0, q1, q2, q3, q4, q5, q6⟩, -⟩ := hk.c3.seven
            clear hk
            go_simp
            (try with_reducible rfl)
          simp only [Act.put, List.setIfInBounds_toArray, List.set_cons_zero, List.set_cons_succ]
          refine take_at 3 (some 65) (v := ?vfalse3) rfl rfl (by kernel_rfl) (by kernel_rfl) (by kernel_rfl) (by rfl) ?yfalse3 hS ?tfalse3
          case yfalse3 =>
            intro w' hSw
            have hk := HF.out.grow hSw
            obtain ⟨k0, -⟩ := hk.c0.one
            obtain ⟨⟨q0, q1, q2, q3, q4, q5, q6⟩, -⟩ := hk.c3.seven
            clear hk
            go_simp
            (try with_reducible rfl)
          simp only [Act.put, List.setIfInBounds_toArray, List.set_cons_zero, List.set_cons_succ]
          refine next_at 4 rfl (by kernel_rfl) (by rfl) (fun K hK => ?_)
          go_simp
          refine (HHD.out _).mono ?_
          rintro e w12 ⟨vh, rfl, hvh, hg2⟩
          have hS2 := Gr.step (Gr.drew (Gr.refl wz)) hg2
          obtain ⟨gh, ch, rfl, -, -, -⟩ := hvh.form (by rw [hbytes_len]; omega)
          rw [hbytes_len] at hvh ⊢
          have HE := Lib.hid (weq_any w12 (HRR.out _ hS2) hvh.rb)
          refine hK _ _ hS2 ?_
          clear hK K hvh hS hg2
          have hS := hS2
          clear hS2
          by_cases hq : l.take 20 = hbytes (hdAt l) (gN l 2 2)
          · have hE : pkE l = 0 := by unfold pkE; rw [if_neg (by omega), if_neg (fun k => k HFM.out), if_pos hq]
            have HEZ := Lib.hid hE
            rw [decide_eq_true hq] at HE
            clear hq hE
            refine next_at 5 rfl (by kernel_rfl) (by rfl) (fun K hK => ?_)
            go_simp
            refine HE.out.mono ?_
            rintro e w13 ⟨rfl, rfl⟩
            refine hK _ _ hS ?_
            clear hK K HE
            refine next_at 6 rfl (by kernel_rfl) (by rfl) (fun K hK => ?_)
            go_simp
            refine hK _ _ hS ?_
            clear hK K
            refine wpAnyH_done (by kernel_rfl) ?_ _
            refine qz_normal ?_
            have hk := HF.out.grow hS
            obtain ⟨⟨x0, x1, x2, x3, x4, x5, x6⟩, z0, z1, z2, z3, z4, z5, z6⟩ := hk.c3.seven
            obtain ⟨⟨y0, y1, y2, y3, y4, y5, y6⟩, v0, v1, v2, v3, v4, v5, v6⟩ := hk.c1.seven
            go_wp2_with fail
            have hc := hk.c1.fill7 (.int .i64 (gN l 1 1 : Nat)) (.int .i64 (gN l 4 2 : Nat)) (.int .i64 (gN l 8 1 : Nat)) (.int .i64 (gN l 9 1 : Nat)) (.bool false) (.int .u32 (gN l 12 4 : Nat)) (.int .u32 (gN l 16 4 : Nat))
            have hgf := gr_fill7 hk.gr (show w.heap.size ≤ w.heap.size + 1 by omega) (.int .i64 (gN l 1 1 : Nat)) (.int .i64 (gN l 4 2 : Nat)) (.int .i64 (gN l 8 1 : Nat)) (.int .i64 (gN l 9 1 : Nat)) (.bool false) (.int .u32 (gN l 12 4 : Nat)) (.int .u32 (gN l 16 4 : Nat))
            clear x0 x1 x2 x3 x4 x5 x6 z0 z1 z2 z3 z4 z5 z6 y0 y1 y2 y3 y4 y5 y6 v0 v1 v2 v3 v4 v5 v6 hk
            generalize (((((((w12.setCell ⟨w.heap.size + 1, 0, none⟩ (.int .i64 (gN l 1 1 : Nat))).setCell ⟨w.heap.size + 1, 1, none⟩ (.int .i64 (gN l 4 2 : Nat))).setCell ⟨w.heap.size + 1, 2, none⟩ (.int .i64 (gN l 8 1 : Nat))).setCell ⟨w.heap.size + 1, 3, none⟩ (.int .i64 (gN l 9 1 : Nat))).setCell ⟨w.heap.size + 1, 4, none⟩ (.bool false)).setCell ⟨w.heap.size + 1, 5, none⟩ (.int .u32 (gN l 12 4 : Nat))).setCell ⟨w.heap.size + 1, 6, none⟩ (.int .u32 (gN l 16 4 : Nat))) = wf at *
            obtain ⟨⟨c0, c1, c2, c3, c4, c5, c6⟩, -⟩ := hc.seven
            refine bodyPost_ret (v := .tuple #[.agg #[.int .i64 (gN l 1 1 : Nat), .int .i64 (gN l 4 2 : Nat), .int .i64 (gN l 8 1 : Nat), .int .i64 (gN l 9 1 : Nat), .bool false, .int .u32 (gN l 12 4 : Nat), .int .u32 (gN l 16 4 : Nat)], .int .i64 (gN l 2 2 : Nat), .int .i64 0]) (by simp [results, Tryz.results61, go_sem, c0, c1, c2, c3, c4, c5, c6]) rfl ⟨?_, hgf⟩
            obtain ⟨pe1, pe2⟩ := pk_ok HEZ.out
            rw [pe1, pe2, HEZ.out]
            have hkb : (hdAt l).keep = false := by show decide (gN l 6 2 = 16384) = false; rw [HDC.out]
            unfold Hd.v hdV
            rw [hkb]
            rfl
          · have hE : pkE l = 4 := by unfold pkE; rw [if_neg (by omega), if_neg (fun k => k HFM.out), if_neg hq]
            have HEZ := Lib.hid hE
            rw [decide_eq_false hq] at HE
            clear hq hE
            refine next_at 5 rfl (by kernel_rfl) (by rfl) (fun K hK => ?_)
            go_simp
            refine HE.out.mono ?_
            rintro e w13 ⟨rfl, rfl⟩
            refine hK _ _ hS ?_
            clear hK K HE
            refine next_at 6 rfl (by kernel_rfl) (by rfl) (fun K hK => ?_)
            go_simp
            refine hK _ _ hS ?_
            clear hK K
            refine wpAnyH_done (by kernel_rfl) ?_ _
            refine qz_normal ?_
            have hk := HF.out.grow hS
            obtain ⟨⟨y0, y1, y2, y3, y4, y5, y6⟩, v0, v1, v2, v3, v4, v5, v6⟩ := hk.c1.seven
            go_wp2_with fail
            have hc := hk.c1.fill7 (.int .i64 0) (.int .i64 0) (.int .i64 0) (.int .i64 0) (.bool false) (.int .u32 0) (.int .u32 0)
            have hgf := gr_fill7 hk.gr (show w.heap.size ≤ w.heap.size + 1 by omega) (.int .i64 0) (.int .i64 0) (.int .i64 0) (.int .i64 0) (.bool false) (.int .u32 0) (.int .u32 0)
            clear y0 y1 y2 y3 y4 y5 y6 v0 v1 v2 v3 v4 v5 v6 hk
            generalize (((((((w12.setCell ⟨w.heap.size + 1, 0, none⟩ (.int .i64 0)).setCell ⟨w.heap.size + 1, 1, none⟩ (.int .i64 0)).setCell ⟨w.heap.size + 1, 2, none⟩ (.int .i64 0)).setCell ⟨w.heap.size + 1, 3, none⟩ (.int .i64 0)).setCell ⟨w.heap.size + 1, 4, none⟩ (.bool false)).setCell ⟨w.heap.size + 1, 5, none⟩ (.int .u32 0)).setCell ⟨w.heap.size + 1, 6, none⟩ (.int .u32 0)) = wf at *
            obtain ⟨⟨c0, c1, c2, c3, c4, c5, c6⟩, -⟩ := hc.seven
            exact bodyPost_ret (v := .tuple #[.agg #[.int .i64 0, .int .i64 0, .int .i64 0, .int .i64 0, .bool false, .int .u32 0, .int .u32 0], .int .i64 0, .int .i64 4]) (by simp [results, Tryz.results61, go_sem, c0, c1, c2, c3, c4, c5, c6]) rfl ⟨by obtain ⟨pe1, pe2⟩ := pk_err HEZ.out (by omega); rw [pe1, pe2, HEZ.out]; rfl, hgf⟩
      · have s2 : (((gN l 6 2 : Nat) : Int) == 0) = false := by rw [beq_eq_false_iff_ne]; omega
        have hE := Lib.hid (show pkE l = 2 by unfold pkE; rw [if_neg (by omega), if_pos (fun k => by have := k.2.1; omega)])
        go_wp2_with fail
        have hf := (HP.out.put 6 (.int .u32 (gN l 16 4 : Nat)) (by simp)).put 4 (.bool false) (by simp)
        have hc := hf.c1.fill7 (.int .i64 0) (.int .i64 0) (.int .i64 0) (.int .i64 0) (.bool false) (.int .u32 0) (.int .u32 0)
        have hgf := gr_fill7 hf.gr (show w.heap.size ≤ w.heap.size + 1 by omega) (.int .i64 0) (.int .i64 0) (.int .i64 0) (.int .i64 0) (.bool false) (.int .u32 0) (.int .u32 0)
        clear x0 x1 x2 x3 x4 x5 x6 z0 z1 z2 z3 z4 z5 z6 y0 y1 y2 y3 y4 y5 y6 v0 v1 v2 v3 v4 v5 v6 hf
        generalize (((((((((w10.setCell ⟨w.heap.size + 3, 6, none⟩ (.int .u32 (gN l 16 4 : Nat))).setCell ⟨w.heap.size + 3, 4, none⟩ (.bool false)).setCell ⟨w.heap.size + 1, 0, none⟩ (.int .i64 0)).setCell ⟨w.heap.size + 1, 1, none⟩ (.int .i64 0)).setCell ⟨w.heap.size + 1, 2, none⟩ (.int .i64 0)).setCell ⟨w.heap.size + 1, 3, none⟩ (.int .i64 0)).setCell ⟨w.heap.size + 1, 4, none⟩ (.bool false)).setCell ⟨w.heap.size + 1, 5, none⟩ (.int .u32 0)).setCell ⟨w.heap.size + 1, 6, none⟩ (.int .u32 0)) = wf at *
        obtain ⟨⟨c0, c1, c2, c3, c4, c5, c6⟩, -⟩ := hc.seven
        exact bodyPost_ret (v := .tuple #[.agg #[.int .i64 0, .int .i64 0, .int .i64 0, .int .i64 0, .bool false, .int .u32 0, .int .u32 0], .int .i64 0, .int .i64 2]) (by simp [results, Tryz.results61, go_sem, c0, c1, c2, c3, c4, c5, c6]) rfl ⟨by obtain ⟨pe1, pe2⟩ := pk_err hE.out (by omega); rw [pe1, pe2, hE.out]; rfl, hgf⟩
  · have s0 : (((gN l 0 1 : Nat) : Int) == 69) = false := by rw [beq_eq_false_iff_ne]; omega
    have hE := Lib.hid (show pkE l = 2 by unfold pkE; rw [if_neg (by omega), if_pos (fun k => e0 k.1)])
    by_cases f1 : gN l 6 2 = 16384
    · have s1 : (((gN l 6 2 : Nat) : Int) == 16384) = true := by rw [beq_iff_eq]; omega
      go_wp2_with fail
      have hf := (HP.out.put 6 (.int .u32 (gN l 16 4 : Nat)) (by simp)).put 4 (.bool true) (by simp)
      have hc := hf.c1.fill7 (.int .i64 0) (.int .i64 0) (.int .i64 0) (.int .i64 0) (.bool false) (.int .u32 0) (.int .u32 0)
      have hgf := gr_fill7 hf.gr (show w.heap.size ≤ w.heap.size + 1 by omega) (.int .i64 0) (.int .i64 0) (.int .i64 0) (.int .i64 0) (.bool false) (.int .u32 0) (.int .u32 0)
      clear x0 x1 x2 x3 x4 x5 x6 z0 z1 z2 z3 z4 z5 z6 y0 y1 y2 y3 y4 y5 y6 v0 v1 v2 v3 v4 v5 v6 hf
      generalize (((((((((w10.setCell ⟨w.heap.size + 3, 6, none⟩ (.int .u32 (gN l 16 4 : Nat))).setCell ⟨w.heap.size + 3, 4, none⟩ (.bool true)).setCell ⟨w.heap.size + 1, 0, none⟩ (.int .i64 0)).setCell ⟨w.heap.size + 1, 1, none⟩ (.int .i64 0)).setCell ⟨w.heap.size + 1, 2, none⟩ (.int .i64 0)).setCell ⟨w.heap.size + 1, 3, none⟩ (.int .i64 0)).setCell ⟨w.heap.size + 1, 4, none⟩ (.bool false)).setCell ⟨w.heap.size + 1, 5, none⟩ (.int .u32 0)).setCell ⟨w.heap.size + 1, 6, none⟩ (.int .u32 0)) = wf at *
      obtain ⟨⟨c0, c1, c2, c3, c4, c5, c6⟩, -⟩ := hc.seven
      exact bodyPost_ret (v := .tuple #[.agg #[.int .i64 0, .int .i64 0, .int .i64 0, .int .i64 0, .bool false, .int .u32 0, .int .u32 0], .int .i64 0, .int .i64 2]) (by simp [results, Tryz.results61, go_sem, c0, c1, c2, c3, c4, c5, c6]) rfl ⟨by obtain ⟨pe1, pe2⟩ := pk_err hE.out (by omega); rw [pe1, pe2, hE.out]; rfl, hgf⟩
    · have s1 : (((gN l 6 2 : Nat) : Int) == 16384) = false := by rw [beq_eq_false_iff_ne]; omega
      go_wp2_with fail
      have hf := (HP.out.put 6 (.int .u32 (gN l 16 4 : Nat)) (by simp)).put 4 (.bool false) (by simp)
      have hc := hf.c1.fill7 (.int .i64 0) (.int .i64 0) (.int .i64 0) (.int .i64 0) (.bool false) (.int .u32 0) (.int .u32 0)
      have hgf := gr_fill7 hf.gr (show w.heap.size ≤ w.heap.size + 1 by omega) (.int .i64 0) (.int .i64 0) (.int .i64 0) (.int .i64 0) (.bool false) (.int .u32 0) (.int .u32 0)
      clear x0 x1 x2 x3 x4 x5 x6 z0 z1 z2 z3 z4 z5 z6 y0 y1 y2 y3 y4 y5 y6 v0 v1 v2 v3 v4 v5 v6 hf
      generalize (((((((((w10.setCell ⟨w.heap.size + 3, 6, none⟩ (.int .u32 (gN l 16 4 : Nat))).setCell ⟨w.heap.size + 3, 4, none⟩ (.bool false)).setCell ⟨w.heap.size + 1, 0, none⟩ (.int .i64 0)).setCell ⟨w.heap.size + 1, 1, none⟩ (.int .i64 0)).setCell ⟨w.heap.size + 1, 2, none⟩ (.int .i64 0)).setCell ⟨w.heap.size + 1, 3, none⟩ (.int .i64 0)).setCell ⟨w.heap.size + 1, 4, none⟩ (.bool false)).setCell ⟨w.heap.size + 1, 5, none⟩ (.int .u32 0)).setCell ⟨w.heap.size + 1, 6, none⟩ (.int .u32 0)) = wf at *
      obtain ⟨⟨c0, c1, c2, c3, c4, c5, c6⟩, -⟩ := hc.seven
      exact bodyPost_ret (v := .tuple #[.agg #[.int .i64 0, .int .i64 0, .int .i64 0, .int .i64 0, .bool false, .int .u32 0, .int .u32 0], .int .i64 0, .int .i64 2]) (by simp [results, Tryz.results61, go_sem, c0, c1, c2, c3, c4, c5, c6]) rfl ⟨by obtain ⟨pe1, pe2⟩ := pk_err hE.out (by omega); rw [pe1, pe2, hE.out]; rfl, hgf⟩
theorem peek_any {p : Nat → Prop} {v : Value} {l : List Nat} (w : World) (hr : Rb p w v l) (hl : l.length ≤ 90000) :
    Calls Tryz.prog 61 #[v] w fun e w' => e = .returned (.tuple #[pkH l, .int .i64 (pkN l : Nat), .int .i64 (pkE l : Nat)]) ∧ Gr w w' := by
  by_cases h : l.length < 20
  · have hE : pkE l = 3 := if_pos h
    obtain ⟨pe1, pe2⟩ := pk_err hE (by omega)
    rw [pe1, pe2, hE]
    exact peek_short w hr h
  · exact peek_long w hr (by omega) hl
end Go.Proofs.YtkpejaiigopmgaaGreatDoor
