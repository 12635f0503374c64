/- The document's decoders of transport: early errors, the whole contracts. -/
import Derived.Test.YtlkhdbgknkjioaaKk1
import Derived.Test.YtlkhdbgknkjioaaKk2
import Derived.Test.YtlkhdbgknkjioaaKk3
import Derived.Test.YtlkhdbgknkjioaaKk4
import Derived.WalkKit
import Derived.WalkSpells
import Derived.WalkLawsBesides
import Derived.WalkSmall
import Derived.Handy
import Derived.BigQuiet
import Derived.Deep.QuietTactic
import Derived.Deep.RegionHeld3
import Derived.Deep.DeepFit
import Derived.Below
import Derived.Lib.Hide
import Derived.Lib.QuietBelow
import Derived.Deep.DeepCutAuto
namespace Go.Proofs.Ytlkhdbgknkjioaa
open Go Go.RowKit Go.Sort
set_option maxRecDepth 100000
set_option linter.unusedVariables false
set_option linter.unusedSimpArgs false
set_option linter.unusedVariables false
theorem gN_twoK {l : List Nat} {i : Nat} (h : i + 2 ≤ l.length) : gN l i 2 = gN l i 1 * 256 + gN l (i + 1) 1 := by
  rw [gN_oneK (show i < l.length by omega), gN_oneK (show i + 1 < l.length by omega)]
  unfold gN
  rw [List.drop_eq_getElem_cons (show i < l.length by omega), List.take_succ_cons, List.drop_eq_getElem_cons (show i + 1 < l.length by omega), List.take_succ_cons, List.take_zero, List.getD_eq_getElem?_getD, List.getD_eq_getElem?_getD, List.getElem?_eq_getElem (show i < l.length by omega), List.getElem?_eq_getElem (show i + 1 < l.length by omega)]
  simp [bnum]
set_option maxHeartbeats 1000000 in
theorem rdecho_short {p : Nat → Prop} {v : Value} {l : List Nat} (w : World) (hr : Rb p w v l) (hs : l.length < 8) (hl : l.length ≤ 30000) :
    Calls Try.prog 51 #[v] w (DErr w echoZ0 3) := by
  have HR := Lib.hid hr
  have hlt := hr.bytes
  obtain ⟨av, cap, rfl, hcap, hmx⟩ := hr.form
  obtain ⟨L, hL⟩ : ∃ L, L = l.length := ⟨_, rfl⟩
  have HL := Lib.hid hL
  rw [← hL] at HR hl hcap hs ⊢
  clear hL hr
  have hC := CL.new w [.bool false, .int .i64 0, .int .i64 0, .slice none 0 0] 36 _ rfl
  have hS := Gr.alloc (Gr.refl w) (.cells #[.bool false, .int .i64 0, .int .i64 0, .slice none 0 0] 36)
  have d1 : decide ((L : Int) < 8) = true := by rw [decide_eq_true_eq]; omega
  go_enter Try.func51, Try.ntmps51
  go_upto_region 1 with fail
  have hle : w.heap.size ≤ w.heap.size := Nat.le_refl _
  generalize w.alloc (.cells #[.bool false, .int .i64 0, .int .i64 0, .slice none 0 0] 36) = ww at hC hS ⊢
  generalize hg0 : w.heap.size = g0 at hC ⊢
  replace hle : w.heap.size ≤ g0 := by omega
  clear hg0
  obtain ⟨⟨y0, y1, y2, y3⟩, u0, u1, u2, u3⟩ := hC.four
  have hcF := hC.fill [.bool false, .int .i64 0, .int .i64 0, .slice none 0 0] rfl
  have hgF := hS.fill hle [.bool false, .int .i64 0, .int .i64 0, .slice none 0 0] 0
  simp only [fillC, Nat.reduceAdd] at hcF hgF
  go_wp2_with fail
  clear y0 y1 y2 y3 u0 u1 u2 u3
  generalize ((((ww.setCell ⟨g0, 0, none⟩ (.bool false)).setCell ⟨g0, 1, none⟩ (.int .i64 0)).setCell ⟨g0, 2, none⟩ (.int .i64 0)).setCell ⟨g0, 3, none⟩ (.slice none 0 0)) = wF at hcF hgF ⊢
  obtain ⟨⟨c0, c1, c2, c3⟩, -⟩ := hcF.four
  exact bodyPost_ret (v := .tuple #[.agg #[.bool false, .int .i64 0, .int .i64 0, .slice none 0 0], .int .i64 3]) (by simp [results, Try.results51, go_sem, c0, c1, c2, c3]) rfl ⟨rfl, hgF⟩
set_option maxHeartbeats 1000000 in
theorem rdnote_short {p : Nat → Prop} {v : Value} {l : List Nat} (w : World) (hr : Rb p w v l) (hs : l.length < 36) (hl : l.length ≤ 30000) :
    Calls Try.prog 52 #[v] w (DErr w noteZ0 3) := by
  have HR := Lib.hid hr
  have hlt := hr.bytes
  obtain ⟨av, cap, rfl, hcap, hmx⟩ := hr.form
  obtain ⟨L, hL⟩ : ∃ L, L = l.length := ⟨_, rfl⟩
  have HL := Lib.hid hL
  rw [← hL] at HR hl hcap hs ⊢
  clear hL hr
  have hC := CL.new w [.int .i64 0, .int .i64 0, .slice none 0 0] 39 _ rfl
  have hS := Gr.alloc (Gr.refl w) (.cells #[.int .i64 0, .int .i64 0, .slice none 0 0] 39)
  have d1 : decide ((L : Int) < 36) = true := by rw [decide_eq_true_eq]; omega
  go_enter Try.func52, Try.ntmps52
  go_upto_region 1 with fail
  have hle : w.heap.size ≤ w.heap.size := Nat.le_refl _
  generalize w.alloc (.cells #[.int .i64 0, .int .i64 0, .slice none 0 0] 39) = ww at hC hS ⊢
  generalize hg0 : w.heap.size = g0 at hC ⊢
  replace hle : w.heap.size ≤ g0 := by omega
  clear hg0
  obtain ⟨⟨y0, y1, y2⟩, u0, u1, u2⟩ := hC.three
  have hcF := hC.fill [.int .i64 0, .int .i64 0, .slice none 0 0] rfl
  have hgF := hS.fill hle [.int .i64 0, .int .i64 0, .slice none 0 0] 0
  simp only [fillC, Nat.reduceAdd] at hcF hgF
  go_wp2_with fail
  clear y0 y1 y2 u0 u1 u2
  generalize (((ww.setCell ⟨g0, 0, none⟩ (.int .i64 0)).setCell ⟨g0, 1, none⟩ (.int .i64 0)).setCell ⟨g0, 2, none⟩ (.slice none 0 0)) = wF at hcF hgF ⊢
  obtain ⟨⟨c0, c1, c2⟩, -⟩ := hcF.three
  exact bodyPost_ret (v := .tuple #[.agg #[.int .i64 0, .int .i64 0, .slice none 0 0], .int .i64 3]) (by simp [results, Try.results52, go_sem, c0, c1, c2]) rfl ⟨rfl, hgF⟩
set_option maxHeartbeats 1000000 in
theorem rdudp_short {p : Nat → Prop} {v : Value} {l : List Nat} (src dst : Nat) (w : World) (hr : Rb p w v l) (hs : l.length < 8) (hl : l.length ≤ 30000) :
    Calls Try.prog 53 #[.int .u32 src, .int .u32 dst, v] w (DErr w udpZ0 3) := by
  have HR := Lib.hid hr
  have hlt := hr.bytes
  obtain ⟨av, cap, rfl, hcap, hmx⟩ := hr.form
  obtain ⟨L, hL⟩ : ∃ L, L = l.length := ⟨_, rfl⟩
  have HL := Lib.hid hL
  rw [← hL] at HR hl hcap hs ⊢
  clear hL hr
  have hC := CL.new w [.int .i64 0, .int .i64 0, .slice none 0 0] 41 _ rfl
  have hS := Gr.alloc (Gr.refl w) (.cells #[.int .i64 0, .int .i64 0, .slice none 0 0] 41)
  have d1 : decide ((L : Int) < 8) = true := by rw [decide_eq_true_eq]; omega
  go_enter Try.func53, Try.ntmps53
  go_upto_region 1 with fail
  have hle : w.heap.size ≤ w.heap.size := Nat.le_refl _
  generalize w.alloc (.cells #[.int .i64 0, .int .i64 0, .slice none 0 0] 41) = ww at hC hS ⊢
  generalize hg0 : w.heap.size = g0 at hC ⊢
  replace hle : w.heap.size ≤ g0 := by omega
  clear hg0
  obtain ⟨⟨y0, y1, y2⟩, u0, u1, u2⟩ := hC.three
  have hcF := hC.fill [.int .i64 0, .int .i64 0, .slice none 0 0] rfl
  have hgF := hS.fill hle [.int .i64 0, .int .i64 0, .slice none 0 0] 0
  simp only [fillC, Nat.reduceAdd] at hcF hgF
  go_wp2_with fail
  clear y0 y1 y2 u0 u1 u2
  generalize (((ww.setCell ⟨g0, 0, none⟩ (.int .i64 0)).setCell ⟨g0, 1, none⟩ (.int .i64 0)).setCell ⟨g0, 2, none⟩ (.slice none 0 0)) = wF at hcF hgF ⊢
  obtain ⟨⟨c0, c1, c2⟩, -⟩ := hcF.three
  exact bodyPost_ret (v := .tuple #[.agg #[.int .i64 0, .int .i64 0, .slice none 0 0], .int .i64 3]) (by simp [results, Try.results53, go_sem, c0, c1, c2]) rfl ⟨rfl, hgF⟩
set_option maxHeartbeats 1000000 in
theorem rdtcp_short {p : Nat → Prop} {v : Value} {l : List Nat} (src dst : Nat) (w : World) (hr : Rb p w v l) (hs : l.length < 20) (hl : l.length ≤ 30000) :
    Calls Try.prog 54 #[.int .u32 src, .int .u32 dst, v] w (DErr w tcpZ0 3) := by
  have HR := Lib.hid hr
  have hlt := hr.bytes
  obtain ⟨av, cap, rfl, hcap, hmx⟩ := hr.form
  obtain ⟨L, hL⟩ : ∃ L, L = l.length := ⟨_, rfl⟩
  have HL := Lib.hid hL
  rw [← hL] at HR hl hcap hs ⊢
  clear hL hr
  have hC := CL.new w [.int .i64 0, .int .i64 0, .int .i64 0, .int .i64 0, .int .i64 0, .int .i64 0, .slice none 0 0] 44 _ rfl
  have hS := Gr.alloc (Gr.refl w) (.cells #[.int .i64 0, .int .i64 0, .int .i64 0, .int .i64 0, .int .i64 0, .int .i64 0, .slice none 0 0] 44)
  have d1 : decide ((L : Int) < 20) = true := by rw [decide_eq_true_eq]; omega
  go_enter Try.func54, Try.ntmps54
  go_upto_region 1 with fail
  have hle : w.heap.size ≤ w.heap.size := Nat.le_refl _
  generalize w.alloc (.cells #[.int .i64 0, .int .i64 0, .int .i64 0, .int .i64 0, .int .i64 0, .int .i64 0, .slice none 0 0] 44) = ww at hC hS ⊢
  generalize hg0 : w.heap.size = g0 at hC ⊢
  replace hle : w.heap.size ≤ g0 := by omega
  clear hg0
  obtain ⟨⟨y0, y1, y2, y3, y4, y5, y6⟩, u0, u1, u2, u3, u4, u5, u6⟩ := hC.seven
  have hcF := hC.fill [.int .i64 0, .int .i64 0, .int .i64 0, .int .i64 0, .int .i64 0, .int .i64 0, .slice none 0 0] rfl
  have hgF := hS.fill hle [.int .i64 0, .int .i64 0, .int .i64 0, .int .i64 0, .int .i64 0, .int .i64 0, .slice none 0 0] 0
  simp only [fillC, Nat.reduceAdd] at hcF hgF
  go_wp2_with fail
  clear y0 y1 y2 y3 y4 y5 y6 u0 u1 u2 u3 u4 u5 u6
  generalize (((((((ww.setCell ⟨g0, 0, none⟩ (.int .i64 0)).setCell ⟨g0, 1, none⟩ (.int .i64 0)).setCell ⟨g0, 2, none⟩ (.int .i64 0)).setCell ⟨g0, 3, none⟩ (.int .i64 0)).setCell ⟨g0, 4, none⟩ (.int .i64 0)).setCell ⟨g0, 5, none⟩ (.int .i64 0)).setCell ⟨g0, 6, none⟩ (.slice none 0 0)) = wF at hcF hgF ⊢
  obtain ⟨⟨c0, c1, c2, c3, c4, c5, c6⟩, -⟩ := hcF.seven
  exact bodyPost_ret (v := .tuple #[.agg #[.int .i64 0, .int .i64 0, .int .i64 0, .int .i64 0, .int .i64 0, .int .i64 0, .slice none 0 0], .int .i64 3]) (by simp [results, Try.results54, go_sem, c0, c1, c2, c3, c4, c5, c6]) rfl ⟨rfl, hgF⟩
set_option maxHeartbeats 1000000 in
theorem rdecho_form0 {p : Nat → Prop} {v : Value} {l : List Nat} (w : World) (hr : Rb p w v l) (h8 : 8 ≤ l.length) (ha : gN l 0 1 ≠ 8) (hb : gN l 0 1 ≠ 0) (hl : l.length ≤ 30000) :
    Calls Try.prog 51 #[v] w (DErr w echoZ0 2) := by
  have HR := Lib.hid hr
  have hlt := hr.bytes
  obtain ⟨av, cap, rfl, hcap, hmx⟩ := hr.form
  obtain ⟨bk, off, rfl, -, -⟩ := hr.at' (i := 0) (by omega)
  obtain ⟨L, hL⟩ : ∃ L, L = l.length := ⟨_, rfl⟩
  have HL := Lib.hid hL
  rw [← hL] at HR hl hcap h8 ⊢
  clear hL hr
  have hC := CL.new w [.bool false, .int .i64 0, .int .i64 0, .slice none 0 0] 36 _ rfl
  have hS := Gr.alloc (Gr.refl w) (.cells #[.bool false, .int .i64 0, .int .i64 0, .slice none 0 0] 36)
  have d1 : decide ((L : Int) < 8) = false := by rw [decide_eq_false_iff_not]; omega
  obtain ⟨bz0, oz0, ez0, -, hz0⟩ := HR.out.at' (i := 0) (by rw [← HL.out]; omega)
  cases ez0
  rw [← gN_oneK (show 0 < l.length by rw [← HL.out]; omega)] at hz0
  rw [Nat.add_zero] at hz0
  generalize gN l 0 1 = B0 at *
  have n1 : ((B0 : Int) != 8) = true := by rw [bne_iff_ne]; omega
  have n2 : ((B0 : Int) != 0) = true := by rw [bne_iff_ne]; omega
  clear ha hb
  go_enter Try.func51, Try.ntmps51
  go_upto_region 1 with fail
  have hle : w.heap.size ≤ w.heap.size := Nat.le_refl _
  generalize w.alloc (.cells #[.bool false, .int .i64 0, .int .i64 0, .slice none 0 0] 36) = ww at hC hS ⊢
  generalize hg0 : w.heap.size = g0 at hC ⊢
  replace hle : w.heap.size ≤ g0 := by omega
  clear hg0
  have hq0 := cell_gr hS hz0
  obtain ⟨⟨y0, y1, y2, y3⟩, u0, u1, u2, u3⟩ := hC.four
  have hcF := hC.fill [.bool false, .int .i64 0, .int .i64 0, .slice none 0 0] rfl
  have hgF := hS.fill hle [.bool false, .int .i64 0, .int .i64 0, .slice none 0 0] 0
  simp only [fillC, Nat.reduceAdd] at hcF hgF
  go_wp2_with fail
  clear y0 y1 y2 y3 u0 u1 u2 u3
  generalize ((((ww.setCell ⟨g0, 0, none⟩ (.bool false)).setCell ⟨g0, 1, none⟩ (.int .i64 0)).setCell ⟨g0, 2, none⟩ (.int .i64 0)).setCell ⟨g0, 3, none⟩ (.slice none 0 0)) = wF at hcF hgF ⊢
  obtain ⟨⟨c0, c1, c2, c3⟩, -⟩ := hcF.four
  exact bodyPost_ret (v := .tuple #[.agg #[.bool false, .int .i64 0, .int .i64 0, .slice none 0 0], .int .i64 2]) (by simp [results, Try.results51, go_sem, c0, c1, c2, c3]) rfl ⟨rfl, hgF⟩
set_option maxHeartbeats 1000000 in
theorem rdecho_form1 {p : Nat → Prop} {v : Value} {l : List Nat} (w : World) (hr : Rb p w v l) (h8 : 8 ≤ l.length) (ha : gN l 0 1 = 8) (h1 : gN l 1 1 ≠ 0) (hl : l.length ≤ 30000) :
    Calls Try.prog 51 #[v] w (DErr w echoZ0 2) := by
  have HR := Lib.hid hr
  have hlt := hr.bytes
  obtain ⟨av, cap, rfl, hcap, hmx⟩ := hr.form
  obtain ⟨bk, off, rfl, -, -⟩ := hr.at' (i := 0) (by omega)
  obtain ⟨L, hL⟩ : ∃ L, L = l.length := ⟨_, rfl⟩
  have HL := Lib.hid hL
  rw [← hL] at HR hl hcap h8 ⊢
  clear hL hr
  have hC := CL.new w [.bool false, .int .i64 0, .int .i64 0, .slice none 0 0] 36 _ rfl
  have hS := Gr.alloc (Gr.refl w) (.cells #[.bool false, .int .i64 0, .int .i64 0, .slice none 0 0] 36)
  have d1 : decide ((L : Int) < 8) = false := by rw [decide_eq_false_iff_not]; omega
  obtain ⟨bz0, oz0, ez0, -, hz0⟩ := HR.out.at' (i := 0) (by rw [← HL.out]; omega)
  cases ez0
  rw [← gN_oneK (show 0 < l.length by rw [← HL.out]; omega)] at hz0
  rw [Nat.add_zero] at hz0
  obtain ⟨bz1, oz1, ez1, -, hz1⟩ := HR.out.at' (i := 1) (by rw [← HL.out]; omega)
  cases ez1
  rw [← gN_oneK (show 1 < l.length by rw [← HL.out]; omega)] at hz1
  rw [ha] at hz0
  generalize gN l 1 1 = B1 at *
  have n1 : ((B1 : Int) != 0) = true := by rw [bne_iff_ne]; omega
  clear ha h1
  go_enter Try.func51, Try.ntmps51
  go_upto_region 1 with fail
  have hle : w.heap.size ≤ w.heap.size := Nat.le_refl _
  generalize w.alloc (.cells #[.bool false, .int .i64 0, .int .i64 0, .slice none 0 0] 36) = ww at hC hS ⊢
  generalize hg0 : w.heap.size = g0 at hC ⊢
  replace hle : w.heap.size ≤ g0 := by omega
  clear hg0
  have hq0 := cell_gr hS hz0
  have hq1 := cell_gr hS hz1
  obtain ⟨⟨y0, y1, y2, y3⟩, u0, u1, u2, u3⟩ := hC.four
  have hcF := hC.fill [.bool false, .int .i64 0, .int .i64 0, .slice none 0 0] rfl
  have hgF := hS.fill hle [.bool false, .int .i64 0, .int .i64 0, .slice none 0 0] 0
  simp only [fillC, Nat.reduceAdd] at hcF hgF
  go_wp2_with fail
  clear y0 y1 y2 y3 u0 u1 u2 u3
  generalize ((((ww.setCell ⟨g0, 0, none⟩ (.bool false)).setCell ⟨g0, 1, none⟩ (.int .i64 0)).setCell ⟨g0, 2, none⟩ (.int .i64 0)).setCell ⟨g0, 3, none⟩ (.slice none 0 0)) = wF at hcF hgF ⊢
  obtain ⟨⟨c0, c1, c2, c3⟩, -⟩ := hcF.four
  exact bodyPost_ret (v := .tuple #[.agg #[.bool false, .int .i64 0, .int .i64 0, .slice none 0 0], .int .i64 2]) (by simp [results, Try.results51, go_sem, c0, c1, c2, c3]) rfl ⟨rfl, hgF⟩
set_option maxHeartbeats 1000000 in
theorem rdecho_limit1 {p : Nat → Prop} {v : Value} {l : List Nat} (w : World) (hr : Rb p w v l) (h8 : 8 ≤ l.length) (ha : gN l 0 1 = 8) (h1 : gN l 1 1 = 0) (hm : 1480 < l.length) (hl : l.length ≤ 30000) :
    Calls Try.prog 51 #[v] w (DErr w echoZ0 5) := by
  have HR := Lib.hid hr
  have hlt := hr.bytes
  obtain ⟨av, cap, rfl, hcap, hmx⟩ := hr.form
  obtain ⟨bk, off, rfl, -, -⟩ := hr.at' (i := 0) (by omega)
  obtain ⟨L, hL⟩ : ∃ L, L = l.length := ⟨_, rfl⟩
  have HL := Lib.hid hL
  rw [← hL] at HR hl hcap h8 hm ⊢
  clear hL hr
  have hC := CL.new w [.bool false, .int .i64 0, .int .i64 0, .slice none 0 0] 36 _ rfl
  have hS := Gr.alloc (Gr.refl w) (.cells #[.bool false, .int .i64 0, .int .i64 0, .slice none 0 0] 36)
  have d1 : decide ((L : Int) < 8) = false := by rw [decide_eq_false_iff_not]; omega
  obtain ⟨bz0, oz0, ez0, -, hz0⟩ := HR.out.at' (i := 0) (by rw [← HL.out]; omega)
  cases ez0
  rw [← gN_oneK (show 0 < l.length by rw [← HL.out]; omega)] at hz0
  rw [Nat.add_zero] at hz0
  obtain ⟨bz1, oz1, ez1, -, hz1⟩ := HR.out.at' (i := 1) (by rw [← HL.out]; omega)
  cases ez1
  rw [← gN_oneK (show 1 < l.length by rw [← HL.out]; omega)] at hz1
  rw [ha] at hz0
  rw [h1] at hz1
  have d2 : decide ((1480 : Int) < (L : Int)) = true := by rw [decide_eq_true_eq]; omega
  clear ha h1
  go_enter Try.func51, Try.ntmps51
  go_upto_region 1 with fail
  have hle : w.heap.size ≤ w.heap.size := Nat.le_refl _
  generalize w.alloc (.cells #[.bool false, .int .i64 0, .int .i64 0, .slice none 0 0] 36) = ww at hC hS ⊢
  generalize hg0 : w.heap.size = g0 at hC ⊢
  replace hle : w.heap.size ≤ g0 := by omega
  clear hg0
  have hq0 := cell_gr hS hz0
  have hq1 := cell_gr hS hz1
  obtain ⟨⟨y0, y1, y2, y3⟩, u0, u1, u2, u3⟩ := hC.four
  have hcF := hC.fill [.bool false, .int .i64 0, .int .i64 0, .slice none 0 0] rfl
  have hgF := hS.fill hle [.bool false, .int .i64 0, .int .i64 0, .slice none 0 0] 0
  simp only [fillC, Nat.reduceAdd] at hcF hgF
  go_wp2_with fail
  clear y0 y1 y2 y3 u0 u1 u2 u3
  generalize ((((ww.setCell ⟨g0, 0, none⟩ (.bool false)).setCell ⟨g0, 1, none⟩ (.int .i64 0)).setCell ⟨g0, 2, none⟩ (.int .i64 0)).setCell ⟨g0, 3, none⟩ (.slice none 0 0)) = wF at hcF hgF ⊢
  obtain ⟨⟨c0, c1, c2, c3⟩, -⟩ := hcF.four
  exact bodyPost_ret (v := .tuple #[.agg #[.bool false, .int .i64 0, .int .i64 0, .slice none 0 0], .int .i64 5]) (by simp [results, Try.results51, go_sem, c0, c1, c2, c3]) rfl ⟨rfl, hgF⟩
set_option maxHeartbeats 1000000 in
theorem rdecho_form2 {p : Nat → Prop} {v : Value} {l : List Nat} (w : World) (hr : Rb p w v l) (h8 : 8 ≤ l.length) (ha : gN l 0 1 = 0) (h1 : gN l 1 1 ≠ 0) (hl : l.length ≤ 30000) :
    Calls Try.prog 51 #[v] w (DErr w echoZ0 2) := by
  have HR := Lib.hid hr
  have hlt := hr.bytes
  obtain ⟨av, cap, rfl, hcap, hmx⟩ := hr.form
  obtain ⟨bk, off, rfl, -, -⟩ := hr.at' (i := 0) (by omega)
  obtain ⟨L, hL⟩ : ∃ L, L = l.length := ⟨_, rfl⟩
  have HL := Lib.hid hL
  rw [← hL] at HR hl hcap h8 ⊢
  clear hL hr
  have hC := CL.new w [.bool false, .int .i64 0, .int .i64 0, .slice none 0 0] 36 _ rfl
  have hS := Gr.alloc (Gr.refl w) (.cells #[.bool false, .int .i64 0, .int .i64 0, .slice none 0 0] 36)
  have d1 : decide ((L : Int) < 8) = false := by rw [decide_eq_false_iff_not]; omega
  obtain ⟨bz0, oz0, ez0, -, hz0⟩ := HR.out.at' (i := 0) (by rw [← HL.out]; omega)
  cases ez0
  rw [← gN_oneK (show 0 < l.length by rw [← HL.out]; omega)] at hz0
  rw [Nat.add_zero] at hz0
  obtain ⟨bz1, oz1, ez1, -, hz1⟩ := HR.out.at' (i := 1) (by rw [← HL.out]; omega)
  cases ez1
  rw [← gN_oneK (show 1 < l.length by rw [← HL.out]; omega)] at hz1
  rw [ha] at hz0
  generalize gN l 1 1 = B1 at *
  have n1 : ((B1 : Int) != 0) = true := by rw [bne_iff_ne]; omega
  clear ha h1
  go_enter Try.func51, Try.ntmps51
  go_upto_region 1 with fail
  have hle : w.heap.size ≤ w.heap.size := Nat.le_refl _
  generalize w.alloc (.cells #[.bool false, .int .i64 0, .int .i64 0, .slice none 0 0] 36) = ww at hC hS ⊢
  generalize hg0 : w.heap.size = g0 at hC ⊢
  replace hle : w.heap.size ≤ g0 := by omega
  clear hg0
  have hq0 := cell_gr hS hz0
  have hq1 := cell_gr hS hz1
  obtain ⟨⟨y0, y1, y2, y3⟩, u0, u1, u2, u3⟩ := hC.four
  have hcF := hC.fill [.bool false, .int .i64 0, .int .i64 0, .slice none 0 0] rfl
  have hgF := hS.fill hle [.bool false, .int .i64 0, .int .i64 0, .slice none 0 0] 0
  simp only [fillC, Nat.reduceAdd] at hcF hgF
  go_wp2_with fail
  clear y0 y1 y2 y3 u0 u1 u2 u3
  generalize ((((ww.setCell ⟨g0, 0, none⟩ (.bool false)).setCell ⟨g0, 1, none⟩ (.int .i64 0)).setCell ⟨g0, 2, none⟩ (.int .i64 0)).setCell ⟨g0, 3, none⟩ (.slice none 0 0)) = wF at hcF hgF ⊢
  obtain ⟨⟨c0, c1, c2, c3⟩, -⟩ := hcF.four
  exact bodyPost_ret (v := .tuple #[.agg #[.bool false, .int .i64 0, .int .i64 0, .slice none 0 0], .int .i64 2]) (by simp [results, Try.results51, go_sem, c0, c1, c2, c3]) rfl ⟨rfl, hgF⟩
set_option maxHeartbeats 1000000 in
theorem rdecho_limit2 {p : Nat → Prop} {v : Value} {l : List Nat} (w : World) (hr : Rb p w v l) (h8 : 8 ≤ l.length) (ha : gN l 0 1 = 0) (h1 : gN l 1 1 = 0) (hm : 1480 < l.length) (hl : l.length ≤ 30000) :
    Calls Try.prog 51 #[v] w (DErr w echoZ0 5) := by
  have HR := Lib.hid hr
  have hlt := hr.bytes
  obtain ⟨av, cap, rfl, hcap, hmx⟩ := hr.form
  obtain ⟨bk, off, rfl, -, -⟩ := hr.at' (i := 0) (by omega)
  obtain ⟨L, hL⟩ : ∃ L, L = l.length := ⟨_, rfl⟩
  have HL := Lib.hid hL
  rw [← hL] at HR hl hcap h8 hm ⊢
  clear hL hr
  have hC := CL.new w [.bool false, .int .i64 0, .int .i64 0, .slice none 0 0] 36 _ rfl
  have hS := Gr.alloc (Gr.refl w) (.cells #[.bool false, .int .i64 0, .int .i64 0, .slice none 0 0] 36)
  have d1 : decide ((L : Int) < 8) = false := by rw [decide_eq_false_iff_not]; omega
  obtain ⟨bz0, oz0, ez0, -, hz0⟩ := HR.out.at' (i := 0) (by rw [← HL.out]; omega)
  cases ez0
  rw [← gN_oneK (show 0 < l.length by rw [← HL.out]; omega)] at hz0
  rw [Nat.add_zero] at hz0
  obtain ⟨bz1, oz1, ez1, -, hz1⟩ := HR.out.at' (i := 1) (by rw [← HL.out]; omega)
  cases ez1
  rw [← gN_oneK (show 1 < l.length by rw [← HL.out]; omega)] at hz1
  rw [ha] at hz0
  rw [h1] at hz1
  have d2 : decide ((1480 : Int) < (L : Int)) = true := by rw [decide_eq_true_eq]; omega
  clear ha h1
  go_enter Try.func51, Try.ntmps51
  go_upto_region 1 with fail
  have hle : w.heap.size ≤ w.heap.size := Nat.le_refl _
  generalize w.alloc (.cells #[.bool false, .int .i64 0, .int .i64 0, .slice none 0 0] 36) = ww at hC hS ⊢
  generalize hg0 : w.heap.size = g0 at hC ⊢
  replace hle : w.heap.size ≤ g0 := by omega
  clear hg0
  have hq0 := cell_gr hS hz0
  have hq1 := cell_gr hS hz1
  obtain ⟨⟨y0, y1, y2, y3⟩, u0, u1, u2, u3⟩ := hC.four
  have hcF := hC.fill [.bool false, .int .i64 0, .int .i64 0, .slice none 0 0] rfl
  have hgF := hS.fill hle [.bool false, .int .i64 0, .int .i64 0, .slice none 0 0] 0
  simp only [fillC, Nat.reduceAdd] at hcF hgF
  go_wp2_with fail
  clear y0 y1 y2 y3 u0 u1 u2 u3
  generalize ((((ww.setCell ⟨g0, 0, none⟩ (.bool false)).setCell ⟨g0, 1, none⟩ (.int .i64 0)).setCell ⟨g0, 2, none⟩ (.int .i64 0)).setCell ⟨g0, 3, none⟩ (.slice none 0 0)) = wF at hcF hgF ⊢
  obtain ⟨⟨c0, c1, c2, c3⟩, -⟩ := hcF.four
  exact bodyPost_ret (v := .tuple #[.agg #[.bool false, .int .i64 0, .int .i64 0, .slice none 0 0], .int .i64 5]) (by simp [results, Try.results51, go_sem, c0, c1, c2, c3]) rfl ⟨rfl, hgF⟩
set_option maxHeartbeats 1000000 in
theorem rdnote_form0 {p : Nat → Prop} {v : Value} {l : List Nat} (w : World) (hr : Rb p w v l) (h8 : 36 ≤ l.length) (ha : gN l 0 1 ≠ 3) (hb : gN l 0 1 ≠ 11) (hl : l.length ≤ 30000) :
    Calls Try.prog 52 #[v] w (DErr w noteZ0 2) := by
  have HR := Lib.hid hr
  have hlt := hr.bytes
  obtain ⟨av, cap, rfl, hcap, hmx⟩ := hr.form
  obtain ⟨bk, off, rfl, -, -⟩ := hr.at' (i := 0) (by omega)
  obtain ⟨L, hL⟩ : ∃ L, L = l.length := ⟨_, rfl⟩
  have HL := Lib.hid hL
  rw [← hL] at HR hl hcap h8 ⊢
  clear hL hr
  have hC := CL.new w [.int .i64 0, .int .i64 0, .slice none 0 0] 39 _ rfl
  have hS := Gr.alloc (Gr.refl w) (.cells #[.int .i64 0, .int .i64 0, .slice none 0 0] 39)
  have d1 : decide ((L : Int) < 36) = false := by rw [decide_eq_false_iff_not]; omega
  obtain ⟨bz0, oz0, ez0, -, hz0⟩ := HR.out.at' (i := 0) (by rw [← HL.out]; omega)
  cases ez0
  rw [← gN_oneK (show 0 < l.length by rw [← HL.out]; omega)] at hz0
  rw [Nat.add_zero] at hz0
  generalize gN l 0 1 = B0 at *
  have n1 : ((B0 : Int) != 3) = true := by rw [bne_iff_ne]; omega
  have n2 : ((B0 : Int) != 11) = true := by rw [bne_iff_ne]; omega
  clear ha hb
  go_enter Try.func52, Try.ntmps52
  go_upto_region 1 with fail
  have hle : w.heap.size ≤ w.heap.size := Nat.le_refl _
  generalize w.alloc (.cells #[.int .i64 0, .int .i64 0, .slice none 0 0] 39) = ww at hC hS ⊢
  generalize hg0 : w.heap.size = g0 at hC ⊢
  replace hle : w.heap.size ≤ g0 := by omega
  clear hg0
  have hq0 := cell_gr hS hz0
  obtain ⟨⟨y0, y1, y2⟩, u0, u1, u2⟩ := hC.three
  have hcF := hC.fill [.int .i64 0, .int .i64 0, .slice none 0 0] rfl
  have hgF := hS.fill hle [.int .i64 0, .int .i64 0, .slice none 0 0] 0
  simp only [fillC, Nat.reduceAdd] at hcF hgF
  go_wp2_with fail
  clear y0 y1 y2 u0 u1 u2
  generalize (((ww.setCell ⟨g0, 0, none⟩ (.int .i64 0)).setCell ⟨g0, 1, none⟩ (.int .i64 0)).setCell ⟨g0, 2, none⟩ (.slice none 0 0)) = wF at hcF hgF ⊢
  obtain ⟨⟨c0, c1, c2⟩, -⟩ := hcF.three
  exact bodyPost_ret (v := .tuple #[.agg #[.int .i64 0, .int .i64 0, .slice none 0 0], .int .i64 2]) (by simp [results, Try.results52, go_sem, c0, c1, c2]) rfl ⟨rfl, hgF⟩
set_option maxHeartbeats 1000000 in
theorem rdnote_form3 {p : Nat → Prop} {v : Value} {l : List Nat} (w : World) (hr : Rb p w v l) (h8 : 36 ≤ l.length) (ha : gN l 0 1 = 3) (h1 : gN l 4 4 ≠ 0) (hl : l.length ≤ 30000) :
    Calls Try.prog 52 #[v] w (DErr w noteZ0 2) := by
  have HR := Lib.hid hr
  have hlt := hr.bytes
  obtain ⟨av, cap, rfl, hcap, hmx⟩ := hr.form
  obtain ⟨bk, off, rfl, -, -⟩ := hr.at' (i := 0) (by omega)
  obtain ⟨L, hL⟩ : ∃ L, L = l.length := ⟨_, rfl⟩
  have HL := Lib.hid hL
  rw [← hL] at HR hl hcap h8 ⊢
  clear hL hr
  have hC := CL.new w [.int .i64 0, .int .i64 0, .slice none 0 0] 39 _ rfl
  have hS := Gr.alloc (Gr.refl w) (.cells #[.int .i64 0, .int .i64 0, .slice none 0 0] 39)
  have d1 : decide ((L : Int) < 36) = false := by rw [decide_eq_false_iff_not]; omega
  obtain ⟨bz0, oz0, ez0, -, hz0⟩ := HR.out.at' (i := 0) (by rw [← HL.out]; omega)
  cases ez0
  rw [← gN_oneK (show 0 < l.length by rw [← HL.out]; omega)] at hz0
  rw [Nat.add_zero] at hz0
  have HG4 := Lib.hid (fun W (g : Gr w W) => rat_any 4 4 W (HR.out.gr g) (by omega) (by omega) (by rw [← HL.out]; omega) (by rw [← HL.out]; omega))
  rw [ha] at hz0
  generalize gN l 4 4 = C4 at *
  have n1 : ((C4 : Int) != 0) = true := by rw [bne_iff_ne]; omega
  clear ha h1
  go_enter Try.func52, Try.ntmps52
  go_upto_region 1 with fail
  have hle : w.heap.size ≤ w.heap.size := Nat.le_refl _
  generalize w.alloc (.cells #[.int .i64 0, .int .i64 0, .slice none 0 0] 39) = ww at hC hS ⊢
  generalize hg0 : w.heap.size = g0 at hC ⊢
  replace hle : w.heap.size ≤ g0 := by omega
  clear hg0
  have hq0 := cell_gr hS hz0
  go_wp2_with fail
  refine (HG4.out _ hS).mono ?_
  rintro e wj ⟨rfl, rfl⟩
  obtain ⟨⟨y0, y1, y2⟩, u0, u1, u2⟩ := hC.three
  have hcF := hC.fill [.int .i64 0, .int .i64 0, .slice none 0 0] rfl
  have hgF := hS.fill hle [.int .i64 0, .int .i64 0, .slice none 0 0] 0
  simp only [fillC, Nat.reduceAdd] at hcF hgF
  go_wp2_with fail
  clear y0 y1 y2 u0 u1 u2
  generalize (((ww.setCell ⟨g0, 0, none⟩ (.int .i64 0)).setCell ⟨g0, 1, none⟩ (.int .i64 0)).setCell ⟨g0, 2, none⟩ (.slice none 0 0)) = wF at hcF hgF ⊢
  obtain ⟨⟨c0, c1, c2⟩, -⟩ := hcF.three
  exact bodyPost_ret (v := .tuple #[.agg #[.int .i64 0, .int .i64 0, .slice none 0 0], .int .i64 2]) (by simp [results, Try.results52, go_sem, c0, c1, c2]) rfl ⟨rfl, hgF⟩
set_option maxHeartbeats 1000000 in
theorem rdnote_limit3 {p : Nat → Prop} {v : Value} {l : List Nat} (w : World) (hr : Rb p w v l) (h8 : 36 ≤ l.length) (ha : gN l 0 1 = 3) (h1 : gN l 4 4 = 0) (hm : 1480 < l.length) (hl : l.length ≤ 30000) :
    Calls Try.prog 52 #[v] w (DErr w noteZ0 5) := by
  have HR := Lib.hid hr
  have hlt := hr.bytes
  obtain ⟨av, cap, rfl, hcap, hmx⟩ := hr.form
  obtain ⟨bk, off, rfl, -, -⟩ := hr.at' (i := 0) (by omega)
  obtain ⟨L, hL⟩ : ∃ L, L = l.length := ⟨_, rfl⟩
  have HL := Lib.hid hL
  rw [← hL] at HR hl hcap h8 hm ⊢
  clear hL hr
  have hC := CL.new w [.int .i64 0, .int .i64 0, .slice none 0 0] 39 _ rfl
  have hS := Gr.alloc (Gr.refl w) (.cells #[.int .i64 0, .int .i64 0, .slice none 0 0] 39)
  have d1 : decide ((L : Int) < 36) = false := by rw [decide_eq_false_iff_not]; omega
  obtain ⟨bz0, oz0, ez0, -, hz0⟩ := HR.out.at' (i := 0) (by rw [← HL.out]; omega)
  cases ez0
  rw [← gN_oneK (show 0 < l.length by rw [← HL.out]; omega)] at hz0
  rw [Nat.add_zero] at hz0
  have HG4 := Lib.hid (fun W (g : Gr w W) => rat_any 4 4 W (HR.out.gr g) (by omega) (by omega) (by rw [← HL.out]; omega) (by rw [← HL.out]; omega))
  rw [ha] at hz0
  rw [h1] at HG4
  have d2 : decide ((1480 : Int) < (L : Int)) = true := by rw [decide_eq_true_eq]; omega
  clear ha h1
  go_enter Try.func52, Try.ntmps52
  go_upto_region 1 with fail
  have hle : w.heap.size ≤ w.heap.size := Nat.le_refl _
  generalize w.alloc (.cells #[.int .i64 0, .int .i64 0, .slice none 0 0] 39) = ww at hC hS ⊢
  generalize hg0 : w.heap.size = g0 at hC ⊢
  replace hle : w.heap.size ≤ g0 := by omega
  clear hg0
  have hq0 := cell_gr hS hz0
  go_wp2_with fail
  refine (HG4.out _ hS).mono ?_
  rintro e wj ⟨rfl, rfl⟩
  obtain ⟨⟨y0, y1, y2⟩, u0, u1, u2⟩ := hC.three
  have hcF := hC.fill [.int .i64 0, .int .i64 0, .slice none 0 0] rfl
  have hgF := hS.fill hle [.int .i64 0, .int .i64 0, .slice none 0 0] 0
  simp only [fillC, Nat.reduceAdd] at hcF hgF
  go_wp2_with fail
  clear y0 y1 y2 u0 u1 u2
  generalize (((ww.setCell ⟨g0, 0, none⟩ (.int .i64 0)).setCell ⟨g0, 1, none⟩ (.int .i64 0)).setCell ⟨g0, 2, none⟩ (.slice none 0 0)) = wF at hcF hgF ⊢
  obtain ⟨⟨c0, c1, c2⟩, -⟩ := hcF.three
  exact bodyPost_ret (v := .tuple #[.agg #[.int .i64 0, .int .i64 0, .slice none 0 0], .int .i64 5]) (by simp [results, Try.results52, go_sem, c0, c1, c2]) rfl ⟨rfl, hgF⟩
set_option maxHeartbeats 1000000 in
theorem rdnote_form11 {p : Nat → Prop} {v : Value} {l : List Nat} (w : World) (hr : Rb p w v l) (h8 : 36 ≤ l.length) (ha : gN l 0 1 = 11) (h1 : gN l 4 4 ≠ 0) (hl : l.length ≤ 30000) :
    Calls Try.prog 52 #[v] w (DErr w noteZ0 2) := by
  have HR := Lib.hid hr
  have hlt := hr.bytes
  obtain ⟨av, cap, rfl, hcap, hmx⟩ := hr.form
  obtain ⟨bk, off, rfl, -, -⟩ := hr.at' (i := 0) (by omega)
  obtain ⟨L, hL⟩ : ∃ L, L = l.length := ⟨_, rfl⟩
  have HL := Lib.hid hL
  rw [← hL] at HR hl hcap h8 ⊢
  clear hL hr
  have hC := CL.new w [.int .i64 0, .int .i64 0, .slice none 0 0] 39 _ rfl
  have hS := Gr.alloc (Gr.refl w) (.cells #[.int .i64 0, .int .i64 0, .slice none 0 0] 39)
  have d1 : decide ((L : Int) < 36) = false := by rw [decide_eq_false_iff_not]; omega
  obtain ⟨bz0, oz0, ez0, -, hz0⟩ := HR.out.at' (i := 0) (by rw [← HL.out]; omega)
  cases ez0
  rw [← gN_oneK (show 0 < l.length by rw [← HL.out]; omega)] at hz0
  rw [Nat.add_zero] at hz0
  have HG4 := Lib.hid (fun W (g : Gr w W) => rat_any 4 4 W (HR.out.gr g) (by omega) (by omega) (by rw [← HL.out]; omega) (by rw [← HL.out]; omega))
  rw [ha] at hz0
  generalize gN l 4 4 = C4 at *
  have n1 : ((C4 : Int) != 0) = true := by rw [bne_iff_ne]; omega
  clear ha h1
  go_enter Try.func52, Try.ntmps52
  go_upto_region 1 with fail
  have hle : w.heap.size ≤ w.heap.size := Nat.le_refl _
  generalize w.alloc (.cells #[.int .i64 0, .int .i64 0, .slice none 0 0] 39) = ww at hC hS ⊢
  generalize hg0 : w.heap.size = g0 at hC ⊢
  replace hle : w.heap.size ≤ g0 := by omega
  clear hg0
  have hq0 := cell_gr hS hz0
  go_wp2_with fail
  refine (HG4.out _ hS).mono ?_
  rintro e wj ⟨rfl, rfl⟩
  obtain ⟨⟨y0, y1, y2⟩, u0, u1, u2⟩ := hC.three
  have hcF := hC.fill [.int .i64 0, .int .i64 0, .slice none 0 0] rfl
  have hgF := hS.fill hle [.int .i64 0, .int .i64 0, .slice none 0 0] 0
  simp only [fillC, Nat.reduceAdd] at hcF hgF
  go_wp2_with fail
  clear y0 y1 y2 u0 u1 u2
  generalize (((ww.setCell ⟨g0, 0, none⟩ (.int .i64 0)).setCell ⟨g0, 1, none⟩ (.int .i64 0)).setCell ⟨g0, 2, none⟩ (.slice none 0 0)) = wF at hcF hgF ⊢
  obtain ⟨⟨c0, c1, c2⟩, -⟩ := hcF.three
  exact bodyPost_ret (v := .tuple #[.agg #[.int .i64 0, .int .i64 0, .slice none 0 0], .int .i64 2]) (by simp [results, Try.results52, go_sem, c0, c1, c2]) rfl ⟨rfl, hgF⟩
set_option maxHeartbeats 1000000 in
theorem rdnote_limit11 {p : Nat → Prop} {v : Value} {l : List Nat} (w : World) (hr : Rb p w v l) (h8 : 36 ≤ l.length) (ha : gN l 0 1 = 11) (h1 : gN l 4 4 = 0) (hm : 1480 < l.length) (hl : l.length ≤ 30000) :
    Calls Try.prog 52 #[v] w (DErr w noteZ0 5) := by
  have HR := Lib.hid hr
  have hlt := hr.bytes
  obtain ⟨av, cap, rfl, hcap, hmx⟩ := hr.form
  obtain ⟨bk, off, rfl, -, -⟩ := hr.at' (i := 0) (by omega)
  obtain ⟨L, hL⟩ : ∃ L, L = l.length := ⟨_, rfl⟩
  have HL := Lib.hid hL
  rw [← hL] at HR hl hcap h8 hm ⊢
  clear hL hr
  have hC := CL.new w [.int .i64 0, .int .i64 0, .slice none 0 0] 39 _ rfl
  have hS := Gr.alloc (Gr.refl w) (.cells #[.int .i64 0, .int .i64 0, .slice none 0 0] 39)
  have d1 : decide ((L : Int) < 36) = false := by rw [decide_eq_false_iff_not]; omega
  obtain ⟨bz0, oz0, ez0, -, hz0⟩ := HR.out.at' (i := 0) (by rw [← HL.out]; omega)
  cases ez0
  rw [← gN_oneK (show 0 < l.length by rw [← HL.out]; omega)] at hz0
  rw [Nat.add_zero] at hz0
  have HG4 := Lib.hid (fun W (g : Gr w W) => rat_any 4 4 W (HR.out.gr g) (by omega) (by omega) (by rw [← HL.out]; omega) (by rw [← HL.out]; omega))
  rw [ha] at hz0
  rw [h1] at HG4
  have d2 : decide ((1480 : Int) < (L : Int)) = true := by rw [decide_eq_true_eq]; omega
  clear ha h1
  go_enter Try.func52, Try.ntmps52
  go_upto_region 1 with fail
  have hle : w.heap.size ≤ w.heap.size := Nat.le_refl _
  generalize w.alloc (.cells #[.int .i64 0, .int .i64 0, .slice none 0 0] 39) = ww at hC hS ⊢
  generalize hg0 : w.heap.size = g0 at hC ⊢
  replace hle : w.heap.size ≤ g0 := by omega
  clear hg0
  have hq0 := cell_gr hS hz0
  go_wp2_with fail
  refine (HG4.out _ hS).mono ?_
  rintro e wj ⟨rfl, rfl⟩
  obtain ⟨⟨y0, y1, y2⟩, u0, u1, u2⟩ := hC.three
  have hcF := hC.fill [.int .i64 0, .int .i64 0, .slice none 0 0] rfl
  have hgF := hS.fill hle [.int .i64 0, .int .i64 0, .slice none 0 0] 0
  simp only [fillC, Nat.reduceAdd] at hcF hgF
  go_wp2_with fail
  clear y0 y1 y2 u0 u1 u2
  generalize (((ww.setCell ⟨g0, 0, none⟩ (.int .i64 0)).setCell ⟨g0, 1, none⟩ (.int .i64 0)).setCell ⟨g0, 2, none⟩ (.slice none 0 0)) = wF at hcF hgF ⊢
  obtain ⟨⟨c0, c1, c2⟩, -⟩ := hcF.three
  exact bodyPost_ret (v := .tuple #[.agg #[.int .i64 0, .int .i64 0, .slice none 0 0], .int .i64 5]) (by simp [results, Try.results52, go_sem, c0, c1, c2]) rfl ⟨rfl, hgF⟩
set_option maxHeartbeats 1000000 in
theorem rdudp_form {p : Nat → Prop} {v : Value} {l : List Nat} (src dst : Nat) (w : World) (hr : Rb p w v l) (h8 : 8 ≤ l.length) (ha : gN l 4 2 ≠ l.length) (hl : l.length ≤ 30000) :
    Calls Try.prog 53 #[.int .u32 src, .int .u32 dst, v] w (DErr w udpZ0 2) := by
  have HR := Lib.hid hr
  have hlt := hr.bytes
  obtain ⟨av, cap, rfl, hcap, hmx⟩ := hr.form
  obtain ⟨bk, off, rfl, -, -⟩ := hr.at' (i := 0) (by omega)
  obtain ⟨L, hL⟩ : ∃ L, L = l.length := ⟨_, rfl⟩
  have HL := Lib.hid hL
  rw [← hL] at HR hl hcap h8 ha ⊢
  clear hL hr
  have hC := CL.new w [.int .i64 0, .int .i64 0, .slice none 0 0] 41 _ rfl
  have hS := Gr.alloc (Gr.refl w) (.cells #[.int .i64 0, .int .i64 0, .slice none 0 0] 41)
  have d1 : decide ((L : Int) < 8) = false := by rw [decide_eq_false_iff_not]; omega
  have HG4 := Lib.hid (fun W (g : Gr w W) => rat_any 4 2 W (HR.out.gr g) (by omega) (by omega) (by rw [← HL.out]; omega) (by rw [← HL.out]; omega))
  generalize gN l 4 2 = C4 at *
  have n1 : ((C4 : Int) != (L : Int)) = true := by rw [bne_iff_ne]; omega
  clear ha
  go_enter Try.func53, Try.ntmps53
  go_upto_region 1 with fail
  have hle : w.heap.size ≤ w.heap.size := Nat.le_refl _
  generalize w.alloc (.cells #[.int .i64 0, .int .i64 0, .slice none 0 0] 41) = ww at hC hS ⊢
  generalize hg0 : w.heap.size = g0 at hC ⊢
  replace hle : w.heap.size ≤ g0 := by omega
  clear hg0
  go_wp2_with fail
  refine (HG4.out _ hS).mono ?_
  rintro e wj ⟨rfl, rfl⟩
  obtain ⟨⟨y0, y1, y2⟩, u0, u1, u2⟩ := hC.three
  have hcF := hC.fill [.int .i64 0, .int .i64 0, .slice none 0 0] rfl
  have hgF := hS.fill hle [.int .i64 0, .int .i64 0, .slice none 0 0] 0
  simp only [fillC, Nat.reduceAdd] at hcF hgF
  go_wp2_with fail
  clear y0 y1 y2 u0 u1 u2
  generalize (((ww.setCell ⟨g0, 0, none⟩ (.int .i64 0)).setCell ⟨g0, 1, none⟩ (.int .i64 0)).setCell ⟨g0, 2, none⟩ (.slice none 0 0)) = wF at hcF hgF ⊢
  obtain ⟨⟨c0, c1, c2⟩, -⟩ := hcF.three
  exact bodyPost_ret (v := .tuple #[.agg #[.int .i64 0, .int .i64 0, .slice none 0 0], .int .i64 2]) (by simp [results, Try.results53, go_sem, c0, c1, c2]) rfl ⟨rfl, hgF⟩
set_option maxHeartbeats 1000000 in
theorem rdudp_limit {p : Nat → Prop} {v : Value} {l : List Nat} (src dst : Nat) (w : World) (hr : Rb p w v l) (h8 : 8 ≤ l.length) (ha : gN l 4 2 = l.length) (hm : 1480 < l.length) (hl : l.length ≤ 30000) :
    Calls Try.prog 53 #[.int .u32 src, .int .u32 dst, v] w (DErr w udpZ0 5) := by
  have HR := Lib.hid hr
  have hlt := hr.bytes
  obtain ⟨av, cap, rfl, hcap, hmx⟩ := hr.form
  obtain ⟨bk, off, rfl, -, -⟩ := hr.at' (i := 0) (by omega)
  obtain ⟨L, hL⟩ : ∃ L, L = l.length := ⟨_, rfl⟩
  have HL := Lib.hid hL
  rw [← hL] at HR hl hcap h8 ha hm ⊢
  clear hL hr
  have hC := CL.new w [.int .i64 0, .int .i64 0, .slice none 0 0] 41 _ rfl
  have hS := Gr.alloc (Gr.refl w) (.cells #[.int .i64 0, .int .i64 0, .slice none 0 0] 41)
  have d1 : decide ((L : Int) < 8) = false := by rw [decide_eq_false_iff_not]; omega
  have HG4 := Lib.hid (fun W (g : Gr w W) => rat_any 4 2 W (HR.out.gr g) (by omega) (by omega) (by rw [← HL.out]; omega) (by rw [← HL.out]; omega))
  rw [ha] at HG4
  have d2 : decide ((1480 : Int) < (L : Int)) = true := by rw [decide_eq_true_eq]; omega
  clear ha
  go_enter Try.func53, Try.ntmps53
  go_upto_region 1 with fail
  have hle : w.heap.size ≤ w.heap.size := Nat.le_refl _
  generalize w.alloc (.cells #[.int .i64 0, .int .i64 0, .slice none 0 0] 41) = ww at hC hS ⊢
  generalize hg0 : w.heap.size = g0 at hC ⊢
  replace hle : w.heap.size ≤ g0 := by omega
  clear hg0
  go_wp2_with fail
  refine (HG4.out _ hS).mono ?_
  rintro e wj ⟨rfl, rfl⟩
  obtain ⟨⟨y0, y1, y2⟩, u0, u1, u2⟩ := hC.three
  have hcF := hC.fill [.int .i64 0, .int .i64 0, .slice none 0 0] rfl
  have hgF := hS.fill hle [.int .i64 0, .int .i64 0, .slice none 0 0] 0
  simp only [fillC, Nat.reduceAdd] at hcF hgF
  go_wp2_with fail
  clear y0 y1 y2 u0 u1 u2
  generalize (((ww.setCell ⟨g0, 0, none⟩ (.int .i64 0)).setCell ⟨g0, 1, none⟩ (.int .i64 0)).setCell ⟨g0, 2, none⟩ (.slice none 0 0)) = wF at hcF hgF ⊢
  obtain ⟨⟨c0, c1, c2⟩, -⟩ := hcF.three
  exact bodyPost_ret (v := .tuple #[.agg #[.int .i64 0, .int .i64 0, .slice none 0 0], .int .i64 5]) (by simp [results, Try.results53, go_sem, c0, c1, c2]) rfl ⟨rfl, hgF⟩
set_option maxHeartbeats 1000000 in
theorem rdtcp_form12 {p : Nat → Prop} {v : Value} {l : List Nat} (src dst : Nat) (w : World) (hr : Rb p w v l) (h8 : 20 ≤ l.length) (ha : gN l 12 1 ≠ 80) (hl : l.length ≤ 30000) :
    Calls Try.prog 54 #[.int .u32 src, .int .u32 dst, v] w (DErr w tcpZ0 2) := by
  have HR := Lib.hid hr
  have hlt := hr.bytes
  obtain ⟨av, cap, rfl, hcap, hmx⟩ := hr.form
  obtain ⟨bk, off, rfl, -, -⟩ := hr.at' (i := 0) (by omega)
  obtain ⟨L, hL⟩ : ∃ L, L = l.length := ⟨_, rfl⟩
  have HL := Lib.hid hL
  rw [← hL] at HR hl hcap h8 ⊢
  clear hL hr
  have hC := CL.new w [.int .i64 0, .int .i64 0, .int .i64 0, .int .i64 0, .int .i64 0, .int .i64 0, .slice none 0 0] 44 _ rfl
  have hS := Gr.alloc (Gr.refl w) (.cells #[.int .i64 0, .int .i64 0, .int .i64 0, .int .i64 0, .int .i64 0, .int .i64 0, .slice none 0 0] 44)
  have d1 : decide ((L : Int) < 20) = false := by rw [decide_eq_false_iff_not]; omega
  obtain ⟨bz12, oz12, ez12, -, hz12⟩ := HR.out.at' (i := 12) (by rw [← HL.out]; omega)
  cases ez12
  rw [← gN_oneK (show 12 < l.length by rw [← HL.out]; omega)] at hz12
  generalize gN l 12 1 = B0 at *
  have n1 : ((B0 : Int) != 80) = true := by rw [bne_iff_ne]; omega
  clear ha
  go_enter Try.func54, Try.ntmps54
  go_upto_region 1 with fail
  have hle : w.heap.size ≤ w.heap.size := Nat.le_refl _
  generalize w.alloc (.cells #[.int .i64 0, .int .i64 0, .int .i64 0, .int .i64 0, .int .i64 0, .int .i64 0, .slice none 0 0] 44) = ww at hC hS ⊢
  generalize hg0 : w.heap.size = g0 at hC ⊢
  replace hle : w.heap.size ≤ g0 := by omega
  clear hg0
  have hq12 := cell_gr hS hz12
  obtain ⟨⟨y0, y1, y2, y3, y4, y5, y6⟩, u0, u1, u2, u3, u4, u5, u6⟩ := hC.seven
  have hcF := hC.fill [.int .i64 0, .int .i64 0, .int .i64 0, .int .i64 0, .int .i64 0, .int .i64 0, .slice none 0 0] rfl
  have hgF := hS.fill hle [.int .i64 0, .int .i64 0, .int .i64 0, .int .i64 0, .int .i64 0, .int .i64 0, .slice none 0 0] 0
  simp only [fillC, Nat.reduceAdd] at hcF hgF
  go_wp2_with fail
  clear y0 y1 y2 y3 y4 y5 y6 u0 u1 u2 u3 u4 u5 u6
  generalize (((((((ww.setCell ⟨g0, 0, none⟩ (.int .i64 0)).setCell ⟨g0, 1, none⟩ (.int .i64 0)).setCell ⟨g0, 2, none⟩ (.int .i64 0)).setCell ⟨g0, 3, none⟩ (.int .i64 0)).setCell ⟨g0, 4, none⟩ (.int .i64 0)).setCell ⟨g0, 5, none⟩ (.int .i64 0)).setCell ⟨g0, 6, none⟩ (.slice none 0 0)) = wF at hcF hgF ⊢
  obtain ⟨⟨c0, c1, c2, c3, c4, c5, c6⟩, -⟩ := hcF.seven
  exact bodyPost_ret (v := .tuple #[.agg #[.int .i64 0, .int .i64 0, .int .i64 0, .int .i64 0, .int .i64 0, .int .i64 0, .slice none 0 0], .int .i64 2]) (by simp [results, Try.results54, go_sem, c0, c1, c2, c3, c4, c5, c6]) rfl ⟨rfl, hgF⟩
set_option maxHeartbeats 1000000 in
theorem rdtcp_form18 {p : Nat → Prop} {v : Value} {l : List Nat} (src dst : Nat) (w : World) (hr : Rb p w v l) (h8 : 20 ≤ l.length) (ha : gN l 12 1 = 80) (hb : gN l 18 1 ≠ 0) (hl : l.length ≤ 30000) :
    Calls Try.prog 54 #[.int .u32 src, .int .u32 dst, v] w (DErr w tcpZ0 2) := by
  have HR := Lib.hid hr
  have hlt := hr.bytes
  obtain ⟨av, cap, rfl, hcap, hmx⟩ := hr.form
  obtain ⟨bk, off, rfl, -, -⟩ := hr.at' (i := 0) (by omega)
  obtain ⟨L, hL⟩ : ∃ L, L = l.length := ⟨_, rfl⟩
  have HL := Lib.hid hL
  rw [← hL] at HR hl hcap h8 ⊢
  clear hL hr
  have hC := CL.new w [.int .i64 0, .int .i64 0, .int .i64 0, .int .i64 0, .int .i64 0, .int .i64 0, .slice none 0 0] 44 _ rfl
  have hS := Gr.alloc (Gr.refl w) (.cells #[.int .i64 0, .int .i64 0, .int .i64 0, .int .i64 0, .int .i64 0, .int .i64 0, .slice none 0 0] 44)
  have d1 : decide ((L : Int) < 20) = false := by rw [decide_eq_false_iff_not]; omega
  obtain ⟨bz12, oz12, ez12, -, hz12⟩ := HR.out.at' (i := 12) (by rw [← HL.out]; omega)
  cases ez12
  rw [← gN_oneK (show 12 < l.length by rw [← HL.out]; omega)] at hz12
  obtain ⟨bz18, oz18, ez18, -, hz18⟩ := HR.out.at' (i := 18) (by rw [← HL.out]; omega)
  cases ez18
  rw [← gN_oneK (show 18 < l.length by rw [← HL.out]; omega)] at hz18
  rw [ha] at hz12
  generalize gN l 18 1 = B0 at *
  have n1 : ((B0 : Int) != 0) = true := by rw [bne_iff_ne]; omega
  clear ha hb
  go_enter Try.func54, Try.ntmps54
  go_upto_region 1 with fail
  have hle : w.heap.size ≤ w.heap.size := Nat.le_refl _
  generalize w.alloc (.cells #[.int .i64 0, .int .i64 0, .int .i64 0, .int .i64 0, .int .i64 0, .int .i64 0, .slice none 0 0] 44) = ww at hC hS ⊢
  generalize hg0 : w.heap.size = g0 at hC ⊢
  replace hle : w.heap.size ≤ g0 := by omega
  clear hg0
  have hq12 := cell_gr hS hz12
  have hq18 := cell_gr hS hz18
  obtain ⟨⟨y0, y1, y2, y3, y4, y5, y6⟩, u0, u1, u2, u3, u4, u5, u6⟩ := hC.seven
  have hcF := hC.fill [.int .i64 0, .int .i64 0, .int .i64 0, .int .i64 0, .int .i64 0, .int .i64 0, .slice none 0 0] rfl
  have hgF := hS.fill hle [.int .i64 0, .int .i64 0, .int .i64 0, .int .i64 0, .int .i64 0, .int .i64 0, .slice none 0 0] 0
  simp only [fillC, Nat.reduceAdd] at hcF hgF
  go_wp2_with fail
  clear y0 y1 y2 y3 y4 y5 y6 u0 u1 u2 u3 u4 u5 u6
  generalize (((((((ww.setCell ⟨g0, 0, none⟩ (.int .i64 0)).setCell ⟨g0, 1, none⟩ (.int .i64 0)).setCell ⟨g0, 2, none⟩ (.int .i64 0)).setCell ⟨g0, 3, none⟩ (.int .i64 0)).setCell ⟨g0, 4, none⟩ (.int .i64 0)).setCell ⟨g0, 5, none⟩ (.int .i64 0)).setCell ⟨g0, 6, none⟩ (.slice none 0 0)) = wF at hcF hgF ⊢
  obtain ⟨⟨c0, c1, c2, c3, c4, c5, c6⟩, -⟩ := hcF.seven
  exact bodyPost_ret (v := .tuple #[.agg #[.int .i64 0, .int .i64 0, .int .i64 0, .int .i64 0, .int .i64 0, .int .i64 0, .slice none 0 0], .int .i64 2]) (by simp [results, Try.results54, go_sem, c0, c1, c2, c3, c4, c5, c6]) rfl ⟨rfl, hgF⟩
set_option maxHeartbeats 1000000 in
theorem rdtcp_form19 {p : Nat → Prop} {v : Value} {l : List Nat} (src dst : Nat) (w : World) (hr : Rb p w v l) (h8 : 20 ≤ l.length) (ha : gN l 12 1 = 80) (hb : gN l 18 1 = 0) (hc : gN l 19 1 ≠ 0) (hl : l.length ≤ 30000) :
    Calls Try.prog 54 #[.int .u32 src, .int .u32 dst, v] w (DErr w tcpZ0 2) := by
  have HR := Lib.hid hr
  have hlt := hr.bytes
  obtain ⟨av, cap, rfl, hcap, hmx⟩ := hr.form
  obtain ⟨bk, off, rfl, -, -⟩ := hr.at' (i := 0) (by omega)
  obtain ⟨L, hL⟩ : ∃ L, L = l.length := ⟨_, rfl⟩
  have HL := Lib.hid hL
  rw [← hL] at HR hl hcap h8 ⊢
  clear hL hr
  have hC := CL.new w [.int .i64 0, .int .i64 0, .int .i64 0, .int .i64 0, .int .i64 0, .int .i64 0, .slice none 0 0] 44 _ rfl
  have hS := Gr.alloc (Gr.refl w) (.cells #[.int .i64 0, .int .i64 0, .int .i64 0, .int .i64 0, .int .i64 0, .int .i64 0, .slice none 0 0] 44)
  have d1 : decide ((L : Int) < 20) = false := by rw [decide_eq_false_iff_not]; omega
  obtain ⟨bz12, oz12, ez12, -, hz12⟩ := HR.out.at' (i := 12) (by rw [← HL.out]; omega)
  cases ez12
  rw [← gN_oneK (show 12 < l.length by rw [← HL.out]; omega)] at hz12
  obtain ⟨bz18, oz18, ez18, -, hz18⟩ := HR.out.at' (i := 18) (by rw [← HL.out]; omega)
  cases ez18
  rw [← gN_oneK (show 18 < l.length by rw [← HL.out]; omega)] at hz18
  obtain ⟨bz19, oz19, ez19, -, hz19⟩ := HR.out.at' (i := 19) (by rw [← HL.out]; omega)
  cases ez19
  rw [← gN_oneK (show 19 < l.length by rw [← HL.out]; omega)] at hz19
  rw [ha] at hz12
  rw [hb] at hz18
  generalize gN l 19 1 = B0 at *
  have n1 : ((B0 : Int) != 0) = true := by rw [bne_iff_ne]; omega
  clear ha hb hc
  go_enter Try.func54, Try.ntmps54
  go_upto_region 1 with fail
  have hle : w.heap.size ≤ w.heap.size := Nat.le_refl _
  generalize w.alloc (.cells #[.int .i64 0, .int .i64 0, .int .i64 0, .int .i64 0, .int .i64 0, .int .i64 0, .slice none 0 0] 44) = ww at hC hS ⊢
  generalize hg0 : w.heap.size = g0 at hC ⊢
  replace hle : w.heap.size ≤ g0 := by omega
  clear hg0
  have hq12 := cell_gr hS hz12
  have hq18 := cell_gr hS hz18
  have hq19 := cell_gr hS hz19
  obtain ⟨⟨y0, y1, y2, y3, y4, y5, y6⟩, u0, u1, u2, u3, u4, u5, u6⟩ := hC.seven
  have hcF := hC.fill [.int .i64 0, .int .i64 0, .int .i64 0, .int .i64 0, .int .i64 0, .int .i64 0, .slice none 0 0] rfl
  have hgF := hS.fill hle [.int .i64 0, .int .i64 0, .int .i64 0, .int .i64 0, .int .i64 0, .int .i64 0, .slice none 0 0] 0
  simp only [fillC, Nat.reduceAdd] at hcF hgF
  go_wp2_with fail
  clear y0 y1 y2 y3 y4 y5 y6 u0 u1 u2 u3 u4 u5 u6
  generalize (((((((ww.setCell ⟨g0, 0, none⟩ (.int .i64 0)).setCell ⟨g0, 1, none⟩ (.int .i64 0)).setCell ⟨g0, 2, none⟩ (.int .i64 0)).setCell ⟨g0, 3, none⟩ (.int .i64 0)).setCell ⟨g0, 4, none⟩ (.int .i64 0)).setCell ⟨g0, 5, none⟩ (.int .i64 0)).setCell ⟨g0, 6, none⟩ (.slice none 0 0)) = wF at hcF hgF ⊢
  obtain ⟨⟨c0, c1, c2, c3, c4, c5, c6⟩, -⟩ := hcF.seven
  exact bodyPost_ret (v := .tuple #[.agg #[.int .i64 0, .int .i64 0, .int .i64 0, .int .i64 0, .int .i64 0, .int .i64 0, .slice none 0 0], .int .i64 2]) (by simp [results, Try.results54, go_sem, c0, c1, c2, c3, c4, c5, c6]) rfl ⟨rfl, hgF⟩
set_option maxHeartbeats 1000000 in
theorem rdtcp_limit {p : Nat → Prop} {v : Value} {l : List Nat} (src dst : Nat) (w : World) (hr : Rb p w v l) (h8 : 20 ≤ l.length) (ha : gN l 12 1 = 80) (hb : gN l 18 1 = 0) (hc : gN l 19 1 = 0) (hm : 1480 < l.length) (hl : l.length ≤ 30000) :
    Calls Try.prog 54 #[.int .u32 src, .int .u32 dst, v] w (DErr w tcpZ0 5) := by
  have HR := Lib.hid hr
  have hlt := hr.bytes
  obtain ⟨av, cap, rfl, hcap, hmx⟩ := hr.form
  obtain ⟨bk, off, rfl, -, -⟩ := hr.at' (i := 0) (by omega)
  obtain ⟨L, hL⟩ : ∃ L, L = l.length := ⟨_, rfl⟩
  have HL := Lib.hid hL
  rw [← hL] at HR hl hcap h8 hm ⊢
  clear hL hr
  have hC := CL.new w [.int .i64 0, .int .i64 0, .int .i64 0, .int .i64 0, .int .i64 0, .int .i64 0, .slice none 0 0] 44 _ rfl
  have hS := Gr.alloc (Gr.refl w) (.cells #[.int .i64 0, .int .i64 0, .int .i64 0, .int .i64 0, .int .i64 0, .int .i64 0, .slice none 0 0] 44)
  have d1 : decide ((L : Int) < 20) = false := by rw [decide_eq_false_iff_not]; omega
  obtain ⟨bz12, oz12, ez12, -, hz12⟩ := HR.out.at' (i := 12) (by rw [← HL.out]; omega)
  cases ez12
  rw [← gN_oneK (show 12 < l.length by rw [← HL.out]; omega)] at hz12
  obtain ⟨bz18, oz18, ez18, -, hz18⟩ := HR.out.at' (i := 18) (by rw [← HL.out]; omega)
  cases ez18
  rw [← gN_oneK (show 18 < l.length by rw [← HL.out]; omega)] at hz18
  obtain ⟨bz19, oz19, ez19, -, hz19⟩ := HR.out.at' (i := 19) (by rw [← HL.out]; omega)
  cases ez19
  rw [← gN_oneK (show 19 < l.length by rw [← HL.out]; omega)] at hz19
  rw [ha] at hz12
  rw [hb] at hz18
  rw [hc] at hz19
  have d2 : decide ((1480 : Int) < (L : Int)) = true := by rw [decide_eq_true_eq]; omega
  clear ha hb hc
  go_enter Try.func54, Try.ntmps54
  go_upto_region 1 with fail
  have hle : w.heap.size ≤ w.heap.size := Nat.le_refl _
  generalize w.alloc (.cells #[.int .i64 0, .int .i64 0, .int .i64 0, .int .i64 0, .int .i64 0, .int .i64 0, .slice none 0 0] 44) = ww at hC hS ⊢
  generalize hg0 : w.heap.size = g0 at hC ⊢
  replace hle : w.heap.size ≤ g0 := by omega
  clear hg0
  have hq12 := cell_gr hS hz12
  have hq18 := cell_gr hS hz18
  have hq19 := cell_gr hS hz19
  obtain ⟨⟨y0, y1, y2, y3, y4, y5, y6⟩, u0, u1, u2, u3, u4, u5, u6⟩ := hC.seven
  have hcF := hC.fill [.int .i64 0, .int .i64 0, .int .i64 0, .int .i64 0, .int .i64 0, .int .i64 0, .slice none 0 0] rfl
  have hgF := hS.fill hle [.int .i64 0, .int .i64 0, .int .i64 0, .int .i64 0, .int .i64 0, .int .i64 0, .slice none 0 0] 0
  simp only [fillC, Nat.reduceAdd] at hcF hgF
  go_wp2_with fail
  clear y0 y1 y2 y3 y4 y5 y6 u0 u1 u2 u3 u4 u5 u6
  generalize (((((((ww.setCell ⟨g0, 0, none⟩ (.int .i64 0)).setCell ⟨g0, 1, none⟩ (.int .i64 0)).setCell ⟨g0, 2, none⟩ (.int .i64 0)).setCell ⟨g0, 3, none⟩ (.int .i64 0)).setCell ⟨g0, 4, none⟩ (.int .i64 0)).setCell ⟨g0, 5, none⟩ (.int .i64 0)).setCell ⟨g0, 6, none⟩ (.slice none 0 0)) = wF at hcF hgF ⊢
  obtain ⟨⟨c0, c1, c2, c3, c4, c5, c6⟩, -⟩ := hcF.seven
  exact bodyPost_ret (v := .tuple #[.agg #[.int .i64 0, .int .i64 0, .int .i64 0, .int .i64 0, .int .i64 0, .int .i64 0, .slice none 0 0], .int .i64 5]) (by simp [results, Try.results54, go_sem, c0, c1, c2, c3, c4, c5, c6]) rfl ⟨rfl, hgF⟩
end Go.Proofs.Ytlkhdbgknkjioaa
