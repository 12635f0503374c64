/- The package transport: decoding datagrams and segments. -/
import Derived.Test.YtkpejaiigopmgaaGreatDoorGH
import Derived.WalkKit
import Derived.WalkSpells
import Derived.WalkLawsBesides
import Derived.WalkSmall
import Derived.Handy
import Derived.BigQuiet
import Derived.Deep.QuietTactic
import Derived.Deep.RegionHeld3
import Derived.Deep.DeepFit
import Derived.Below
import Derived.Lib.Hide
import Derived.Lib.QuietBelow
namespace Go.Proofs.YtkpejaiigopmgaaGreatDoor
open Go Go.RowKit Go.Sort
set_option maxRecDepth 100000
set_option linter.unusedVariables false
set_option maxHeartbeats 2000000 in
theorem dudp_err {p : Nat → Prop} {v : Value} {l : List Nat} (src dst : Nat) (w : World) (hr : Rb p w v l) (hs : src < 4294967296) (hd : dst < 4294967296) (hl : l.length ≤ 30000) (hn : dcUDP src dst l ≠ 0) :
    Calls Tryz.prog 24 #[.int .u32 src, .int .u32 dst, v] w (DErr w udpZ0 (dcUDP src dst l)) := by
  have hcase : (l.length < 8 ∧ dcUDP src dst l = 3) ∨ (8 ≤ l.length ∧ gN l 4 2 ≠ l.length ∧ dcUDP src dst l = 2) ∨ (8 ≤ l.length ∧ gN l 4 2 = l.length ∧ vE (sU src dst) 6 l ≠ 0 ∧ dcUDP src dst l = vE (sU src dst) 6 l) := by
    unfold dcUDP at hn ⊢
    by_cases h1 : l.length < 8
    · exact .inl ⟨h1, if_pos h1⟩
    · rw [if_neg h1] at hn ⊢
      by_cases h2 : gN l 4 2 ≠ l.length
      · exact .inr (.inl ⟨by omega, h2, if_pos h2⟩)
      · rw [if_neg h2] at hn ⊢
        exact .inr (.inr ⟨by omega, by omega, hn, rfl⟩)
  clear hn
  generalize dcUDP src dst l = E at *
  unfold udpZ0
  have HR := Lib.hid hr
  have hlt := hr.bytes
  obtain ⟨av, cap, rfl, hcap, hmx⟩ := hr.form
  obtain ⟨L, hL⟩ : ∃ L, L = l.length := ⟨_, rfl⟩
  have HL := Lib.hid hL
  rw [← hL] at HR hl hcap hcase ⊢
  clear hL hr
  have hC := CL.new w udpZ0 60 _ rfl
  have hG := Gr.alloc (Gr.refl w) (.cells udpZ0.toArray 60)
  unfold udpZ0 at hC hG
  have hx4 := gN_lt hlt 4 2
  have HSM := Lib.hid (fun w => udpSum_any src dst w hs hd)
  rcases hcase with ⟨h1, hE⟩ | ⟨h1, h2, hE⟩ | ⟨h1, h2, h3, hE⟩
  · have d1 : decide ((L : Int) < 8) = true := by rw [decide_eq_true_eq]; omega
    have HE := Lib.hid hE
    clear hE h1
    go_enter Tryz.func24, Tryz.ntmps24
    go_upto_region 1 with fail
    have hle : w.heap.size ≤ w.heap.size := Nat.le_refl _
    generalize w.alloc (.cells #[.int .i64 0, .int .i64 0, .slice none 0 0] 60) = w1 at hC hG ⊢
    generalize hg0 : w.heap.size = g0 at hC ⊢
    replace hle : w.heap.size ≤ g0 := by omega
    clear hg0
    obtain ⟨⟨y0, y1, y2⟩, u0, u1, u2⟩ := hC.three
    go_wp2_with fail
    have hcF := hC.fill [.int .i64 0, .int .i64 0, .slice none 0 0] rfl
    have hgF := hG.fill hle [.int .i64 0, .int .i64 0, .slice none 0 0] 0
    simp only [fillC, Nat.reduceAdd] at hcF hgF
    clear y0 y1 y2 u0 u1 u2
    generalize (((w1.setCell ⟨g0, 0, none⟩ (.int .i64 0)).setCell ⟨g0, 1, none⟩ (.int .i64 0)).setCell ⟨g0, 2, none⟩ (.slice none 0 0)) = wF at hcF hgF ⊢
    obtain ⟨⟨c0, c1, c2⟩, -⟩ := hcF.three
    exact bodyPost_ret (v := .tuple #[.agg #[.int .i64 0, .int .i64 0, .slice none 0 0], .int .i64 3]) (by simp [results, Tryz.results24, go_sem, c0, c1, c2]) rfl ⟨by first | (rw [HE.out]; done) | (rw [HE.out]; rfl), hgF⟩
  · have d1 : decide ((L : Int) < 8) = false := by rw [decide_eq_false_iff_not]; omega
    have HE := Lib.hid hE
    have HG4 := Lib.hid (fun W (g : Gr w W) => tget_any 4 2 W (HR.out.gr g) (by omega) (by omega) (by rw [← HL.out]; omega))
    clear hE h1
    generalize gN l 4 2 = X at *
    have b1 : ((X : Int) != (L : Int)) = true := by simp; omega
    clear h2
    go_enter Tryz.func24, Tryz.ntmps24
    go_upto_region 1 with fail
    have hle : w.heap.size ≤ w.heap.size := Nat.le_refl _
    generalize w.alloc (.cells #[.int .i64 0, .int .i64 0, .slice none 0 0] 60) = w1 at hC hG ⊢
    generalize hg0 : w.heap.size = g0 at hC ⊢
    replace hle : w.heap.size ≤ g0 := by omega
    clear hg0
    obtain ⟨⟨y0, y1, y2⟩, u0, u1, u2⟩ := hC.three
    go_wp2_with fail
    refine (HG4.out _ hG).mono ?_
    rintro e w2 ⟨rfl, rfl⟩
    go_wp2_with fail
    have hcF := hC.fill [.int .i64 0, .int .i64 0, .slice none 0 0] rfl
    have hgF := hG.fill hle [.int .i64 0, .int .i64 0, .slice none 0 0] 0
    simp only [fillC, Nat.reduceAdd] at hcF hgF
    clear y0 y1 y2 u0 u1 u2
    generalize (((w1.setCell ⟨g0, 0, none⟩ (.int .i64 0)).setCell ⟨g0, 1, none⟩ (.int .i64 0)).setCell ⟨g0, 2, none⟩ (.slice none 0 0)) = wF at hcF hgF ⊢
    obtain ⟨⟨c0, c1, c2⟩, -⟩ := hcF.three
    exact bodyPost_ret (v := .tuple #[.agg #[.int .i64 0, .int .i64 0, .slice none 0 0], .int .i64 2]) (by simp [results, Tryz.results24, go_sem, c0, c1, c2]) rfl ⟨by first | (rw [HE.out]; done) | (rw [HE.out]; rfl), hgF⟩
  · have d1 : decide ((L : Int) < 8) = false := by rw [decide_eq_false_iff_not]; omega
    have HE := Lib.hid hE
    have HG4 := Lib.hid (fun W (g : Gr w W) => tget_any 4 2 W (HR.out.gr g) (by omega) (by omega) (by rw [← HL.out]; omega))
    have hE5 := vE_le (sU src dst) 6 l
    have HH1 := Lib.hid h1
    generalize hV : vE (sU src dst) 6 l = V at *
    have HV := Lib.hid hV
    clear hE h1 hV
    generalize gN l 4 2 = X at *
    have b1 : ((X : Int) != (L : Int)) = false := by simp; omega
    have bV : ((V : Int) != 0) = true := by simp; omega
    clear h2 h3
    go_enter Tryz.func24, Tryz.ntmps24
    go_upto_region 1 with fail
    have hle : w.heap.size ≤ w.heap.size := Nat.le_refl _
    generalize w.alloc (.cells #[.int .i64 0, .int .i64 0, .slice none 0 0] 60) = w1 at hC hG ⊢
    generalize hg0 : w.heap.size = g0 at hC ⊢
    replace hle : w.heap.size ≤ g0 := by omega
    clear hg0
    obtain ⟨⟨y0, y1, y2⟩, u0, u1, u2⟩ := hC.three
    go_wp2_with fail
    refine (HG4.out _ hG).mono ?_
    rintro e w2 ⟨rfl, rfl⟩
    go_wp2_with fail
    refine (HSM.out _).mono ?_
    rintro e w2 ⟨ga, gb, rfl, hkp, hg2⟩
    replace hG := hG.step hg2
    replace hC := hC.gr hg2
    clear hg2
    go_wp2_with fail
    have HCK := Lib.hid (check_U ga gb src dst 6 w2 hkp (HR.out.gr hG) (by rw [← HL.out]; omega) (by rw [← HL.out]; have := HH1.out; omega))
    rw [HV.out] at HCK
    refine HCK.out.mono ?_
    rintro e w2 ⟨rfl, hg2⟩
    replace hG := hG.step hg2
    replace hC := hC.gr hg2
    clear hg2 hkp HCK
    clear y0 y1 y2 u0 u1 u2
    obtain ⟨⟨y0, y1, y2⟩, u0, u1, u2⟩ := hC.three
    go_wp2_with fail
    have hcF := hC.fill [.int .i64 0, .int .i64 0, .slice none 0 0] rfl
    have hgF := hG.fill hle [.int .i64 0, .int .i64 0, .slice none 0 0] 0
    simp only [fillC, Nat.reduceAdd] at hcF hgF
    clear y0 y1 y2 u0 u1 u2
    generalize (((w2.setCell ⟨g0, 0, none⟩ (.int .i64 0)).setCell ⟨g0, 1, none⟩ (.int .i64 0)).setCell ⟨g0, 2, none⟩ (.slice none 0 0)) = wF at hcF hgF ⊢
    obtain ⟨⟨c0, c1, c2⟩, -⟩ := hcF.three
    exact bodyPost_ret (v := .tuple #[.agg #[.int .i64 0, .int .i64 0, .slice none 0 0], .int .i64 V]) (by simp [results, Tryz.results24, go_sem, c0, c1, c2]) rfl ⟨by first | (rw [HE.out]; done) | (rw [HE.out]; rfl), hgF⟩
set_option maxHeartbeats 2000000 in
theorem dudp_ok {p : Nat → Prop} {v : Value} {l : List Nat} (src dst : Nat) (w : World) (hr : Rb p w v l) (hs : src < 4294967296) (hd : dst < 4294967296) (hl : l.length ≤ 30000) (hn : dcUDP src dst l = 0) :
    Calls Tryz.prog 24 #[.int .u32 src, .int .u32 dst, v] w fun e w' => ∃ v', e = .returned (.tuple #[.agg #[.int .i64 (gN l 0 2 : Nat), .int .i64 (gN l 2 2 : Nat), v'], .int .i64 0]) ∧ OwB w.heap.size w' v' (l.drop 8) ∧ Gr w w' := by
  have hcase : 8 ≤ l.length ∧ gN l 4 2 = l.length ∧ vE (sU src dst) 6 l = 0 := by
    unfold dcUDP at hn
    by_cases h1 : l.length < 8
    · rw [if_pos h1] at hn; omega
    · rw [if_neg h1] at hn
      by_cases h2 : gN l 4 2 ≠ l.length
      · rw [if_pos h2] at hn; omega
      · rw [if_neg h2] at hn
        exact ⟨by omega, by omega, hn⟩
  clear hn
  have HR := Lib.hid hr
  have hlt := hr.bytes
  obtain ⟨av, cap, rfl, hcap, hmx⟩ := hr.form
  obtain ⟨L, hL⟩ : ∃ L, L = l.length := ⟨_, rfl⟩
  have HL := Lib.hid hL
  rw [← hL] at HR hl hcap hcase ⊢
  clear hL hr
  have hC := CL.new w udpZ0 60 _ rfl
  have hG := Gr.alloc (Gr.refl w) (.cells udpZ0.toArray 60)
  unfold udpZ0 at hC hG
  obtain ⟨h1, h2, h3⟩ := hcase
  have HSM := Lib.hid (fun w => udpSum_any src dst w hs hd)
  obtain ⟨bk, off, rfl, -, -⟩ := HR.out.at' (i := 0) (by rw [← HL.out]; omega)
  have d1 : decide ((L : Int) < 8) = false := by rw [decide_eq_false_iff_not]; omega
  have HH1 := Lib.hid h1
  have HG4 := Lib.hid (fun W (g : Gr w W) => tget_any 4 2 W (HR.out.gr g) (by omega) (by omega) (by rw [← HL.out]; omega))
  have HG0 := Lib.hid (fun W (g : Gr w W) => tget_any 0 2 W (HR.out.gr g) (by omega) (by omega) (by rw [← HL.out]; omega))
  have HG2 := Lib.hid (fun W (g : Gr w W) => tget_any 2 2 W (HR.out.gr g) (by omega) (by omega) (by rw [← HL.out]; omega))
  have HT := Lib.hid (HR.out.tail (k := 8) (by rw [← HL.out]; omega))
  have HTL := Lib.hid (show (l.drop 8).length ≤ 30000 by rw [List.length_drop]; have := HL.out; omega)
  have HV := Lib.hid h3
  generalize gN l 4 2 = X at *
  generalize gN l 0 2 = A at *
  generalize gN l 2 2 = B at *
  have b1 : ((X : Int) != (L : Int)) = false := by simp; omega
  clear h2 h3
  go_enter Tryz.func24, Tryz.ntmps24
  go_upto_region 1 with fail
  have hle : w.heap.size ≤ w.heap.size := Nat.le_refl _
  generalize w.alloc (.cells #[.int .i64 0, .int .i64 0, .slice none 0 0] 60) = w1 at hC hG ⊢
  generalize hg0 : w.heap.size = g0 at hC ⊢
  replace hle : w.heap.size ≤ g0 := by omega
  clear hg0
  obtain ⟨⟨y0, y1, y2⟩, u0, u1, u2⟩ := hC.three
  go_wp2_with fail
  refine (HG4.out _ hG).mono ?_
  rintro e w2 ⟨rfl, rfl⟩
  go_wp2_with fail
  refine (HSM.out _).mono ?_
  rintro e w2 ⟨ga, gb, rfl, hkp, hg2⟩
  replace hG := hG.step hg2
  replace hC := hC.gr hg2
  clear hg2
  go_wp2_with fail
  have HCK := Lib.hid (check_U ga gb src dst 6 w2 hkp (HR.out.gr hG) (by rw [← HL.out]; omega) (by rw [← HL.out]; have := HH1.out; omega))
  rw [HV.out] at HCK
  refine HCK.out.mono ?_
  rintro e w2 ⟨rfl, hg2⟩
  replace hG := hG.step hg2
  replace hC := hC.gr hg2
  clear hg2 hkp HCK
  clear y0 y1 y2 u0 u1 u2
  obtain ⟨⟨y0, y1, y2⟩, u0, u1, u2⟩ := hC.three
  go_wp2_with fail
  clear y0 y1 y2 u0 u1 u2
  have hgr : Gr w2 w2.drew := Gr.drew (Gr.refl _)
  have hS : Ex g0 w2 w2.drew := Ex.drew (Ex.refl _ _)
  refine region_plain (Ex g0 w2) (by kernel_rfl) ?_
  generalize w2.drew = w3 at hS hgr ⊢
  refine take_at 0 (some 28) (v := ?vn0) rfl rfl (by kernel_rfl) (by kernel_rfl) (by kernel_rfl) (by rfl) ?yn0 hS ?tn0
  case yn0 =>
    intro w' hSw
    go_simp
    (try rw [if_pos (by omega)])
    (try with_reducible rfl)
  simp only [Act.put, List.setIfInBounds_toArray, List.set_cons_zero, List.set_cons_succ]
  refine take_at 2 (some 30) (v := ?vn2) rfl rfl (by kernel_rfl) (by kernel_rfl) (by kernel_rfl) (by rfl) ?yn2 hS ?tn2
  case yn2 =>
    intro w' hSw
    go_simp
    (try rw [if_pos (by omega)])
    (try with_reducible rfl)
  simp only [Act.put, List.setIfInBounds_toArray, List.set_cons_zero, List.set_cons_succ]
  refine take_at 4 (some 32) (v := ?vn4) rfl rfl (by kernel_rfl) (by kernel_rfl) (by kernel_rfl) (by rfl) ?yn4 hS ?tn4
  case yn4 =>
    intro w' hSw
    go_simp
    (try rw [if_pos (by omega)])
    (try with_reducible rfl)
  simp only [Act.put, List.setIfInBounds_toArray, List.set_cons_zero, List.set_cons_succ]
  refine take_at 5 (some 33) (v := ?vn5) rfl rfl (by kernel_rfl) (by kernel_rfl) (by kernel_rfl) (by rfl) ?yn5 hS ?tn5
  case yn5 =>
    intro w' hSw
    go_simp
    (try rw [if_pos (by omega)])
    (try with_reducible rfl)
  simp only [Act.put, List.setIfInBounds_toArray, List.set_cons_zero, List.set_cons_succ]
  generalize (if cap = 8 then some (⟨bk, off, none⟩ : Addr) else some ⟨bk, off + 8, none⟩) = aq at HT ⊢
  replace hG := hG.step hgr
  replace hC := hC.gr hgr
  refine next_at 1 rfl (by kernel_rfl) (by rfl) (fun K hK => ?_)
  go_simp
  refine (HG0.out _ hG).mono ?_
  rintro e w4 ⟨rfl, rfl⟩
  refine hK _ _ hS ?_
  clear hK K
  refine next_at 3 rfl (by kernel_rfl) (by rfl) (fun K hK => ?_)
  go_simp
  refine (HG2.out _ hG).mono ?_
  rintro e w4 ⟨rfl, rfl⟩
  refine hK _ _ hS ?_
  clear hK K
  refine next_at 6 rfl (by kernel_rfl) (by rfl) (fun K hK => ?_)
  go_simp
  refine (clone_bytes _ (HT.out.gr hG) (by have := HTL.out; omega)).mono ?_
  rintro e w4 ⟨vc, rfl, ho, hgn⟩
  have hnv : ∀ k, vc.ownBlock = some k → k ≠ g0 := by
    intro k hk
    have := ho.above k hk
    have := hC.lt
    omega
  replace ho := ho.base (Gr.size hG)
  replace hG := hG.step hgn
  replace hC := hC.gr hgn
  replace hS := hS.trans (Ex.ofGr hgn)
  obtain ⟨ac, cc, rfl, -, -⟩ := ho.rb.form
  generalize (l.drop 8).length = M at *
  refine hK _ _ hS ?_
  clear hK K hgn
  refine next_at 7 rfl (by kernel_rfl) (by rfl) (fun K hK => ?_)
  go_simp
  refine hK _ _ hS ?_
  clear hK K
  have hcF := hC.fill [.int .i64 A, .int .i64 B, .slice ac M cc] rfl
  have hgF := hG.fill hle [.int .i64 A, .int .i64 B, .slice ac M cc] 0
  have hxF := hS.fill [.int .i64 A, .int .i64 B, .slice ac M cc] 0
  have hoF := ho.fill hnv [.int .i64 A, .int .i64 B, .slice ac M cc] 0
  simp only [fillC, Nat.reduceAdd] at hcF hgF hxF hoF
  obtain ⟨⟨y0, y1, y2⟩, u0, u1, u2⟩ := hC.three
  refine next_at 8 rfl (by kernel_rfl) (by rfl) (fun K hK => ?_)
  go_simp
  refine hK _ _ hxF ?_
  clear hK K y0 y1 y2 u0 u1 u2
  generalize (((w4.setCell ⟨g0, 0, none⟩ (.int .i64 A)).setCell ⟨g0, 1, none⟩ (.int .i64 B)).setCell ⟨g0, 2, none⟩ (.slice ac M cc)) = wF at hcF hgF hxF hoF ⊢
  refine next_at 9 rfl (by kernel_rfl) (by rfl) (fun K hK => ?_)
  go_simp
  refine hK _ _ hxF ?_
  clear hK K
  refine wpAnyH_done (by kernel_rfl) ?_ _
  refine qz_normal ?_
  obtain ⟨⟨c0, c1, c2⟩, -⟩ := hcF.three
  go_wp2_with fail
  exact bodyPost_ret (v := .tuple #[.agg #[.int .i64 A, .int .i64 B, .slice ac M cc], .int .i64 0]) (by simp [results, Tryz.results24, go_sem, c0, c1, c2]) rfl ⟨_, rfl, hoF, hgF⟩
set_option maxHeartbeats 2000000 in
theorem dtcp_err {p : Nat → Prop} {v : Value} {l : List Nat} (src dst : Nat) (w : World) (hr : Rb p w v l) (hs : src < 4294967296) (hd : dst < 4294967296) (hl : l.length ≤ 30000) (hn : dcTCP src dst l ≠ 0) :
    Calls Tryz.prog 52 #[.int .u32 src, .int .u32 dst, v] w (DErr w tcpZ0 (dcTCP src dst l)) := by
  have hcase : (l.length < 20 ∧ dcTCP src dst l = 3) ∨ (20 ≤ l.length ∧ (gN l 12 1 ≠ 80 ∨ gN l 18 2 ≠ 0) ∧ dcTCP src dst l = 2) ∨ (20 ≤ l.length ∧ gN l 12 1 = 80 ∧ gN l 18 2 = 0 ∧ vE (sP src dst 6) 16 l ≠ 0 ∧ dcTCP src dst l = vE (sP src dst 6) 16 l) := by
    unfold dcTCP at hn ⊢
    by_cases h1 : l.length < 20
    · exact .inl ⟨h1, if_pos h1⟩
    · rw [if_neg h1] at hn ⊢
      by_cases h2 : gN l 12 1 ≠ 80 ∨ gN l 18 2 ≠ 0
      · exact .inr (.inl ⟨by omega, h2, if_pos h2⟩)
      · rw [if_neg h2] at hn ⊢
        exact .inr (.inr ⟨by omega, by omega, by omega, hn, rfl⟩)
  clear hn
  generalize dcTCP src dst l = E at *
  unfold tcpZ0
  have HR := Lib.hid hr
  have hlt := hr.bytes
  obtain ⟨av, cap, rfl, hcap, hmx⟩ := hr.form
  obtain ⟨L, hL⟩ : ∃ L, L = l.length := ⟨_, rfl⟩
  have HL := Lib.hid hL
  rw [← hL] at HR hl hcap hcase ⊢
  clear hL hr
  have hC := CL.new w tcpZ0 80 _ rfl
  have hG := Gr.alloc (Gr.refl w) (.cells tcpZ0.toArray 80)
  unfold tcpZ0 at hC hG
  have hx4 := gN_lt hlt 12 1
  have hx5 := gN_lt hlt 18 2
  have HSM := Lib.hid (fun w => tcpSum_any src dst w hs hd)
  rcases hcase with ⟨h1, hE⟩ | ⟨h1, h2, hE⟩ | ⟨h1, h2, h3, h4, hE⟩
  · have d1 : decide ((L : Int) < 20) = true := by rw [decide_eq_true_eq]; omega
    have HE := Lib.hid hE
    clear hE h1
    go_enter Tryz.func52, Tryz.ntmps52
    go_upto_region 1 with fail
    have hle : w.heap.size ≤ w.heap.size := Nat.le_refl _
    generalize w.alloc (.cells #[.int .i64 0, .int .i64 0, .int .i64 0, .int .i64 0, .int .i64 0, .int .i64 0, .slice none 0 0] 80) = w1 at hC hG ⊢
    generalize hg0 : w.heap.size = g0 at hC ⊢
    replace hle : w.heap.size ≤ g0 := by omega
    clear hg0
    obtain ⟨⟨y0, y1, y2, y3, y4, y5, y6⟩, u0, u1, u2, u3, u4, u5, u6⟩ := hC.seven
    go_wp2_with fail
    have hcF := hC.fill [.int .i64 0, .int .i64 0, .int .i64 0, .int .i64 0, .int .i64 0, .int .i64 0, .slice none 0 0] rfl
    have hgF := hG.fill hle [.int .i64 0, .int .i64 0, .int .i64 0, .int .i64 0, .int .i64 0, .int .i64 0, .slice none 0 0] 0
    simp only [fillC, Nat.reduceAdd] at hcF hgF
    clear y0 y1 y2 y3 y4 y5 y6 u0 u1 u2 u3 u4 u5 u6
    generalize (((((((w1.setCell ⟨g0, 0, none⟩ (.int .i64 0)).setCell ⟨g0, 1, none⟩ (.int .i64 0)).setCell ⟨g0, 2, none⟩ (.int .i64 0)).setCell ⟨g0, 3, none⟩ (.int .i64 0)).setCell ⟨g0, 4, none⟩ (.int .i64 0)).setCell ⟨g0, 5, none⟩ (.int .i64 0)).setCell ⟨g0, 6, none⟩ (.slice none 0 0)) = wF at hcF hgF ⊢
    obtain ⟨⟨c0, c1, c2, c3, c4, c5, c6⟩, -⟩ := hcF.seven
    exact bodyPost_ret (v := .tuple #[.agg #[.int .i64 0, .int .i64 0, .int .i64 0, .int .i64 0, .int .i64 0, .int .i64 0, .slice none 0 0], .int .i64 3]) (by simp [results, Tryz.results52, go_sem, c0, c1, c2, c3, c4, c5, c6]) rfl ⟨by first | (rw [HE.out]; done) | (rw [HE.out]; rfl), hgF⟩
  · have d1 : decide ((L : Int) < 20) = false := by rw [decide_eq_false_iff_not]; omega
    have HE := Lib.hid hE
    have HG12 := Lib.hid (fun W (g : Gr w W) => tget_any 12 1 W (HR.out.gr g) (by omega) (by omega) (by rw [← HL.out]; omega))
    have HG18 := Lib.hid (fun W (g : Gr w W) => tget_any 18 2 W (HR.out.gr g) (by omega) (by omega) (by rw [← HL.out]; omega))
    clear hE h1
    generalize gN l 12 1 = X at *
    generalize gN l 18 2 = Y at *
    by_cases k8 : X = 80
    · have b1 : ((X : Int) != 80) = false := by simp; omega
      have b2 : ((Y : Int) != 0) = true := by simp; omega
      clear h2 k8
      go_enter Tryz.func52, Tryz.ntmps52
      go_upto_region 1 with fail
      have hle : w.heap.size ≤ w.heap.size := Nat.le_refl _
      generalize w.alloc (.cells #[.int .i64 0, .int .i64 0, .int .i64 0, .int .i64 0, .int .i64 0, .int .i64 0, .slice none 0 0] 80) = w1 at hC hG ⊢
      generalize hg0 : w.heap.size = g0 at hC ⊢
      replace hle : w.heap.size ≤ g0 := by omega
      clear hg0
      obtain ⟨⟨y0, y1, y2, y3, y4, y5, y6⟩, u0, u1, u2, u3, u4, u5, u6⟩ := hC.seven
      go_wp2_with fail
      refine (HG12.out _ hG).mono ?_
      rintro e w2 ⟨rfl, rfl⟩
      go_wp2_with fail
      refine (HG18.out _ hG).mono ?_
      rintro e w2 ⟨rfl, rfl⟩
      go_wp2_with fail
      have hcF := hC.fill [.int .i64 0, .int .i64 0, .int .i64 0, .int .i64 0, .int .i64 0, .int .i64 0, .slice none 0 0] rfl
      have hgF := hG.fill hle [.int .i64 0, .int .i64 0, .int .i64 0, .int .i64 0, .int .i64 0, .int .i64 0, .slice none 0 0] 0
      simp only [fillC, Nat.reduceAdd] at hcF hgF
      clear y0 y1 y2 y3 y4 y5 y6 u0 u1 u2 u3 u4 u5 u6
      generalize (((((((w1.setCell ⟨g0, 0, none⟩ (.int .i64 0)).setCell ⟨g0, 1, none⟩ (.int .i64 0)).setCell ⟨g0, 2, none⟩ (.int .i64 0)).setCell ⟨g0, 3, none⟩ (.int .i64 0)).setCell ⟨g0, 4, none⟩ (.int .i64 0)).setCell ⟨g0, 5, none⟩ (.int .i64 0)).setCell ⟨g0, 6, none⟩ (.slice none 0 0)) = wF at hcF hgF ⊢
      obtain ⟨⟨c0, c1, c2, c3, c4, c5, c6⟩, -⟩ := hcF.seven
      exact bodyPost_ret (v := .tuple #[.agg #[.int .i64 0, .int .i64 0, .int .i64 0, .int .i64 0, .int .i64 0, .int .i64 0, .slice none 0 0], .int .i64 2]) (by simp [results, Tryz.results52, go_sem, c0, c1, c2, c3, c4, c5, c6]) rfl ⟨by first | (rw [HE.out]; done) | (rw [HE.out]; rfl), hgF⟩
    · have b1 : ((X : Int) != 80) = true := by simp; omega
      clear h2 k8
      go_enter Tryz.func52, Tryz.ntmps52
      go_upto_region 1 with fail
      have hle : w.heap.size ≤ w.heap.size := Nat.le_refl _
      generalize w.alloc (.cells #[.int .i64 0, .int .i64 0, .int .i64 0, .int .i64 0, .int .i64 0, .int .i64 0, .slice none 0 0] 80) = w1 at hC hG ⊢
      generalize hg0 : w.heap.size = g0 at hC ⊢
      replace hle : w.heap.size ≤ g0 := by omega
      clear hg0
      obtain ⟨⟨y0, y1, y2, y3, y4, y5, y6⟩, u0, u1, u2, u3, u4, u5, u6⟩ := hC.seven
      go_wp2_with fail
      refine (HG12.out _ hG).mono ?_
      rintro e w2 ⟨rfl, rfl⟩
      go_wp2_with fail
      have hcF := hC.fill [.int .i64 0, .int .i64 0, .int .i64 0, .int .i64 0, .int .i64 0, .int .i64 0, .slice none 0 0] rfl
      have hgF := hG.fill hle [.int .i64 0, .int .i64 0, .int .i64 0, .int .i64 0, .int .i64 0, .int .i64 0, .slice none 0 0] 0
      simp only [fillC, Nat.reduceAdd] at hcF hgF
      clear y0 y1 y2 y3 y4 y5 y6 u0 u1 u2 u3 u4 u5 u6
      generalize (((((((w1.setCell ⟨g0, 0, none⟩ (.int .i64 0)).setCell ⟨g0, 1, none⟩ (.int .i64 0)).setCell ⟨g0, 2, none⟩ (.int .i64 0)).setCell ⟨g0, 3, none⟩ (.int .i64 0)).setCell ⟨g0, 4, none⟩ (.int .i64 0)).setCell ⟨g0, 5, none⟩ (.int .i64 0)).setCell ⟨g0, 6, none⟩ (.slice none 0 0)) = wF at hcF hgF ⊢
      obtain ⟨⟨c0, c1, c2, c3, c4, c5, c6⟩, -⟩ := hcF.seven
      exact bodyPost_ret (v := .tuple #[.agg #[.int .i64 0, .int .i64 0, .int .i64 0, .int .i64 0, .int .i64 0, .int .i64 0, .slice none 0 0], .int .i64 2]) (by simp [results, Tryz.results52, go_sem, c0, c1, c2, c3, c4, c5, c6]) rfl ⟨by first | (rw [HE.out]; done) | (rw [HE.out]; rfl), hgF⟩
  · have d1 : decide ((L : Int) < 20) = false := by rw [decide_eq_false_iff_not]; omega
    have HE := Lib.hid hE
    have HG12 := Lib.hid (fun W (g : Gr w W) => tget_any 12 1 W (HR.out.gr g) (by omega) (by omega) (by rw [← HL.out]; omega))
    have HG18 := Lib.hid (fun W (g : Gr w W) => tget_any 18 2 W (HR.out.gr g) (by omega) (by omega) (by rw [← HL.out]; omega))
    have hE5 := vE_le (sP src dst 6) 16 l
    have HH1 := Lib.hid h1
    generalize hV : vE (sP src dst 6) 16 l = V at *
    have HV := Lib.hid hV
    clear hE h1 hV
    generalize gN l 12 1 = X at *
    generalize gN l 18 2 = Y at *
    have b1 : ((X : Int) != 80) = false := by simp; omega
    have b2 : ((Y : Int) != 0) = false := by simp; omega
    have bV : ((V : Int) != 0) = true := by simp; omega
    clear h2 h3 h4
    go_enter Tryz.func52, Tryz.ntmps52
    go_upto_region 1 with fail
    have hle : w.heap.size ≤ w.heap.size := Nat.le_refl _
    generalize w.alloc (.cells #[.int .i64 0, .int .i64 0, .int .i64 0, .int .i64 0, .int .i64 0, .int .i64 0, .slice none 0 0] 80) = w1 at hC hG ⊢
    generalize hg0 : w.heap.size = g0 at hC ⊢
    replace hle : w.heap.size ≤ g0 := by omega
    clear hg0
    obtain ⟨⟨y0, y1, y2, y3, y4, y5, y6⟩, u0, u1, u2, u3, u4, u5, u6⟩ := hC.seven
    go_wp2_with fail
    refine (HG12.out _ hG).mono ?_
    rintro e w2 ⟨rfl, rfl⟩
    go_wp2_with fail
    refine (HG18.out _ hG).mono ?_
    rintro e w2 ⟨rfl, rfl⟩
    go_wp2_with fail
    refine (HSM.out _).mono ?_
    rintro e w2 ⟨ga, gb, rfl, hkp, hg2⟩
    replace hG := hG.step hg2
    replace hC := hC.gr hg2
    clear hg2
    go_wp2_with fail
    have HCK := Lib.hid (check_P ga gb src dst 16 w2 hkp (HR.out.gr hG) (by rw [← HL.out]; omega) (by rw [← HL.out]; have := HH1.out; omega))
    rw [HV.out] at HCK
    refine HCK.out.mono ?_
    rintro e w2 ⟨rfl, hg2⟩
    replace hG := hG.step hg2
    replace hC := hC.gr hg2
    clear hg2 hkp HCK
    clear y0 y1 y2 y3 y4 y5 y6 u0 u1 u2 u3 u4 u5 u6
    obtain ⟨⟨y0, y1, y2, y3, y4, y5, y6⟩, u0, u1, u2, u3, u4, u5, u6⟩ := hC.seven
    go_wp2_with fail
    have hcF := hC.fill [.int .i64 0, .int .i64 0, .int .i64 0, .int .i64 0, .int .i64 0, .int .i64 0, .slice none 0 0] rfl
    have hgF := hG.fill hle [.int .i64 0, .int .i64 0, .int .i64 0, .int .i64 0, .int .i64 0, .int .i64 0, .slice none 0 0] 0
    simp only [fillC, Nat.reduceAdd] at hcF hgF
    clear y0 y1 y2 y3 y4 y5 y6 u0 u1 u2 u3 u4 u5 u6
    generalize (((((((w2.setCell ⟨g0, 0, none⟩ (.int .i64 0)).setCell ⟨g0, 1, none⟩ (.int .i64 0)).setCell ⟨g0, 2, none⟩ (.int .i64 0)).setCell ⟨g0, 3, none⟩ (.int .i64 0)).setCell ⟨g0, 4, none⟩ (.int .i64 0)).setCell ⟨g0, 5, none⟩ (.int .i64 0)).setCell ⟨g0, 6, none⟩ (.slice none 0 0)) = wF at hcF hgF ⊢
    obtain ⟨⟨c0, c1, c2, c3, c4, c5, c6⟩, -⟩ := hcF.seven
    exact bodyPost_ret (v := .tuple #[.agg #[.int .i64 0, .int .i64 0, .int .i64 0, .int .i64 0, .int .i64 0, .int .i64 0, .slice none 0 0], .int .i64 V]) (by simp [results, Tryz.results52, go_sem, c0, c1, c2, c3, c4, c5, c6]) rfl ⟨by first | (rw [HE.out]; done) | (rw [HE.out]; rfl), hgF⟩
set_option maxHeartbeats 2000000 in
theorem dtcp_ok {p : Nat → Prop} {v : Value} {l : List Nat} (src dst : Nat) (w : World) (hr : Rb p w v l) (hs : src < 4294967296) (hd : dst < 4294967296) (hl : l.length ≤ 30000) (hn : dcTCP src dst l = 0) :
    Calls Tryz.prog 52 #[.int .u32 src, .int .u32 dst, v] w fun e w' => ∃ v', e = .returned (.tuple #[.agg #[.int .i64 (gN l 0 2 : Nat), .int .i64 (gN l 2 2 : Nat), .int .i64 (gN l 4 4 : Nat), .int .i64 (gN l 8 4 : Nat), .int .i64 (gN l 13 1 : Nat), .int .i64 (gN l 14 2 : Nat), v'], .int .i64 0]) ∧ OwB w.heap.size w' v' (l.drop 20) ∧ Gr w w' := by
  have hcase : 20 ≤ l.length ∧ gN l 12 1 = 80 ∧ gN l 18 2 = 0 ∧ vE (sP src dst 6) 16 l = 0 := by
    unfold dcTCP at hn
    by_cases h1 : l.length < 20
    · rw [if_pos h1] at hn; omega
    · rw [if_neg h1] at hn
      by_cases h2 : gN l 12 1 ≠ 80 ∨ gN l 18 2 ≠ 0
      · rw [if_pos h2] at hn; omega
      · rw [if_neg h2] at hn
        exact ⟨by omega, by omega, by omega, hn⟩
  clear hn
  have HR := Lib.hid hr
  have hlt := hr.bytes
  obtain ⟨av, cap, rfl, hcap, hmx⟩ := hr.form
  obtain ⟨L, hL⟩ : ∃ L, L = l.length := ⟨_, rfl⟩
  have HL := Lib.hid hL
  rw [← hL] at HR hl hcap hcase ⊢
  clear hL hr
  have hC := CL.new w tcpZ0 80 _ rfl
  have hG := Gr.alloc (Gr.refl w) (.cells tcpZ0.toArray 80)
  unfold tcpZ0 at hC hG
  obtain ⟨h1, h2, h3, h4⟩ := hcase
  have HSM := Lib.hid (fun w => tcpSum_any src dst w hs hd)
  obtain ⟨bk, off, rfl, -, -⟩ := HR.out.at' (i := 0) (by rw [← HL.out]; omega)
  have d1 : decide ((L : Int) < 20) = false := by rw [decide_eq_false_iff_not]; omega
  have HH1 := Lib.hid h1
  have HG12 := Lib.hid (fun W (g : Gr w W) => tget_any 12 1 W (HR.out.gr g) (by omega) (by omega) (by rw [← HL.out]; omega))
  have HG18 := Lib.hid (fun W (g : Gr w W) => tget_any 18 2 W (HR.out.gr g) (by omega) (by omega) (by rw [← HL.out]; omega))
  have HGA := Lib.hid (fun W (g : Gr w W) => tget_any 0 2 W (HR.out.gr g) (by omega) (by omega) (by rw [← HL.out]; omega))
  have HGB := Lib.hid (fun W (g : Gr w W) => tget_any 2 2 W (HR.out.gr g) (by omega) (by omega) (by rw [← HL.out]; omega))
  have HGC := Lib.hid (fun W (g : Gr w W) => tget_any 4 4 W (HR.out.gr g) (by omega) (by omega) (by rw [← HL.out]; omega))
  have HGD := Lib.hid (fun W (g : Gr w W) => tget_any 8 4 W (HR.out.gr g) (by omega) (by omega) (by rw [← HL.out]; omega))
  have HGE := Lib.hid (fun W (g : Gr w W) => tget_any 13 1 W (HR.out.gr g) (by omega) (by omega) (by rw [← HL.out]; omega))
  have HGF := Lib.hid (fun W (g : Gr w W) => tget_any 14 2 W (HR.out.gr g) (by omega) (by omega) (by rw [← HL.out]; omega))
  have HT := Lib.hid (HR.out.tail (k := 20) (by rw [← HL.out]; omega))
  have HTL := Lib.hid (show (l.drop 20).length ≤ 30000 by rw [List.length_drop]; have := HL.out; omega)
  have HV := Lib.hid h4
  generalize gN l 12 1 = X at *
  generalize gN l 18 2 = Y at *
  generalize gN l 0 2 = A at *
  generalize gN l 2 2 = B at *
  generalize gN l 4 4 = C at *
  generalize gN l 8 4 = D at *
  generalize gN l 13 1 = F at *
  generalize gN l 14 2 = G at *
  have b1 : ((X : Int) != 80) = false := by simp; omega
  have b2 : ((Y : Int) != 0) = false := by simp; omega
  clear h2 h3 h4
  go_enter Tryz.func52, Tryz.ntmps52
  go_upto_region 1 with fail
  have hle : w.heap.size ≤ w.heap.size := Nat.le_refl _
  generalize w.alloc (.cells #[.int .i64 0, .int .i64 0, .int .i64 0, .int .i64 0, .int .i64 0, .int .i64 0, .slice none 0 0] 80) = w1 at hC hG ⊢
  generalize hg0 : w.heap.size = g0 at hC ⊢
  replace hle : w.heap.size ≤ g0 := by omega
  clear hg0
  obtain ⟨⟨y0, y1, y2, y3, y4, y5, y6⟩, u0, u1, u2, u3, u4, u5, u6⟩ := hC.seven
  go_wp2_with fail
  refine (HG12.out _ hG).mono ?_
  rintro e w2 ⟨rfl, rfl⟩
  go_wp2_with fail
  refine (HG18.out _ hG).mono ?_
  rintro e w2 ⟨rfl, rfl⟩
  go_wp2_with fail
  refine (HSM.out _).mono ?_
  rintro e w2 ⟨ga, gb, rfl, hkp, hg2⟩
  replace hG := hG.step hg2
  replace hC := hC.gr hg2
  clear hg2
  go_wp2_with fail
  have HCK := Lib.hid (check_P ga gb src dst 16 w2 hkp (HR.out.gr hG) (by rw [← HL.out]; omega) (by rw [← HL.out]; have := HH1.out; omega))
  rw [HV.out] at HCK
  refine HCK.out.mono ?_
  rintro e w2 ⟨rfl, hg2⟩
  replace hG := hG.step hg2
  replace hC := hC.gr hg2
  clear hg2 hkp HCK
  clear y0 y1 y2 y3 y4 y5 y6 u0 u1 u2 u3 u4 u5 u6
  obtain ⟨⟨y0, y1, y2, y3, y4, y5, y6⟩, u0, u1, u2, u3, u4, u5, u6⟩ := hC.seven
  go_wp2_with fail
  clear y0 y1 y2 y3 y4 y5 y6 u0 u1 u2 u3 u4 u5 u6
  have hgr : Gr w2 w2.drew := Gr.drew (Gr.refl _)
  have hS : Ex g0 w2 w2.drew := Ex.drew (Ex.refl _ _)
  refine region_plain (Ex g0 w2) (by kernel_rfl) ?_
  generalize w2.drew = w3 at hS hgr ⊢
  refine take_at 0 (some 31) (v := ?vn0) rfl rfl (by kernel_rfl) (by kernel_rfl) (by kernel_rfl) (by rfl) ?yn0 hS ?tn0
  case yn0 =>
    intro w' hSw
    go_simp
    (try rw [if_pos (by omega)])
    (try with_reducible rfl)
  simp only [Act.put, List.setIfInBounds_toArray, List.set_cons_zero, List.set_cons_succ]
  refine take_at 2 (some 33) (v := ?vn2) rfl rfl (by kernel_rfl) (by kernel_rfl) (by kernel_rfl) (by rfl) ?yn2 hS ?tn2
  case yn2 =>
    intro w' hSw
    go_simp
    (try rw [if_pos (by omega)])
    (try with_reducible rfl)
  simp only [Act.put, List.setIfInBounds_toArray, List.set_cons_zero, List.set_cons_succ]
  refine take_at 4 (some 35) (v := ?vn4) rfl rfl (by kernel_rfl) (by kernel_rfl) (by kernel_rfl) (by rfl) ?yn4 hS ?tn4
  case yn4 =>
    intro w' hSw
    go_simp
    (try rw [if_pos (by omega)])
    (try with_reducible rfl)
  simp only [Act.put, List.setIfInBounds_toArray, List.set_cons_zero, List.set_cons_succ]
  refine take_at 6 (some 37) (v := ?vn6) rfl rfl (by kernel_rfl) (by kernel_rfl) (by kernel_rfl) (by rfl) ?yn6 hS ?tn6
  case yn6 =>
    intro w' hSw
    go_simp
    (try rw [if_pos (by omega)])
    (try with_reducible rfl)
  simp only [Act.put, List.setIfInBounds_toArray, List.set_cons_zero, List.set_cons_succ]
  refine take_at 8 (some 39) (v := ?vn8) rfl rfl (by kernel_rfl) (by kernel_rfl) (by kernel_rfl) (by rfl) ?yn8 hS ?tn8
  case yn8 =>
    intro w' hSw
    go_simp
    (try rw [if_pos (by omega)])
    (try with_reducible rfl)
  simp only [Act.put, List.setIfInBounds_toArray, List.set_cons_zero, List.set_cons_succ]
  refine take_at 10 (some 41) (v := ?vn10) rfl rfl (by kernel_rfl) (by kernel_rfl) (by kernel_rfl) (by rfl) ?yn10 hS ?tn10
  case yn10 =>
    intro w' hSw
    go_simp
    (try rw [if_pos (by omega)])
    (try with_reducible rfl)
  simp only [Act.put, List.setIfInBounds_toArray, List.set_cons_zero, List.set_cons_succ]
  refine take_at 12 (some 43) (v := ?vn12) rfl rfl (by kernel_rfl) (by kernel_rfl) (by kernel_rfl) (by rfl) ?yn12 hS ?tn12
  case yn12 =>
    intro w' hSw
    go_simp
    (try rw [if_pos (by omega)])
    (try with_reducible rfl)
  simp only [Act.put, List.setIfInBounds_toArray, List.set_cons_zero, List.set_cons_succ]
  refine take_at 13 (some 44) (v := ?vn13) rfl rfl (by kernel_rfl) (by kernel_rfl) (by kernel_rfl) (by rfl) ?yn13 hS ?tn13
  case yn13 =>
    intro w' hSw
    go_simp
    (try rw [if_pos (by omega)])
    (try with_reducible rfl)
  simp only [Act.put, List.setIfInBounds_toArray, List.set_cons_zero, List.set_cons_succ]
  generalize (if cap = 20 then some (⟨bk, off, none⟩ : Addr) else some ⟨bk, off + 20, none⟩) = aq at HT ⊢
  replace hG := hG.step hgr
  replace hC := hC.gr hgr
  refine next_at 1 rfl (by kernel_rfl) (by rfl) (fun K hK => ?_)
  go_simp
  refine (HGA.out _ hG).mono ?_
  rintro e w4 ⟨rfl, rfl⟩
  refine hK _ _ hS ?_
  clear hK K
  refine next_at 3 rfl (by kernel_rfl) (by rfl) (fun K hK => ?_)
  go_simp
  refine (HGB.out _ hG).mono ?_
  rintro e w4 ⟨rfl, rfl⟩
  refine hK _ _ hS ?_
  clear hK K
  refine next_at 5 rfl (by kernel_rfl) (by rfl) (fun K hK => ?_)
  go_simp
  refine (HGC.out _ hG).mono ?_
  rintro e w4 ⟨rfl, rfl⟩
  refine hK _ _ hS ?_
  clear hK K
  refine next_at 7 rfl (by kernel_rfl) (by rfl) (fun K hK => ?_)
  go_simp
  refine (HGD.out _ hG).mono ?_
  rintro e w4 ⟨rfl, rfl⟩
  refine hK _ _ hS ?_
  clear hK K
  refine next_at 9 rfl (by kernel_rfl) (by rfl) (fun K hK => ?_)
  go_simp
  refine (HGE.out _ hG).mono ?_
  rintro e w4 ⟨rfl, rfl⟩
  refine hK _ _ hS ?_
  clear hK K
  refine next_at 11 rfl (by kernel_rfl) (by rfl) (fun K hK => ?_)
  go_simp
  refine (HGF.out _ hG).mono ?_
  rintro e w4 ⟨rfl, rfl⟩
  refine hK _ _ hS ?_
  clear hK K
  refine next_at 14 rfl (by kernel_rfl) (by rfl) (fun K hK => ?_)
  go_simp
  refine (clone_bytes _ (HT.out.gr hG) (by have := HTL.out; omega)).mono ?_
  rintro e w4 ⟨vc, rfl, ho, hgn⟩
  have hnv : ∀ k, vc.ownBlock = some k → k ≠ g0 := by
    intro k hk
    have := ho.above k hk
    have := hC.lt
    omega
  replace ho := ho.base (Gr.size hG)
  replace hG := hG.step hgn
  replace hC := hC.gr hgn
  replace hS := hS.trans (Ex.ofGr hgn)
  obtain ⟨ac, cc, rfl, -, -⟩ := ho.rb.form
  generalize (l.drop 20).length = M at *
  refine hK _ _ hS ?_
  clear hK K hgn
  refine next_at 15 rfl (by kernel_rfl) (by rfl) (fun K hK => ?_)
  go_simp
  refine hK _ _ hS ?_
  clear hK K
  have hcF := hC.fill [.int .i64 A, .int .i64 B, .int .i64 C, .int .i64 D, .int .i64 F, .int .i64 G, .slice ac M cc] rfl
  have hgF := hG.fill hle [.int .i64 A, .int .i64 B, .int .i64 C, .int .i64 D, .int .i64 F, .int .i64 G, .slice ac M cc] 0
  have hxF := hS.fill [.int .i64 A, .int .i64 B, .int .i64 C, .int .i64 D, .int .i64 F, .int .i64 G, .slice ac M cc] 0
  have hoF := ho.fill hnv [.int .i64 A, .int .i64 B, .int .i64 C, .int .i64 D, .int .i64 F, .int .i64 G, .slice ac M cc] 0
  simp only [fillC, Nat.reduceAdd] at hcF hgF hxF hoF
  obtain ⟨⟨y0, y1, y2, y3, y4, y5, y6⟩, u0, u1, u2, u3, u4, u5, u6⟩ := hC.seven
  refine next_at 16 rfl (by kernel_rfl) (by rfl) (fun K hK => ?_)
  go_simp
  refine hK _ _ hxF ?_
  clear hK K y0 y1 y2 y3 y4 y5 y6 u0 u1 u2 u3 u4 u5 u6
  generalize (((((((w4.setCell ⟨g0, 0, none⟩ (.int .i64 A)).setCell ⟨g0, 1, none⟩ (.int .i64 B)).setCell ⟨g0, 2, none⟩ (.int .i64 C)).setCell ⟨g0, 3, none⟩ (.int .i64 D)).setCell ⟨g0, 4, none⟩ (.int .i64 F)).setCell ⟨g0, 5, none⟩ (.int .i64 G)).setCell ⟨g0, 6, none⟩ (.slice ac M cc)) = wF at hcF hgF hxF hoF ⊢
  refine next_at 17 rfl (by kernel_rfl) (by rfl) (fun K hK => ?_)
  go_simp
  refine hK _ _ hxF ?_
  clear hK K
  refine wpAnyH_done (by kernel_rfl) ?_ _
  refine qz_normal ?_
  obtain ⟨⟨c0, c1, c2, c3, c4, c5, c6⟩, -⟩ := hcF.seven
  go_wp2_with fail
  exact bodyPost_ret (v := .tuple #[.agg #[.int .i64 A, .int .i64 B, .int .i64 C, .int .i64 D, .int .i64 F, .int .i64 G, .slice ac M cc], .int .i64 0]) (by simp [results, Tryz.results52, go_sem, c0, c1, c2, c3, c4, c5, c6]) rfl ⟨_, rfl, hoF, hgF⟩
end Go.Proofs.YtkpejaiigopmgaaGreatDoor
