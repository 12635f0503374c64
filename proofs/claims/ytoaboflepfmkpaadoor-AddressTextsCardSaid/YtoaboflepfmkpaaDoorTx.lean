/- The walk of the statement on texts of addresses and prefixes. -/
import Derived.Test.YtoaboflepfmkpaaDoorSpoil
import Derived.Test.YtoaboflepfmkpaaDoorAwake
import Derived.Test.YtoaboflepfmkpaaDoorRefPP
import Derived.WalkKit
import Derived.WalkSpells
import Derived.WalkLawsBesides
import Derived.WalkSmall
import Derived.Handy
import Derived.BigQuiet
import Derived.Deep.QuietTactic
import Derived.Deep.RegionHeld3
import Derived.Deep.DeepFit
import Derived.Below
import Derived.Lib.Hide
import Derived.Lib.QuietBelow
import Derived.Deep.DeepCutAuto
import Derived.Laws.BytesArg
import Derived.Laws.IdiomStrings
namespace Go.Proofs.YtoaboflepfmkpaaDoor
open Go Go.RowKit Go.Sort
set_option maxRecDepth 100000
set_option linter.unusedVariables false
/-- the two cells of a prefix -/
def SQ (k : Nat) (z n : Int) (W : World) : Prop := W.cell? ⟨k, 0, none⟩ = some (.int .u32 z) ∧ W.cell? ⟨k, 1, none⟩ = some (.int .i64 n)
theorem SQ.lt {k : Nat} {z n : Int} {W : World} (h : SQ k z n W) : k < W.heap.size := World.block_lt_of_cell? _ _ h.1
theorem SQ.ex {k b : Nat} {z n : Int} {W W' : World} (h : SQ k z n W) (he : Ex b W W') (hk : k ≠ b) : SQ k z n W' :=
  ⟨by rw [he.cell k 0 hk h.lt]; exact h.1, by rw [he.cell k 1 hk h.lt]; exact h.2⟩
theorem SQ.gr {k : Nat} {z n : Int} {W W' : World} (h : SQ k z n W) (g : Gr W W') : SQ k z n W' :=
  ⟨by rw [(Gr.cells g).1 k 0 h.lt]; exact h.1, by rw [(Gr.cells g).1 k 1 h.lt]; exact h.2⟩
theorem spoilt_n {B : Nat} (b k m cap : Nat) (xs : List Int) (w : World) (h : Cod B w b) (hm : m = xs.length) (hne : 0 < m) (hl : m ≤ 1000) (hcap : m ≤ cap)
    (hrow : ∀ j u, (xs.map (Value.int .u8))[j]? = some u → w.cell? ((⟨k, 0, none⟩ : Addr).add j) = some u) (hkb : k ≠ b) (hk : k < w.heap.size) :
    Calls Tryd.prog 17 #[.pointer (some ⟨b, 0, none⟩), .slice (some ⟨k, 0, none⟩) m cap] w (SpPost b m w) := by
  subst hm; exact spoilt_any b k cap xs w h hne hl hcap hrow hkb hk
theorem conv_bytes (l : List UInt8) (w : World) : ∃ (cap : Nat) (w' : World), (convert 9 37 (.string (str l))).run Tryd.prog w = .ok (.slice (some ⟨w.heap.size, 0, none⟩) l.length cap) w' ∧ Gr w w' ∧ w.heap.size < w'.heap.size ∧ l.length ≤ cap ∧
    (∀ j u, ((l.map fun c : UInt8 => (c.toNat : Int)).map (Value.int .u8))[j]? = some u → w'.cell? ((⟨w.heap.size, 0, none⟩ : Addr).add j) = some u) := by
  have h := run_bytes_of_string (P := Tryd.prog) w 9 37 5 (str l) Tryd.underlying9 Tryd.underlying37 Tryd.underlying5
  rw [str_size] at h
  refine ⟨_, _, h, (Gr.drew (Gr.refl _)).alloc _, by simp, grownCap_ge _ _ _ _, ?_⟩
  intro j u hj
  rw [List.getElem?_map, List.getElem?_map] at hj
  cases hc : l[j]? with
  | none => rw [hc] at hj; cases hj
  | some c =>
    rw [hc] at hj
    obtain rfl := Option.some.inj hj
    obtain ⟨hjl, hjc⟩ := List.getElem?_eq_some_iff.1 hc
    have hb := bytesRow_at (str l) (grownCap w l.length 0 5) j (by simpa [str] using hjl)
    have hn : ∀ (o : Obj), (w.drew.alloc o).heap[w.heap.size]? = some o := fun o => by
      show (w.heap.push o)[w.heap.size]? = _
      simp
    have hb2 : (bytesRow (str l) (grownCap w l.length 0 5))[j]? = some (.int .u8 (c.toNat : Int)) := hb.trans (by simp [str, hjc])
    rw [show (⟨w.heap.size, 0, none⟩ : Addr).add j = ⟨w.heap.size, j, none⟩ by unfold Addr.add; split <;> simp_all]
    simp only [World.cell?, hn]
    simp [hb2]
theorem conv_str {w : World} {base : Nat} {v : Value} {ys : List Int} (h : w.ownsRow base 5 1 v ys.length (ys.map (Value.int .u8))) :
    ∃ S : ByteArray, S.size = ys.length ∧ ∀ w', Gr w w' → (convert 37 9 v).run Tryd.prog w' = .ok (.string S) w' := by
  rcases h.2 with ⟨rfl, h0⟩ | ⟨g, cap, cur, rfl, -, hh, -⟩
  · exact ⟨ByteArray.empty, by rw [h0]; rfl, fun w' _ => run_convert_bytes_nil w' _ _ Tryd.underlying37 Tryd.underlying5 0 0 _ Tryd.underlying9⟩
  · refine ⟨strOfNums ys, by rw [strOfNums_size], fun w' g' => run_convert_bytes_arg w' _ _ Tryd.underlying37 Tryd.underlying5 g 0 ys.length cap ys rfl ?_ _ Tryd.underlying9⟩
    intro i hi
    have hc := h.cellAt i (by omega)
    rw [List.getElem?_map, List.getElem?_eq_getElem hi] at hc
    rw [Nat.zero_add, (Gr.cells g').1 g i (World.block_lt_of_cell? w _ hc), hc]
    simp [List.getD, List.getElem?_eq_getElem hi]
theorem parse_same (t : ByteArray) (h : t.size ≤ 1000) : ∃ x e : Int,
    (∀ W, Calls Tryd.prog 18 #[.string t] W fun r w' => r = .returned (.tuple #[.int .u32 x, .int .i64 e]) ∧ Gr W w') ∧
    (∀ W, Calls Tryd.prog 19 #[.string t] W fun r w' => r = .returned (.tuple #[.int .u32 x, .int .i64 e]) ∧ Gr W w') :=
  ⟨_, _, fun W => parse_any t W (by omega), fun W => rparse_any t W (by omega)⟩
theorem pp_same (t : ByteArray) (h : t.size ≤ 1000) : ∃ x n e : Int,
    (∀ W, Calls Tryd.prog 20 #[.string t] W fun r w' => r = .returned (.tuple #[.agg #[.int .u32 x, .int .i64 n], .int .i64 e]) ∧ Gr W w') ∧
    (∀ W, Calls Tryd.prog 21 #[.string t] W fun r w' => r = .returned (.tuple #[.agg #[.int .u32 x, .int .i64 n], .int .i64 e]) ∧ Gr W w') :=
  ⟨_, _, _, fun W => pp_any t W (by omega), fun W => rpp_any t W (by omega)⟩
set_option maxHeartbeats 4000000 in
theorem texts_walk (s : ByteArray) (a pa pn : Int) (sv : Value) (len : Nat) (w : World) (ht : Tab w) (hl : len ≤ 9223372036854775807) (hb : BytesV w.heap.size w sv len) (a0 : 0 ≤ a) (a1 : a < 4294967296) (pa0 : 0 ≤ pa) (pa1 : pa < 4294967296) :
    Calls Tryd.prog 4 #[.string s, .int .u32 a, .agg #[.int .u32 pa, .int .i64 pn], sv] w fun e w' => e = .returned (.bool true) ∧ Gr w w' := by
  have HT := Lib.hid ht
  clear ht
  go_enter Tryd.func4, Tryd.ntmps4
  by_cases h2 : 200 < s.size
  · have d2 : decide ((200 : Int) < (s.size : Int)) = true := by rw [decide_eq_true_eq]; omega
    go_wp2_with (go_at_call 12; refine (awake_any _ (HT.out.gr (Gr.alloc (Gr.refl _) _))).mono ?_; rintro e w1 ⟨rfl, hg1⟩)
    go_ret
    exact ⟨rfl, (Gr.alloc (Gr.refl _) _).step hg1⟩
  · have d2 : decide ((200 : Int) < (s.size : Int)) = false := by rw [decide_eq_false_iff_not]; omega
    have hP0 : SQ w.heap.size pa pn (w.alloc (.cells #[.int .u32 pa, .int .i64 pn] 36)) := ⟨by simp, by simp⟩
    go_wp2_with (go_at_call 12; refine (awake_any _ (HT.out.gr (Gr.alloc (Gr.refl _) _))).mono ?_; rintro e w1 ⟨rfl, hg1⟩)
    have hG1 := (Gr.alloc (Gr.refl w) (.cells #[.int .u32 pa, .int .i64 pn] 36)).step hg1
    have hP := hP0.gr hg1
    refine (new_any sv len _ hl (hb.gr hG1)).mono ?_
    rintro e w2 ⟨b, rfl, hbe, hc2, hg2⟩
    have hP := hP.gr hg2
    have hG2 := hG1.step hg2
    have hbw : w.heap.size < b := by have := hP0.lt; have := Gr.size hg1; simp at this; omega
    clear hP0 hg1 hG1 hg2 hbe
    go_wp2_with fail
    refine (prefix_any b _ hc2 (Gr.size hG2)).mono ?_
    rintro e w3 ⟨z, n, rfl, z0, z1, hzn, hc3, he3⟩
    have hP := hP.ex he3 (by omega)
    have hG3 := Ex.gr hG2 (by omega) he3
    have hP := hP.gr (Gr.alloc (Gr.refl _) (.cells #[.int .u32 z, .int .i64 n] 36))
    have hQ : SQ w3.heap.size z n (w3.alloc (.cells #[.int .u32 z, .int .i64 n] 36)) := ⟨by simp, by simp⟩
    have hG4 := hG3.alloc (.cells #[.int .u32 z, .int .i64 n] 36)
    have hc4 := hc3.gr (Gr.alloc (Gr.refl _) (.cells #[.int .u32 z, .int .i64 n] 36))
    have hbl := hc3.lt
    clear hc2 hc3 he3 hG3 hG2
    go_wp2_with fail
    generalize w3.alloc (.cells #[.int .u32 z, .int .i64 n] 36) = w4 at *
    obtain ⟨l, rfl⟩ : ∃ l, s = str l := ⟨_, (str_of s).symm⟩
    have hl2 : l.length ≤ 200 := by rw [str_size] at h2; omega
    have lA := fmtA_len a a0 a1
    have lF : 0 < (fmtP z n).length ∧ (fmtP z n).length ≤ 30 := by
      have hv := vld_iff.1 hzn
      have h1 := fmtA_len z z0 z1
      have h2 := dd_len n (by omega) (by omega)
      unfold fmtP
      rw [if_pos hzn, List.length_append, List.length_cons]
      omega
    have r17 : ∀ w, (Op.stringOp .add (str l) ⟨#[46, 49, 46, 50, 46, 51]⟩).run Tryd.prog w = .ok (.string (str (l ++ [46, 49, 46, 50, 46, 51]))) w := add_str l [46, 49, 46, 50, 46, 51] (by simp; omega)
    have r13 := add_dot (fmtA a) 47 (by omega)
    have r15 := add_str (fmtA a ++ [47]) l (by simp; omega)
    have hS : SQ w3.heap.size z n w4.drew := hQ.gr (Gr.drew (Gr.refl _))
    have hP := hP.gr (Gr.drew (Gr.refl _))
    have hG := hG4.step (Gr.drew (Gr.refl _))
    have hc := hc4.gr (Gr.drew (Gr.refl _))
    clear hQ hG4 hc4 hb h2
    refine region_plain (fun W' => SQ w3.heap.size z n W') (by kernel_rfl) ?_
    refine take_at 0 (some 35) (v := ?v0) rfl rfl (by kernel_rfl) (by kernel_rfl) (by kernel_rfl) (by rfl) ?y0 hS ?t0
    case y0 =>
      intro w' hSw
      obtain ⟨q0, q1⟩ := hSw
      go_simp
      (try with_reducible rfl)
    simp only [Act.put, List.setIfInBounds_toArray, List.set_cons_zero, List.set_cons_succ]
    refine take_at 1 (some 36) (v := ?v1) rfl rfl (by kernel_rfl) (by kernel_rfl) (by kernel_rfl) (by rfl) ?y1 hS ?t1
    case y1 =>
      intro w' hSw
      obtain ⟨q0, q1⟩ := hSw
      go_simp
      (try with_reducible rfl)
    simp only [Act.put, List.setIfInBounds_toArray, List.set_cons_zero, List.set_cons_succ]
    refine take_at 3 (some 38) (v := ?v3) rfl rfl (by kernel_rfl) (by kernel_rfl) (by kernel_rfl) (by rfl) ?y3 hS ?t3
    case y3 =>
      intro w' hSw
      obtain ⟨q0, q1⟩ := hSw
      go_simp
      (try with_reducible rfl)
    simp only [Act.put, List.setIfInBounds_toArray, List.set_cons_zero, List.set_cons_succ]
    refine take_at 5 (some 40) (v := ?v5) rfl rfl (by kernel_rfl) (by kernel_rfl) (by kernel_rfl) (by rfl) ?y5 hS ?t5
    case y5 =>
      intro w' hSw
      obtain ⟨q0, q1⟩ := hSw
      go_simp
      (try with_reducible rfl)
    simp only [Act.put, List.setIfInBounds_toArray, List.set_cons_zero, List.set_cons_succ]
    refine take_at 6 (some 41) (v := ?v6) rfl rfl (by kernel_rfl) (by kernel_rfl) (by kernel_rfl) (by rfl) ?y6 hS ?t6
    case y6 =>
      intro w' hSw
      obtain ⟨q0, q1⟩ := hSw
      go_simp
      (try with_reducible rfl)
    simp only [Act.put, List.setIfInBounds_toArray, List.set_cons_zero, List.set_cons_succ]
    refine take_at 11 (some 46) (v := ?v11) rfl rfl (by kernel_rfl) (by kernel_rfl) (by kernel_rfl) (by rfl) ?y11 hS ?t11
    case y11 =>
      intro w' hSw
      obtain ⟨q0, q1⟩ := hSw
      go_simp
      (try with_reducible rfl)
    simp only [Act.put, List.setIfInBounds_toArray, List.set_cons_zero, List.set_cons_succ]
    refine take_at 14 (some 49) (v := ?v14) rfl rfl (by kernel_rfl) (by kernel_rfl) (by kernel_rfl) (by rfl) ?y14 hS ?t14
    case y14 =>
      intro w' hSw
      obtain ⟨q0, q1⟩ := hSw
      go_simp
      (try with_reducible rfl)
    simp only [Act.put, List.setIfInBounds_toArray, List.set_cons_zero, List.set_cons_succ]
    refine take_at 16 (some 51) (v := ?v16) rfl rfl (by kernel_rfl) (by kernel_rfl) (by kernel_rfl) (by rfl) ?y16 hS ?t16
    case y16 =>
      intro w' hSw
      obtain ⟨q0, q1⟩ := hSw
      go_simp
      (try with_reducible rfl)
    simp only [Act.put, List.setIfInBounds_toArray, List.set_cons_zero, List.set_cons_succ]
    refine take_at 17 (some 52) (v := ?v17) rfl rfl (by kernel_rfl) (by kernel_rfl) (by kernel_rfl) (by rfl) ?y17 hS ?t17
    case y17 =>
      intro w' hSw
      obtain ⟨q0, q1⟩ := hSw
      go_simp
      (try with_reducible rfl)
    simp only [Act.put, List.setIfInBounds_toArray, List.set_cons_zero, List.set_cons_succ]
    refine next_at 2 rfl (by kernel_rfl) (by rfl) (fun K hK => ?_)
    go_simp
    refine (format_any a _ a0 a1 (HT.out.gr hG)).mono ?_
    rintro e w5 ⟨rfl, hg⟩
    replace hc := hc.gr hg
    replace hG := hG.step hg
    replace hP := hP.gr hg
    replace hS := hS.gr hg
    refine hK _ _ hS ?_
    clear hK K
    clear hg
    refine next_at 4 rfl (by kernel_rfl) (by rfl) (fun K hK => ?_)
    go_simp
    refine (rfmtp_any z n _ z0 z1).mono ?_
    rintro e w6 ⟨rfl, hg⟩
    replace hc := hc.gr hg
    replace hG := hG.step hg
    replace hP := hP.gr hg
    replace hS := hS.gr hg
    refine hK _ _ hS ?_
    clear hK K
    clear hg
    refine next_at 7 rfl (by kernel_rfl) (by rfl) (fun K hK => ?_)
    go_simp
    refine (rfmtp_any z n _ z0 z1).mono ?_
    rintro e w7 ⟨rfl, hg⟩
    replace hc := hc.gr hg
    replace hG := hG.step hg
    replace hP := hP.gr hg
    replace hS := hS.gr hg
    refine hK _ _ hS ?_
    clear hK K
    clear hg
    refine next_at 8 rfl (by kernel_rfl) (by rfl) (fun K hK => ?_)
    obtain ⟨cap, w8, hcv, hg, hs8, hcap, hrow⟩ := conv_bytes (fmtP z n) w7
    have hb7 := hc.lt
    go_simp
    replace hc := hc.gr hg
    replace hG := hG.step hg
    replace hP := hP.gr hg
    replace hS := hS.gr hg
    refine hK _ _ hS ?_
    clear hK K
    clear hg hcv
    refine next_at 9 rfl (by kernel_rfl) (by rfl) (fun K hK => ?_)
    go_simp
    refine (spoilt_n b w7.heap.size _ cap _ _ hc (by simp) lF.1 (by omega) hcap hrow (by omega) hs8).mono ?_
    rintro e w9 ⟨v, ys, rfl, hown, hys, he⟩
    obtain ⟨S, hSz, hconv⟩ := conv_str hown
    replace hG := Ex.gr hG (by omega) he
    replace hP := hP.ex he (by omega)
    replace hS := hS.ex he (by omega)
    refine hK _ _ hS ?_
    clear hK K he hown hrow hs8 hcap hc
    refine next_two 10 12 rfl rfl (by kernel_rfl) (by rfl) (by rfl) (fun K hK => ?_) (fun K hK => ?_)
    · have h10 := hconv _ (Gr.refl _)
      go_simp
      refine hK _ _ hS ?_
      clear hK K h10
      refine next_at 12 rfl (by kernel_rfl) (by rfl) (fun K hK => ?_)
      go_simp
      refine (format_any a _ a0 a1 (HT.out.gr hG)).mono ?_
      rintro e wf ⟨rfl, hg⟩
      replace hG := hG.step hg
      replace hP := hP.gr hg
      replace hS := hS.gr hg
      refine hK _ _ hS ?_
      clear hK K
      clear hg hconv
      refine next_at 13 rfl (by kernel_rfl) (by rfl) (fun K hK => ?_)
      go_simp
      refine hK _ _ hS ?_
      clear hK K
      refine next_at 15 rfl (by kernel_rfl) (by rfl) (fun K hK => ?_)
      go_simp
      refine hK _ _ hS ?_
      clear hK K
      refine next_at 18 rfl (by kernel_rfl) (by rfl) (fun K hK => ?_)
      go_simp
      have g18 : Gr wf (wf.alloc (.cells #[.string (str l), .string (str (fmtA a)), .string (str (fmtP z n)), .string S, .string (str (fmtA a ++ 47 :: l)), .string (str (l ++ [46, 49, 46, 50, 46, 51]))] 9)) := Gr.alloc (Gr.refl _) _
      have hX : ∀ i, i < 6 → ∃ t : ByteArray, (wf.alloc (.cells #[.string (str l), .string (str (fmtA a)), .string (str (fmtP z n)), .string S, .string (str (fmtA a ++ 47 :: l)), .string (str (l ++ [46, 49, 46, 50, 46, 51]))] 9)).cell? ⟨wf.heap.size, i, none⟩ = some (.string t) ∧ t.size ≤ 1000 := by
        intro i hi
        rw [World.cell?_alloc_new]
        have : i = 0 ∨ i = 1 ∨ i = 2 ∨ i = 3 ∨ i = 4 ∨ i = 5 := by omega
        rcases this with rfl | rfl | rfl | rfl | rfl | rfl <;> refine ⟨_, rfl, ?_⟩
        · rw [str_size]; omega
        · rw [str_size]; omega
        · rw [str_size]; omega
        · omega
        · rw [str_size, List.length_append, List.length_cons]; omega
        · rw [str_size, List.length_append]; simp only [List.length_cons, List.length_nil]; omega
      have hG := hG.step g18
      have hP := hP.gr g18
      have hS := hS.gr g18
      clear g18
      generalize wf.alloc (.cells #[.string (str l), .string (str (fmtA a)), .string (str (fmtP z n)), .string S, .string (str (fmtA a ++ 47 :: l)), .string (str (l ++ [46, 49, 46, 50, 46, 51]))] 9) = W0 at *
      generalize wf.heap.size = L at *
      generalize w3.heap.size = KQ at *
      refine hK _ _ hS ?_
      clear hK K
      refine next_at 19 rfl (by kernel_rfl) (by rfl) (fun K hK => ?_)
      go_simp
      refine hK _ _ hS ?_
      clear hK K
      refine wpAnyH_done (by kernel_rfl) ?_ _
      refine qz_normal ?_
      have HX := Lib.hid hX
      clear hX
      go_wp2_with fail
      go_loopw [12] (fun v wr => ∃ i : Nat, i ≤ 6 ∧ v = .int .i64 i ∧ Gr W0 wr) (fun v _ => 6 - (intOf v).toNat)
      case atStart => exact ⟨0, by omega, rfl, Gr.refl _⟩
      case round =>
        obtain ⟨i, hi, rfl, hgr⟩ := hrel
        by_cases hi6 : i < 6
        · obtain ⟨t, hcv, ht⟩ := HX.out i hi6
          have i0 : (i : Int) < 6 := by omega
          have hL := World.block_lt_of_cell? _ _ hcv
          have hcr : wr.cell? ⟨L, i, none⟩ = some (.string t) := by rw [(Gr.cells hgr).1 _ _ hL]; exact hcv
          obtain ⟨x, e1, ca1, ca2⟩ := parse_same t ht
          obtain ⟨y, m, e2, cb1, cb2⟩ := pp_same t ht
          have CA1 := Lib.hid ca1
          have CA2 := Lib.hid ca2
          have CB1 := Lib.hid cb1
          have CB2 := Lib.hid cb2
          clear ca1 ca2 cb1 cb2
          go_wp2_with fail
          refine (CA1.out _).mono ?_
          rintro e w5 ⟨rfl, hg⟩
          replace hgr := hgr.step hg
          have hcr : w5.cell? ⟨L, i, none⟩ = some (.string t) := by rw [(Gr.cells hgr).1 _ _ hL]; exact hcv
          clear hg
          go_wp2_with fail
          refine (CA2.out _).mono ?_
          rintro e w6 ⟨rfl, hg⟩
          replace hgr := hgr.step hg
          have hcr : w6.cell? ⟨L, i, none⟩ = some (.string t) := by rw [(Gr.cells hgr).1 _ _ hL]; exact hcv
          clear hg
          go_wp2_with fail
          refine (CB1.out _).mono ?_
          rintro e w7 ⟨rfl, hg⟩
          replace hgr := (hgr.step hg).alloc (.cells #[.int .u32 y, .int .i64 m] 36)
          have hcr : (w7.alloc (.cells #[.int .u32 y, .int .i64 m] 36)).cell? ⟨L, i, none⟩ = some (.string t) := by rw [(Gr.cells hgr).1 _ _ hL]; exact hcv
          have X0 : SQ w7.heap.size y m (w7.alloc (.cells #[.int .u32 y, .int .i64 m] 36)) := ⟨by simp, by simp⟩
          clear hg
          go_wp2_with fail
          generalize w7.alloc (.cells #[.int .u32 y, .int .i64 m] 36) = WX at *
          generalize w7.heap.size = BX at *
          refine (CB2.out _).mono ?_
          rintro e w8 ⟨rfl, hg⟩
          have X1 := (X0.gr hg).gr (Gr.alloc (Gr.refl _) (.cells #[.int .u32 y, .int .i64 m] 36))
          replace hgr := (hgr.step hg).alloc (.cells #[.int .u32 y, .int .i64 m] 36)
          obtain ⟨X1a, X1b⟩ := X1
          clear hg X0 hcr
          go_wp2_with fail
          case roundEnd =>
            refine ⟨⟨i + 1, by omega, by simp, ?_⟩, by simp [intOf]; omega⟩
            exact hgr
        · obtain rfl : i = 6 := by omega
          clear hi hi6
          go_wp2_with fail
          replace hG := (hG.step hgr).step (Gr.drew (Gr.refl _))
          have hS : SQ w.heap.size pa pn wr.drew ∧ SQ KQ z n wr.drew := ⟨(hP.gr hgr).gr (Gr.drew (Gr.refl _)), (hS.gr hgr).gr (Gr.drew (Gr.refl _))⟩
          clear hP hgr HX
          refine region_plain (fun W' => SQ w.heap.size pa pn W' ∧ SQ KQ z n W') (by kernel_rfl) ?_
          refine take_at 0 (some 110) (v := ?ua0) rfl rfl (by kernel_rfl) (by kernel_rfl) (by kernel_rfl) (by rfl) ?xa0 hS ?za0
          case xa0 =>
            intro w' hSw
            obtain ⟨⟨p0, p1⟩, q0, q1⟩ := hSw
            go_simp
            (try with_reducible rfl)
          simp only [Act.put, List.setIfInBounds_toArray, List.set_cons_zero, List.set_cons_succ]
          refine take_at 2 (some 112) (v := ?ua2) rfl rfl (by kernel_rfl) (by kernel_rfl) (by kernel_rfl) (by rfl) ?xa2 hS ?za2
          case xa2 =>
            intro w' hSw
            obtain ⟨⟨p0, p1⟩, q0, q1⟩ := hSw
            go_simp
            (try with_reducible rfl)
          simp only [Act.put, List.setIfInBounds_toArray, List.set_cons_zero, List.set_cons_succ]
          refine next_at 1 rfl (by kernel_rfl) (by rfl) (fun K hK => ?_)
          go_simp
          refine (format_any a _ a0 a1 (HT.out.gr hG)).mono ?_
          rintro e ww1 ⟨rfl, hg⟩
          replace hG := hG.step hg
          replace hS : SQ w.heap.size pa pn ww1 ∧ SQ KQ z n ww1 := ⟨hS.1.gr hg, hS.2.gr hg⟩
          refine hK _ _ hS ?_
          clear hK K hg
          refine next_at 3 rfl (by kernel_rfl) (by rfl) (fun K hK => ?_)
          go_simp
          refine (rformat_any a _ a0 a1).mono ?_
          rintro e ww3 ⟨rfl, hg⟩
          replace hG := hG.step hg
          replace hS : SQ w.heap.size pa pn ww3 ∧ SQ KQ z n ww3 := ⟨hS.1.gr hg, hS.2.gr hg⟩
          refine hK _ _ hS ?_
          clear hK K hg
          refine next_at 4 rfl (by kernel_rfl) (by rfl) (fun K hK => ?_)
          go_simp
          refine hK _ _ hS ?_
          clear hK K
          refine next_at 5 rfl (by kernel_rfl) (by rfl) (fun K hK => ?_)
          go_simp
          refine hK _ _ hS ?_
          clear hK K
          refine take_at 6 (some 116) (v := ?ua6) rfl rfl (by kernel_rfl) (by kernel_rfl) (by kernel_rfl) (by rfl) ?xa6 hS ?za6
          case xa6 =>
            intro w' hSw
            obtain ⟨⟨p0, p1⟩, q0, q1⟩ := hSw
            go_simp
            (try with_reducible rfl)
          simp only [Act.put, List.setIfInBounds_toArray, List.set_cons_zero, List.set_cons_succ]
          refine take_at 8 (some 118) (v := ?ua8) rfl rfl (by kernel_rfl) (by kernel_rfl) (by kernel_rfl) (by rfl) ?xa8 hS ?za8
          case xa8 =>
            intro w' hSw
            obtain ⟨⟨p0, p1⟩, q0, q1⟩ := hSw
            go_simp
            (try with_reducible rfl)
          simp only [Act.put, List.setIfInBounds_toArray, List.set_cons_zero, List.set_cons_succ]
          refine next_at 7 rfl (by kernel_rfl) (by rfl) (fun K hK => ?_)
          go_simp
          refine (fmtp_any pa pn _ pa0 pa1 (HT.out.gr hG)).mono ?_
          rintro e ww7 ⟨rfl, hg⟩
          replace hG := hG.step hg
          replace hS : SQ w.heap.size pa pn ww7 ∧ SQ KQ z n ww7 := ⟨hS.1.gr hg, hS.2.gr hg⟩
          refine hK _ _ hS ?_
          clear hK K hg
          refine next_at 9 rfl (by kernel_rfl) (by rfl) (fun K hK => ?_)
          go_simp
          refine (rfmtp_any pa pn _ pa0 pa1).mono ?_
          rintro e ww9 ⟨rfl, hg⟩
          replace hG := hG.step hg
          replace hS : SQ w.heap.size pa pn ww9 ∧ SQ KQ z n ww9 := ⟨hS.1.gr hg, hS.2.gr hg⟩
          refine hK _ _ hS ?_
          clear hK K hg
          refine next_at 10 rfl (by kernel_rfl) (by rfl) (fun K hK => ?_)
          go_simp
          refine hK _ _ hS ?_
          clear hK K
          refine next_at 11 rfl (by kernel_rfl) (by rfl) (fun K hK => ?_)
          go_simp
          refine hK _ _ hS ?_
          clear hK K
          refine next_at 12 rfl (by kernel_rfl) (by rfl) (fun K hK => ?_)
          go_simp
          refine hK _ _ hS ?_
          clear hK K
          refine take_at 13 (some 123) (v := ?ua13) rfl rfl (by kernel_rfl) (by kernel_rfl) (by kernel_rfl) (by rfl) ?xa13 hS ?za13
          case xa13 =>
            intro w' hSw
            obtain ⟨⟨p0, p1⟩, q0, q1⟩ := hSw
            go_simp
            (try with_reducible rfl)
          simp only [Act.put, List.setIfInBounds_toArray, List.set_cons_zero, List.set_cons_succ]
          refine take_at 15 (some 125) (v := ?ua15) rfl rfl (by kernel_rfl) (by kernel_rfl) (by kernel_rfl) (by rfl) ?xa15 hS ?za15
          case xa15 =>
            intro w' hSw
            obtain ⟨⟨p0, p1⟩, q0, q1⟩ := hSw
            go_simp
            (try with_reducible rfl)
          simp only [Act.put, List.setIfInBounds_toArray, List.set_cons_zero, List.set_cons_succ]
          refine next_at 14 rfl (by kernel_rfl) (by rfl) (fun K hK => ?_)
          go_simp
          refine (fmtp_any z n _ z0 z1 (HT.out.gr hG)).mono ?_
          rintro e ww14 ⟨rfl, hg⟩
          replace hG := hG.step hg
          replace hS : SQ w.heap.size pa pn ww14 ∧ SQ KQ z n ww14 := ⟨hS.1.gr hg, hS.2.gr hg⟩
          refine hK _ _ hS ?_
          clear hK K hg
          refine next_at 16 rfl (by kernel_rfl) (by rfl) (fun K hK => ?_)
          go_simp
          refine (rfmtp_any z n _ z0 z1).mono ?_
          rintro e ww16 ⟨rfl, hg⟩
          replace hG := hG.step hg
          replace hS : SQ w.heap.size pa pn ww16 ∧ SQ KQ z n ww16 := ⟨hS.1.gr hg, hS.2.gr hg⟩
          refine hK _ _ hS ?_
          clear hK K hg
          refine next_at 17 rfl (by kernel_rfl) (by rfl) (fun K hK => ?_)
          go_simp
          refine hK _ _ hS ?_
          clear hK K
          refine next_at 18 rfl (by kernel_rfl) (by rfl) (fun K hK => ?_)
          go_simp
          refine hK _ _ hS ?_
          clear hK K
          refine next_at 19 rfl (by kernel_rfl) (by rfl) (fun K hK => ?_)
          go_simp
          refine hK _ _ hS ?_
          clear hK K
          refine wpAnyH_done (by kernel_rfl) ?_ _
          refine qz_normal ?_
          go_wp2_with fail
          go_ret
          exact ⟨rfl, hG⟩
    · go_simp
      refine (format_any a _ a0 a1 (HT.out.gr hG)).mono ?_
      rintro e wf ⟨rfl, hg⟩
      have h10 := hconv _ hg
      replace hG := hG.step hg
      replace hP := hP.gr hg
      replace hS := hS.gr hg
      refine hK _ _ hS ?_
      clear hK K
      clear hg hconv
      refine take_at 13 (some 48) (v := ?v13) rfl rfl (by kernel_rfl) (by kernel_rfl) (by kernel_rfl) (by rfl) ?y13 hS ?t13
      case y13 =>
        intro w' hSw
        obtain ⟨q0, q1⟩ := hSw
        go_simp
        (try with_reducible rfl)
      simp only [Act.put, List.setIfInBounds_toArray, List.set_cons_zero, List.set_cons_succ]
      refine take_at 15 (some 50) (v := ?v15) rfl rfl (by kernel_rfl) (by kernel_rfl) (by kernel_rfl) (by rfl) ?y15 hS ?t15
      case y15 =>
        intro w' hSw
        obtain ⟨q0, q1⟩ := hSw
        go_simp
        (try with_reducible rfl)
      simp only [Act.put, List.setIfInBounds_toArray, List.set_cons_zero, List.set_cons_succ]
      refine next_at 10 rfl (by kernel_rfl) (by rfl) (fun K hK => ?_)
      go_simp
      refine hK _ _ hS ?_
      clear hK K
      clear h10
      refine next_at 18 rfl (by kernel_rfl) (by rfl) (fun K hK => ?_)
      go_simp
      have g18 : Gr wf (wf.alloc (.cells #[.string (str l), .string (str (fmtA a)), .string (str (fmtP z n)), .string S, .string (str (fmtA a ++ 47 :: l)), .string (str (l ++ [46, 49, 46, 50, 46, 51]))] 9)) := Gr.alloc (Gr.refl _) _
      have hX : ∀ i, i < 6 → ∃ t : ByteArray, (wf.alloc (.cells #[.string (str l), .string (str (fmtA a)), .string (str (fmtP z n)), .string S, .string (str (fmtA a ++ 47 :: l)), .string (str (l ++ [46, 49, 46, 50, 46, 51]))] 9)).cell? ⟨wf.heap.size, i, none⟩ = some (.string t) ∧ t.size ≤ 1000 := by
        intro i hi
        rw [World.cell?_alloc_new]
        have : i = 0 ∨ i = 1 ∨ i = 2 ∨ i = 3 ∨ i = 4 ∨ i = 5 := by omega
        rcases this with rfl | rfl | rfl | rfl | rfl | rfl <;> refine ⟨_, rfl, ?_⟩
        · rw [str_size]; omega
        · rw [str_size]; omega
        · rw [str_size]; omega
        · omega
        · rw [str_size, List.length_append, List.length_cons]; omega
        · rw [str_size, List.length_append]; simp only [List.length_cons, List.length_nil]; omega
      have hG := hG.step g18
      have hP := hP.gr g18
      have hS := hS.gr g18
      clear g18
      generalize wf.alloc (.cells #[.string (str l), .string (str (fmtA a)), .string (str (fmtP z n)), .string S, .string (str (fmtA a ++ 47 :: l)), .string (str (l ++ [46, 49, 46, 50, 46, 51]))] 9) = W0 at *
      generalize wf.heap.size = L at *
      generalize w3.heap.size = KQ at *
      refine hK _ _ hS ?_
      clear hK K
      refine next_at 19 rfl (by kernel_rfl) (by rfl) (fun K hK => ?_)
      go_simp
      refine hK _ _ hS ?_
      clear hK K
      refine wpAnyH_done (by kernel_rfl) ?_ _
      refine qz_normal ?_
      have HX := Lib.hid hX
      clear hX
      go_wp2_with fail
      go_loopw [12] (fun v wr => ∃ i : Nat, i ≤ 6 ∧ v = .int .i64 i ∧ Gr W0 wr) (fun v _ => 6 - (intOf v).toNat)
      case atStart => exact ⟨0, by omega, rfl, Gr.refl _⟩
      case round =>
        obtain ⟨i, hi, rfl, hgr⟩ := hrel
        by_cases hi6 : i < 6
        · obtain ⟨t, hcv, ht⟩ := HX.out i hi6
          have i0 : (i : Int) < 6 := by omega
          have hL := World.block_lt_of_cell? _ _ hcv
          have hcr : wr.cell? ⟨L, i, none⟩ = some (.string t) := by rw [(Gr.cells hgr).1 _ _ hL]; exact hcv
          obtain ⟨x, e1, ca1, ca2⟩ := parse_same t ht
          obtain ⟨y, m, e2, cb1, cb2⟩ := pp_same t ht
          have CA1 := Lib.hid ca1
          have CA2 := Lib.hid ca2
          have CB1 := Lib.hid cb1
          have CB2 := Lib.hid cb2
          clear ca1 ca2 cb1 cb2
          go_wp2_with fail
          refine (CA1.out _).mono ?_
          rintro e w5 ⟨rfl, hg⟩
          replace hgr := hgr.step hg
          have hcr : w5.cell? ⟨L, i, none⟩ = some (.string t) := by rw [(Gr.cells hgr).1 _ _ hL]; exact hcv
          clear hg
          go_wp2_with fail
          refine (CA2.out _).mono ?_
          rintro e w6 ⟨rfl, hg⟩
          replace hgr := hgr.step hg
          have hcr : w6.cell? ⟨L, i, none⟩ = some (.string t) := by rw [(Gr.cells hgr).1 _ _ hL]; exact hcv
          clear hg
          go_wp2_with fail
          refine (CB1.out _).mono ?_
          rintro e w7 ⟨rfl, hg⟩
          replace hgr := (hgr.step hg).alloc (.cells #[.int .u32 y, .int .i64 m] 36)
          have hcr : (w7.alloc (.cells #[.int .u32 y, .int .i64 m] 36)).cell? ⟨L, i, none⟩ = some (.string t) := by rw [(Gr.cells hgr).1 _ _ hL]; exact hcv
          have X0 : SQ w7.heap.size y m (w7.alloc (.cells #[.int .u32 y, .int .i64 m] 36)) := ⟨by simp, by simp⟩
          clear hg
          go_wp2_with fail
          generalize w7.alloc (.cells #[.int .u32 y, .int .i64 m] 36) = WX at *
          generalize w7.heap.size = BX at *
          refine (CB2.out _).mono ?_
          rintro e w8 ⟨rfl, hg⟩
          have X1 := (X0.gr hg).gr (Gr.alloc (Gr.refl _) (.cells #[.int .u32 y, .int .i64 m] 36))
          replace hgr := (hgr.step hg).alloc (.cells #[.int .u32 y, .int .i64 m] 36)
          obtain ⟨X1a, X1b⟩ := X1
          clear hg X0 hcr
          go_wp2_with fail
          case roundEnd =>
            refine ⟨⟨i + 1, by omega, by simp, ?_⟩, by simp [intOf]; omega⟩
            exact hgr
        · obtain rfl : i = 6 := by omega
          clear hi hi6
          go_wp2_with fail
          replace hG := (hG.step hgr).step (Gr.drew (Gr.refl _))
          have hS : SQ w.heap.size pa pn wr.drew ∧ SQ KQ z n wr.drew := ⟨(hP.gr hgr).gr (Gr.drew (Gr.refl _)), (hS.gr hgr).gr (Gr.drew (Gr.refl _))⟩
          clear hP hgr HX
          refine region_plain (fun W' => SQ w.heap.size pa pn W' ∧ SQ KQ z n W') (by kernel_rfl) ?_
          refine take_at 0 (some 110) (v := ?ub0) rfl rfl (by kernel_rfl) (by kernel_rfl) (by kernel_rfl) (by rfl) ?xb0 hS ?zb0
          case xb0 =>
            intro w' hSw
            obtain ⟨⟨p0, p1⟩, q0, q1⟩ := hSw
            go_simp
            (try with_reducible rfl)
          simp only [Act.put, List.setIfInBounds_toArray, List.set_cons_zero, List.set_cons_succ]
          refine take_at 2 (some 112) (v := ?ub2) rfl rfl (by kernel_rfl) (by kernel_rfl) (by kernel_rfl) (by rfl) ?xb2 hS ?zb2
          case xb2 =>
            intro w' hSw
            obtain ⟨⟨p0, p1⟩, q0, q1⟩ := hSw
            go_simp
            (try with_reducible rfl)
          simp only [Act.put, List.setIfInBounds_toArray, List.set_cons_zero, List.set_cons_succ]
          refine next_at 1 rfl (by kernel_rfl) (by rfl) (fun K hK => ?_)
          go_simp
          refine (format_any a _ a0 a1 (HT.out.gr hG)).mono ?_
          rintro e ww1 ⟨rfl, hg⟩
          replace hG := hG.step hg
          replace hS : SQ w.heap.size pa pn ww1 ∧ SQ KQ z n ww1 := ⟨hS.1.gr hg, hS.2.gr hg⟩
          refine hK _ _ hS ?_
          clear hK K hg
          refine next_at 3 rfl (by kernel_rfl) (by rfl) (fun K hK => ?_)
          go_simp
          refine (rformat_any a _ a0 a1).mono ?_
          rintro e ww3 ⟨rfl, hg⟩
          replace hG := hG.step hg
          replace hS : SQ w.heap.size pa pn ww3 ∧ SQ KQ z n ww3 := ⟨hS.1.gr hg, hS.2.gr hg⟩
          refine hK _ _ hS ?_
          clear hK K hg
          refine next_at 4 rfl (by kernel_rfl) (by rfl) (fun K hK => ?_)
          go_simp
          refine hK _ _ hS ?_
          clear hK K
          refine next_at 5 rfl (by kernel_rfl) (by rfl) (fun K hK => ?_)
          go_simp
          refine hK _ _ hS ?_
          clear hK K
          refine take_at 6 (some 116) (v := ?ub6) rfl rfl (by kernel_rfl) (by kernel_rfl) (by kernel_rfl) (by rfl) ?xb6 hS ?zb6
          case xb6 =>
            intro w' hSw
            obtain ⟨⟨p0, p1⟩, q0, q1⟩ := hSw
            go_simp
            (try with_reducible rfl)
          simp only [Act.put, List.setIfInBounds_toArray, List.set_cons_zero, List.set_cons_succ]
          refine take_at 8 (some 118) (v := ?ub8) rfl rfl (by kernel_rfl) (by kernel_rfl) (by kernel_rfl) (by rfl) ?xb8 hS ?zb8
          case xb8 =>
            intro w' hSw
            obtain ⟨⟨p0, p1⟩, q0, q1⟩ := hSw
            go_simp
            (try with_reducible rfl)
          simp only [Act.put, List.setIfInBounds_toArray, List.set_cons_zero, List.set_cons_succ]
          refine next_at 7 rfl (by kernel_rfl) (by rfl) (fun K hK => ?_)
          go_simp
          refine (fmtp_any pa pn _ pa0 pa1 (HT.out.gr hG)).mono ?_
          rintro e ww7 ⟨rfl, hg⟩
          replace hG := hG.step hg
          replace hS : SQ w.heap.size pa pn ww7 ∧ SQ KQ z n ww7 := ⟨hS.1.gr hg, hS.2.gr hg⟩
          refine hK _ _ hS ?_
          clear hK K hg
          refine next_at 9 rfl (by kernel_rfl) (by rfl) (fun K hK => ?_)
          go_simp
          refine (rfmtp_any pa pn _ pa0 pa1).mono ?_
          rintro e ww9 ⟨rfl, hg⟩
          replace hG := hG.step hg
          replace hS : SQ w.heap.size pa pn ww9 ∧ SQ KQ z n ww9 := ⟨hS.1.gr hg, hS.2.gr hg⟩
          refine hK _ _ hS ?_
          clear hK K hg
          refine next_at 10 rfl (by kernel_rfl) (by rfl) (fun K hK => ?_)
          go_simp
          refine hK _ _ hS ?_
          clear hK K
          refine next_at 11 rfl (by kernel_rfl) (by rfl) (fun K hK => ?_)
          go_simp
          refine hK _ _ hS ?_
          clear hK K
          refine next_at 12 rfl (by kernel_rfl) (by rfl) (fun K hK => ?_)
          go_simp
          refine hK _ _ hS ?_
          clear hK K
          refine take_at 13 (some 123) (v := ?ub13) rfl rfl (by kernel_rfl) (by kernel_rfl) (by kernel_rfl) (by rfl) ?xb13 hS ?zb13
          case xb13 =>
            intro w' hSw
            obtain ⟨⟨p0, p1⟩, q0, q1⟩ := hSw
            go_simp
            (try with_reducible rfl)
          simp only [Act.put, List.setIfInBounds_toArray, List.set_cons_zero, List.set_cons_succ]
          refine take_at 15 (some 125) (v := ?ub15) rfl rfl (by kernel_rfl) (by kernel_rfl) (by kernel_rfl) (by rfl) ?xb15 hS ?zb15
          case xb15 =>
            intro w' hSw
            obtain ⟨⟨p0, p1⟩, q0, q1⟩ := hSw
            go_simp
            (try with_reducible rfl)
          simp only [Act.put, List.setIfInBounds_toArray, List.set_cons_zero, List.set_cons_succ]
          refine next_at 14 rfl (by kernel_rfl) (by rfl) (fun K hK => ?_)
          go_simp
          refine (fmtp_any z n _ z0 z1 (HT.out.gr hG)).mono ?_
          rintro e ww14 ⟨rfl, hg⟩
          replace hG := hG.step hg
          replace hS : SQ w.heap.size pa pn ww14 ∧ SQ KQ z n ww14 := ⟨hS.1.gr hg, hS.2.gr hg⟩
          refine hK _ _ hS ?_
          clear hK K hg
          refine next_at 16 rfl (by kernel_rfl) (by rfl) (fun K hK => ?_)
          go_simp
          refine (rfmtp_any z n _ z0 z1).mono ?_
          rintro e ww16 ⟨rfl, hg⟩
          replace hG := hG.step hg
          replace hS : SQ w.heap.size pa pn ww16 ∧ SQ KQ z n ww16 := ⟨hS.1.gr hg, hS.2.gr hg⟩
          refine hK _ _ hS ?_
          clear hK K hg
          refine next_at 17 rfl (by kernel_rfl) (by rfl) (fun K hK => ?_)
          go_simp
          refine hK _ _ hS ?_
          clear hK K
          refine next_at 18 rfl (by kernel_rfl) (by rfl) (fun K hK => ?_)
          go_simp
          refine hK _ _ hS ?_
          clear hK K
          refine next_at 19 rfl (by kernel_rfl) (by rfl) (fun K hK => ?_)
          go_simp
          refine hK _ _ hS ?_
          clear hK K
          refine wpAnyH_done (by kernel_rfl) ?_ _
          refine qz_normal ?_
          go_wp2_with fail
          go_ret
          exact ⟨rfl, hG⟩
end Go.Proofs.YtoaboflepfmkpaaDoor
