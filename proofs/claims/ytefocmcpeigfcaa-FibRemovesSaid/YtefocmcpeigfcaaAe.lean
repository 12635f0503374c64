/- The document's Put. -/
import Derived.Test.YtefocmcpeigfcaaAd
import Derived.WalkKit
import Derived.WalkSpells
import Derived.WalkLawsBesides
import Derived.WalkSmall
import Derived.Handy
import Derived.BigQuiet
import Derived.Deep.QuietTactic
import Derived.Deep.RegionHeld3
import Derived.Deep.DeepFit
import Derived.Below
import Derived.Lib.Hide
import Derived.Lib.QuietBelow
import Derived.Deep.DeepCutAuto
namespace Go.Proofs.Ytefocmcpeigfcaa
open Go Go.RowKit Go.Sort
set_option maxRecDepth 100000
set_option linter.unusedVariables false
/-- the order of two routes' prefixes -/
def cmr (x r : Rt) : Int := cmpp x.a x.n r.a r.n
theorem cmr_three (x r : Rt) : cmr x r = -1 ∨ cmr x r = 0 ∨ cmr x r = 1 := by
  unfold cmr cmpp ord
  repeat' split
  all_goals omega
/-- putting a route, one route of the table after the other -/
def putS (r : Rt) (s : List Rt × Bool) (x : Rt) : List Rt × Bool := (s.1 ++ (if 0 ≤ cmr x r ∧ s.2 = false then [r] else []) ++ (if cmr x r = 0 then [] else [x]), s.2 || decide (0 ≤ cmr x r))
def putF (r : Rt) (l : List Rt) : List Rt × Bool := l.foldl (putS r) ([], false)
def putL (r : Rt) (l : List Rt) : List Rt := (putF r l).1 ++ (if (putF r l).2 = true then [] else [r])
theorem putF_one (r : Rt) (l : List Rt) (k : Nat) (x : Rt) (h : l[k]? = some x) : putF r (l.take (k + 1)) = putS r (putF r (l.take k)) x := by
  have e : l.take (k + 1) = l.take k ++ [x] := by rw [List.take_add_one, h]; rfl
  rw [e]
  unfold putF
  rw [List.foldl_append]; rfl
theorem putF_len (r : Rt) (l : List Rt) : (putF r l).1.length ≤ 2 * l.length := by
  unfold putF
  have key : ∀ (l : List Rt) (s : List Rt × Bool), (l.foldl (putS r) s).1.length ≤ s.1.length + 2 * l.length := by
    intro l
    induction l with
    | nil => intro s; simp
    | cons x t ih =>
      intro s
      rw [List.foldl_cons]
      refine Nat.le_trans (ih _) ?_
      have : (putS r s x).1.length ≤ s.1.length + 2 := by
        unfold putS
        simp only [List.length_append]
        split <;> split <;> simp
      rw [List.length_cons]; omega
  simpa using key l ([], false)
set_option maxHeartbeats 2000000 in
theorem rput_any {p q : Nat → Prop} (v : Value) (l : List Rt) (rv : Value) (r : Rt) (w : World) (h : Tb p w v l) (hf : Few l) (hrv : Rv q w rv r) (hrn : r.nx.length ≤ 1000) :
    Calls Try.prog 20 #[v, rv] w (TabPost (putL r l) w) := by
  obtain ⟨ad, cap, rfl, hlc, hcp⟩ := h.form
  obtain ⟨rn, rfl, hrk, hri⟩ := hrv
  have HT := Lib.hid h
  have HF := Lib.hid hf
  have HRN := Lib.hid hrn
  have HRI := Lib.hid hri
  have HRK := Lib.hid hrk
  have hl := hf.1
  generalize hln : l.length = len at *
  have HN := Lib.hid hln
  unfold rtv
  dsimp only
  clear h hf hln hrn hri hrk
  go_enter Try.func20, Try.ntmps20
  go_wp2_with fail
  have hGa : Gr w (w.alloc (.cells #[.int .u32 r.a, .int .i64 r.n, rn, .int .i64 r.bal] 34)) := (Gr.refl _).alloc _
  have k1 : CL (w.alloc (.cells #[.int .u32 r.a, .int .i64 r.n, rn, .int .i64 r.bal] 34)) w.heap.size [.int .u32 r.a, .int .i64 r.n, rn, .int .i64 r.bal] := CL.new _ _ _ _ rfl
  generalize w.alloc (.cells #[.int .u32 r.a, .int .i64 r.n, rn, .int .i64 r.bal] 34) = Wa at *
  go_loopw [5, 6, 7] (fun out dn i wr => ∃ k : Nat, i = .int .i64 k ∧ k ≤ len ∧ dn = .bool (putF r (l.take k)).2 ∧ OwT (w.heap.size + 1) wr out (putF r (l.take k)).1 ∧ Gr w wr ∧ CL wr w.heap.size [.int .u32 r.a, .int .i64 r.n, rn, .int .i64 r.bal])
    (fun _ _ i _ => len - (intOf i).toNat)
  case atStart => exact ⟨0, rfl, by omega, rfl, OwT.nil _ _, hGa, k1⟩
  case round =>
    obtain ⟨k, rfl, hk, rfl, hO, hG, hC⟩ := hrel
    by_cases hlt : k < len
    · obtain ⟨x, hx⟩ : ∃ x, l[k]? = some x := ⟨_, List.getElem?_eq_getElem (by have := HN.out; omega)⟩
      obtain ⟨b, off, nv, rfl, -, hcell, hok, hnx⟩ := HT.out.at' hx
      have hxn := HF.out.2 x (List.mem_of_getElem? hx)
      have hstep := putF_one r l k x hx
      have hsl := Nat.le_trans (putF_len r (l.take k)) (by rw [List.length_take]; omega : 2 * (l.take k).length ≤ 2 * k)
      have hgs : w.heap.size + 1 ≤ wr.heap.size := hC.lt
      obtain ⟨⟨m0, m1, m2, m3⟩, -⟩ := hC.four
      have HC := Lib.hid hC
      have HX := Lib.hid hnx
      have HK := Lib.hid hok
      have HL := Lib.hid hxn
      have HCE := Lib.hid hcell
      have k0 : (k : Int) < (len : Int) := by omega
      obtain ⟨c0, c1, c2, c3⟩ := hcell.gr hG
      have C0 := fun d os => cell_regrown c0 d os
      have C1 := fun d os => cell_regrown c1 d os
      have M0 := fun d os => cell_regrown m0 d os
      have M1 := fun d os => cell_regrown m1 d os
      have hcc := fun w => rcompare_any x.a x.n r.a r.n w HK.out.1 HK.out.2 HRK.out.1 HRK.out.2
      rw [show cmpp x.a x.n r.a r.n = cmr x r from rfl] at hcc
      have hth := cmr_three x r
      rw [putS] at hstep
      generalize hcm : cmr x r = cm at hstep hcc hth
      generalize hps : putF r (l.take k) = st at hstep hsl hO
      obtain ⟨acc, dn⟩ := st
      dsimp only at hstep hsl hO ⊢
      have HS := Lib.hid hstep
      have HSL := Lib.hid hsl
      have HO := Lib.hid hO
      clear hC hnx hok hx hO hxn hsl c0 c1 c2 c3 m0 m1 m2 m3 hcell hstep hcm hps
      have hi1 : ∀ q : Int, q = -1 → (decide (q ≥ 0) = false ∧ (q != 0) = true) := by intro q h; subst h; decide
      go_wp2_with fail
      refine wp_region_quiet_below (by kernel_rfl) (by kernel_rfl) ?_
      repeat (any_goals (first | go_big_quiet_step (first | (go_at_call 32; exact Calls.gr_of (hcc _))) | quiet_step (first | (go_at_call 32; exact Calls.gr_of (hcc _)))))
      refine wpQuiet_nil ?_
      intro _ hw'
      obtain ⟨⟨dq, osq⟩, hw''⟩ := hw'
      subst hw''
      have hGb : Gr wr (grow (redrawn wr dq) osq) := (by repeat' (first | (with_reducible exact Gr.refl _) | (with_reducible assumption) | (with_reducible refine Gr.drewN ?_ _) | (with_reducible refine Gr.drew ?_) | (with_reducible refine Gr.alloc ?_ _) | (with_reducible refine Gr.setCell ?_ ?_ _) | (with_reducible refine Gr.grow ?_ _ _) | (refine Gr.step ?_ (by with_reducible assumption)) | go_size))
      generalize grow (redrawn wr dq) osq = w1 at *
      clear C0 C1 M0 M1 hcc
      have hG1 : Gr w w1 := hG.step hGb
      obtain ⟨⟨m0, m1, m2, m3⟩, -⟩ := (HC.out.gr hGb).four
      obtain ⟨c0, c1, c2, c3⟩ := HCE.out.gr hG1
      have HO1 := Lib.hid (HO.out.gr hGb)
      have HC1 := Lib.hid (HC.out.gr hGb)
      have hgs1 : w.heap.size + 1 ≤ w1.heap.size := Nat.le_trans hgs (Gr.size hGb)
      rcases hth with rfl | rfl | rfl
      · go_wp2_with fail
        refine (copied_any _ x w1 ⟨nv, rfl, HK.out, (HX.out.gr hG1)⟩ HL.out).mono ?_
        rintro e w2 ⟨v', rfl, ⟨nv2, rfl, hok2, hnx2⟩, hg2⟩
        unfold rtv
        dsimp only
        have HN2 := Lib.hid ((OwT.fresh HO1.out (Gr.refl _) hgs1 hnx2).gr ((Gr.refl _).alloc (.cells #[.int .u32 x.a, .int .i64 x.n, nv2, .int .i64 x.bal] 34)))
        have hO3 := Lib.hid ((HO1.out.gr hg2).gr ((Gr.refl _).alloc (.cells #[.int .u32 x.a, .int .i64 x.n, nv2, .int .i64 x.bal] 34)))
        have hs3 := Gr.size hg2
        have HC2 := Lib.hid ((HC1.out.gr hg2).gr ((Gr.refl _).alloc (.cells #[.int .u32 x.a, .int .i64 x.n, nv2, .int .i64 x.bal] 34)))
        clear hnx2 hok2
        go_wp2_with (at_builtin; refine wpList_addR (base := w.heap.size + 1) (g := w2.heap.size) (y := (x, nv2)) rfl (.tmp 36) (.tmp 42) rfl rfl hO3.out rfl (rc_new _ _ _ _) HK.out HN2.out (by have := HSL.out; omega) (by simp; omega) ?_; intro v3 w3 ho3 g3; have hG3 : Gr w w3 := ((hG1.step hg2).alloc _).grown g3 (fun k hk => by have := (HO1.out.lt k hk).1; omega); have HC3 := Lib.hid (HC2.out.grown g3 (fun e => by have := (HO1.out.lt _ e).1; omega)); clear g3; have HO3 := Lib.hid ho3; clear ho3 hO3 HN2 HC2; skip)
        case roundEnd =>
          refine ⟨⟨k + 1, rfl, by omega, ?_, ?_, hG3, HC3.out⟩, by simp only [intOf]; omega⟩
          · rw [HS.out]; simp
          · rw [HS.out]; simpa using HO3.out
      · cases dn
        · go_wp2_with fail
          refine (copied_any _ r w1 ⟨rn, rfl, HRK.out, (HRI.out.gr hG1)⟩ HRN.out).mono ?_
          rintro e w2 ⟨v', rfl, ⟨nv2, rfl, hok2, hnx2⟩, hg2⟩
          unfold rtv
          dsimp only
          have HN2 := Lib.hid ((OwT.fresh HO1.out (Gr.refl _) hgs1 hnx2).gr ((Gr.refl _).alloc (.cells #[.int .u32 r.a, .int .i64 r.n, nv2, .int .i64 r.bal] 34)))
          have hO3 := Lib.hid ((HO1.out.gr hg2).gr ((Gr.refl _).alloc (.cells #[.int .u32 r.a, .int .i64 r.n, nv2, .int .i64 r.bal] 34)))
          have hs3 := Gr.size hg2
          have HC2 := Lib.hid ((HC1.out.gr hg2).gr ((Gr.refl _).alloc (.cells #[.int .u32 r.a, .int .i64 r.n, nv2, .int .i64 r.bal] 34)))
          clear hnx2 hok2
          go_wp2_with (at_builtin; refine wpList_addR (base := w.heap.size + 1) (g := w2.heap.size) (y := (r, nv2)) rfl (.tmp 29) (.tmp 32) rfl rfl hO3.out rfl (rc_new _ _ _ _) HRK.out HN2.out (by have := HSL.out; omega) (by simp; omega) ?_; intro v3 w3 ho3 g3; have hG3 : Gr w w3 := ((hG1.step hg2).alloc _).grown g3 (fun k hk => by have := (HO1.out.lt k hk).1; omega); have HC3 := Lib.hid (HC2.out.grown g3 (fun e => by have := (HO1.out.lt _ e).1; omega)); clear g3; have HO3 := Lib.hid ho3; clear ho3 hO3 HN2 HC2; skip)
          case roundEnd =>
            refine ⟨⟨k + 1, rfl, by omega, ?_, ?_, hG3, HC3.out⟩, by simp only [intOf]; omega⟩
            · rw [HS.out]; simp
            · rw [HS.out]; simpa using HO3.out
        · go_wp2_with fail
          case roundEnd =>
            refine ⟨⟨k + 1, rfl, by omega, ?_, ?_, hG1, HC1.out⟩, by simp only [intOf]; omega⟩
            · rw [HS.out]; simp
            · rw [HS.out]; simpa using HO1.out
      · cases dn
        · go_wp2_with fail
          refine (copied_any _ r w1 ⟨rn, rfl, HRK.out, (HRI.out.gr hG1)⟩ HRN.out).mono ?_
          rintro e w2 ⟨v', rfl, ⟨nv2, rfl, hok2, hnx2⟩, hg2⟩
          unfold rtv
          dsimp only
          have HN2 := Lib.hid ((OwT.fresh HO1.out (Gr.refl _) hgs1 hnx2).gr ((Gr.refl _).alloc (.cells #[.int .u32 r.a, .int .i64 r.n, nv2, .int .i64 r.bal] 34)))
          have hO3 := Lib.hid ((HO1.out.gr hg2).gr ((Gr.refl _).alloc (.cells #[.int .u32 r.a, .int .i64 r.n, nv2, .int .i64 r.bal] 34)))
          have hs3 := Gr.size hg2
          have HC2 := Lib.hid ((HC1.out.gr hg2).gr ((Gr.refl _).alloc (.cells #[.int .u32 r.a, .int .i64 r.n, nv2, .int .i64 r.bal] 34)))
          clear hnx2 hok2
          go_wp2_with (at_builtin; refine wpList_addR (base := w.heap.size + 1) (g := w2.heap.size) (y := (r, nv2)) rfl (.tmp 29) (.tmp 32) rfl rfl hO3.out rfl (rc_new _ _ _ _) HRK.out HN2.out (by have := HSL.out; omega) (by simp; omega) ?_; intro v3 w3 ho3 g3; have hG3 : Gr w w3 := ((hG1.step hg2).alloc _).grown g3 (fun k hk => by have := (HO1.out.lt k hk).1; omega); have HC3 := Lib.hid (HC2.out.grown g3 (fun e => by have := (HO1.out.lt _ e).1; omega)); clear g3; have HO3 := Lib.hid ho3; clear ho3 hO3 HN2 HC2; have ⟨c0, c1, c2, c3⟩ := HCE.out.gr hG3; have hgs3 : w.heap.size + 1 ≤ w3.heap.size := HC3.out.lt; have HB3 : Hid ((acc ++ [r]).length ≤ 2 * k + 1) := Lib.hid (by have := HSL.out; simp; omega))
          refine (copied_any _ x w3 ⟨nv, rfl, HK.out, (HX.out.gr hG3)⟩ HL.out).mono ?_
          rintro e w4 ⟨v', rfl, ⟨nv4, rfl, hok2, hnx2⟩, hg2⟩
          unfold rtv
          dsimp only
          have HN2 := Lib.hid ((OwT.fresh HO3.out (Gr.refl _) hgs3 hnx2).gr ((Gr.refl _).alloc (.cells #[.int .u32 x.a, .int .i64 x.n, nv4, .int .i64 x.bal] 34)))
          have hO3 := Lib.hid ((HO3.out.gr hg2).gr ((Gr.refl _).alloc (.cells #[.int .u32 x.a, .int .i64 x.n, nv4, .int .i64 x.bal] 34)))
          have hs3 := Gr.size hg2
          have HC2 := Lib.hid ((HC3.out.gr hg2).gr ((Gr.refl _).alloc (.cells #[.int .u32 x.a, .int .i64 x.n, nv4, .int .i64 x.bal] 34)))
          clear hnx2 hok2
          go_wp2_with (at_builtin; refine wpList_addR (base := w.heap.size + 1) (g := w4.heap.size) (y := (x, nv4)) rfl (.tmp 36) (.tmp 42) rfl rfl hO3.out rfl (rc_new _ _ _ _) HK.out HN2.out (by have := HB3.out; omega) (by simp; omega) ?_; intro v5 w5 ho3 g3; have hG5 : Gr w w5 := ((hG3.step hg2).alloc _).grown g3 (fun k hk => by have := (HO3.out.lt k hk).1; omega); have HC3 := Lib.hid (HC2.out.grown g3 (fun e => by have := (HO3.out.lt _ e).1; omega)); clear g3; have HO3 := Lib.hid ho3; clear ho3 hO3 HN2 HC2; skip)
          case roundEnd =>
            refine ⟨⟨k + 1, rfl, by omega, ?_, ?_, hG5, HC3.out⟩, by simp only [intOf]; omega⟩
            · rw [HS.out]; simp
            · rw [HS.out]; simpa using HO3.out
        · go_wp2_with fail
          refine (copied_any _ x w1 ⟨nv, rfl, HK.out, (HX.out.gr hG1)⟩ HL.out).mono ?_
          rintro e w2 ⟨v', rfl, ⟨nv2, rfl, hok2, hnx2⟩, hg2⟩
          unfold rtv
          dsimp only
          have HN2 := Lib.hid ((OwT.fresh HO1.out (Gr.refl _) hgs1 hnx2).gr ((Gr.refl _).alloc (.cells #[.int .u32 x.a, .int .i64 x.n, nv2, .int .i64 x.bal] 34)))
          have hO3 := Lib.hid ((HO1.out.gr hg2).gr ((Gr.refl _).alloc (.cells #[.int .u32 x.a, .int .i64 x.n, nv2, .int .i64 x.bal] 34)))
          have hs3 := Gr.size hg2
          have HC2 := Lib.hid ((HC1.out.gr hg2).gr ((Gr.refl _).alloc (.cells #[.int .u32 x.a, .int .i64 x.n, nv2, .int .i64 x.bal] 34)))
          clear hnx2 hok2
          go_wp2_with (at_builtin; refine wpList_addR (base := w.heap.size + 1) (g := w2.heap.size) (y := (x, nv2)) rfl (.tmp 36) (.tmp 42) rfl rfl hO3.out rfl (rc_new _ _ _ _) HK.out HN2.out (by have := HSL.out; omega) (by simp; omega) ?_; intro v3 w3 ho3 g3; have hG3 : Gr w w3 := ((hG1.step hg2).alloc _).grown g3 (fun k hk => by have := (HO1.out.lt k hk).1; omega); have HC3 := Lib.hid (HC2.out.grown g3 (fun e => by have := (HO1.out.lt _ e).1; omega)); clear g3; have HO3 := Lib.hid ho3; clear ho3 hO3 HN2 HC2; skip)
          case roundEnd =>
            refine ⟨⟨k + 1, rfl, by omega, ?_, ?_, hG3, HC3.out⟩, by simp only [intOf]; omega⟩
            · rw [HS.out]; simp
            · rw [HS.out]; simpa using HO3.out
    · obtain rfl : k = len := by omega
      rw [← HN.out, List.take_length] at hO ⊢
      have hsl : (putF r l).1.length ≤ 2000 := by have := putF_len r l; have := HN.out; omega
      have HSL := Lib.hid hsl
      have hp : putL r l = (putF r l).1 ++ (if (putF r l).2 = true then [] else [r]) := rfl
      generalize hps : putF r l = st at hO hp HSL ⊢
      obtain ⟨acc, dn⟩ := st
      dsimp only at hO hp HSL ⊢
      have HP := Lib.hid hp
      have HO1 := Lib.hid hO
      have HC1 := Lib.hid hC
      have hgs1 : w.heap.size + 1 ≤ wr.heap.size := hC.lt
      have k1 : ¬ ((l.length : Int) < (l.length : Int)) := by omega
      obtain ⟨⟨m0, m1, m2, m3⟩, -⟩ := hC.four
      clear hO hp hps hC hsl
      cases dn
      · go_wp2_with fail
        refine (copied_any _ r wr ⟨rn, rfl, HRK.out, (HRI.out.gr hG)⟩ HRN.out).mono ?_
        rintro e w2 ⟨v', rfl, ⟨nv2, rfl, hok2, hnx2⟩, hg2⟩
        unfold rtv
        dsimp only
        have HN2 := Lib.hid ((OwT.fresh HO1.out (Gr.refl _) hgs1 hnx2).gr ((Gr.refl _).alloc (.cells #[.int .u32 r.a, .int .i64 r.n, nv2, .int .i64 r.bal] 34)))
        have hO3 := Lib.hid ((HO1.out.gr hg2).gr ((Gr.refl _).alloc (.cells #[.int .u32 r.a, .int .i64 r.n, nv2, .int .i64 r.bal] 34)))
        have hs3 := Gr.size hg2
        have HC2 := Lib.hid ((HC1.out.gr hg2).gr ((Gr.refl _).alloc (.cells #[.int .u32 r.a, .int .i64 r.n, nv2, .int .i64 r.bal] 34)))
        clear hnx2 hok2
        go_wp2_with (at_builtin; refine wpList_addR (base := w.heap.size + 1) (g := w2.heap.size) (y := (r, nv2)) rfl (.tmp 46) (.tmp 49) rfl rfl hO3.out rfl (rc_new _ _ _ _) HRK.out HN2.out (by have := HSL.out; omega) (by simp; omega) ?_; intro v3 w3 ho3 g3; have hG3 : Gr w w3 := ((hG.step hg2).alloc _).grown g3 (fun k hk => by have := (HO1.out.lt k hk).1; omega); have HC3 := Lib.hid (HC2.out.grown g3 (fun e => by have := (HO1.out.lt _ e).1; omega)); clear g3; have HO3 := Lib.hid ho3; clear ho3 hO3 HN2 HC2; skip)
        go_ret
        refine ⟨_, rfl, ?_, hG3⟩
        rw [HP.out]
        exact HO3.out.weak (by omega)
      · go_wp2_with fail
        go_ret
        refine ⟨_, rfl, ?_, hG⟩
        rw [HP.out]
        simpa using HO1.out.weak (by omega)
end Go.Proofs.Ytefocmcpeigfcaa
