/- The document's Remove and Has. -/
import Derived.Test.YtefocmcpeigfcaaAc
import Derived.Test.YtefocmcpeigfcaaTk
import Derived.WalkKit
import Derived.WalkSpells
import Derived.WalkLawsBesides
import Derived.WalkSmall
import Derived.Handy
import Derived.BigQuiet
import Derived.Deep.QuietTactic
import Derived.Deep.RegionHeld3
import Derived.Deep.DeepFit
import Derived.Below
import Derived.Lib.Hide
import Derived.Lib.QuietBelow
import Derived.Deep.DeepCutAuto
import Derived.Laws.StructEq
namespace Go.Proofs.Ytefocmcpeigfcaa
open Go Go.RowKit Go.Sort
set_option maxRecDepth 100000
set_option linter.unusedVariables false
theorem eq_pref (w : World) (a n b m : Int) : (Op.equalIn 10000 28 (.agg #[.int .u32 a, .int .i64 n]) (.agg #[.int .u32 b, .int .i64 m])).run Try.prog w = .ok (a == b && n == m) w := by
  have hS : Try.prog.underlying 28 = some (.struct (Try.prog.fieldsOf 28)) := by kernel_rfl
  have hp : Try.prog.stoodInHeld 28 = false := by kernel_rfl
  rw [show (10000 : Nat) = 9999 + 1 from rfl, run_equalIn_agg w 9999 28 _ _ hS hp]
  simp only [Program.fieldsOf, Try.underlying28]
  go_simp
  by_cases h1 : a = b <;> by_cases h2 : n = m <;> simp [h1, h2]
theorem ne_pref (w : World) (a n b m : Int) : (binOp .neq 28 (.agg #[.int .u32 a, .int .i64 n]) (.agg #[.int .u32 b, .int .i64 m])).run Try.prog w = .ok (.bool (!(a == b && n == m))) w := by
  rw [run_neq_struct, eq_pref]; rfl
theorem guard_pref (w : World) (op : BinOp) (x y : Operand) (xs ys : Array Value) : (eqGuard op 28 x y (.agg xs) (.agg ys)).run Try.prog w = .ok () w :=
  run_eqGuard_agg w op 28 x y xs ys (by kernel_rfl)
/-- few routes, each with few next links -/
def Few (l : List Rt) : Prop := l.length ≤ 1000 ∧ ∀ r ∈ l, r.nx.length ≤ 1000
/-- two prefixes are the same -/
def eqp (x : Rt) (a n : Int) : Bool := x.a == a && x.n == n
/-- the routes without that of a prefix -/
def remL (a n : Int) (l : List Rt) : List Rt := l.filter fun x => !eqp x a n
theorem remL_one (a n : Int) (l : List Rt) (k : Nat) (r : Rt) (h : l[k]? = some r) : remL a n (l.take (k + 1)) = remL a n (l.take k) ++ (if eqp r a n then [] else [r]) := by
  have hk := (List.getElem?_eq_some_iff.1 h).1
  have e : l.take (k + 1) = l.take k ++ [r] := by rw [List.take_add_one, h]; rfl
  rw [e]
  unfold remL
  rw [List.filter_append]
  cases hq : eqp r a n <;> simp [hq]
theorem remL_len (a n : Int) (l : List Rt) : (remL a n l).length ≤ l.length := List.length_filter_le _ _
/-- a table is returned -/
def TabPost (l : List Rt) (w : World) (e : Ending) (w' : World) : Prop := ∃ v', e = .returned v' ∧ OwT w.heap.size w' v' l ∧ Gr w w'
theorem RC.gr {w w' : World} {b o : Nat} {y : Rt × Value} (h : RC w b o y) (g : Gr w w') : RC w' b o y := h.keep fun _ => (Gr.cells g).1 _ _ h.lt
def Stop (p : Prop) : Prop := p
theorem stop_of {p : Prop} (h : Stop p) : p := h
theorem rc_new (w : World) (r : Rt) (nv : Value) (T : TypeId) : RC (w.alloc (.cells #[.int .u32 r.a, .int .i64 r.n, nv, .int .i64 r.bal] T)) w.heap.size 0 (r, nv) :=
  ⟨by simp, by simp, by simp, by simp⟩
theorem CL.grown {w w' : World} {g : Nat} {vs : List Value} {row : Option Nat} (h : CL w g vs) (k : w.grownBy w' row) (hr : row ≠ some g) : CL w' g vs :=
  ⟨Nat.lt_of_lt_of_le h.lt k.size, fun i v hi => by
    have hb := k.block g h.lt (fun e => hr e.symm)
    rw [World.cell?_of_block hb, World.frozen?_of_block hb]; exact h.at' i v hi⟩
theorem OwT.weak {base base' : Nat} {w : World} {v : Value} {l : List Rt} (h : OwT base w v l) (hb : base' ≤ base) : OwT base' w v l := by
  obtain ⟨ys, e, ho, hy⟩ := h
  exact ⟨ys, e, ⟨ho.1, ho.2.imp id fun ⟨g, cap, cur, h1, h2, h3⟩ => ⟨g, cap, cur, h1, by omega, h3⟩⟩, fun y hm => ⟨(hy y hm).1, (hy y hm).2.imp fun b _ h => ⟨by have := h.1; omega, h.2⟩⟩⟩
theorem OwT.fresh {base : Nat} {w w1 w2 : World} {v nv : Value} {l : List Rt} {nx : List Int} (hO : OwT base w v l) (hG : Gr w w1) (hb : base ≤ w.heap.size) (hn : Ri (fun b => w1.heap.size ≤ b) w2 nv nx) : Ri (fun b => base ≤ b ∧ v.ownBlock ≠ some b) w2 nv nx :=
  hn.imp fun b _ h => by
    have hs := Gr.size hG
    exact ⟨by omega, fun e => by have := (hO.lt b e).2; omega⟩
set_option maxHeartbeats 1000000 in
theorem rrem_any {p : Nat → Prop} (v : Value) (l : List Rt) (a n : Int) (w : World) (h : Tb p w v l) (hf : Few l) :
    Calls Try.prog 22 #[v, .agg #[.int .u32 a, .int .i64 n]] w (TabPost (remL a n l) w) := by
  obtain ⟨ad, cap, rfl, hlc, hcp⟩ := h.form
  have HT := Lib.hid h
  have HF := Lib.hid hf
  have hl := hf.1
  generalize hln : l.length = len at *
  have HN := Lib.hid hln
  obtain ⟨b0, b1⟩ := two_cells w (.int .u32 a) (.int .i64 n) 28
  clear h hf hln
  go_enter Try.func22, Try.ntmps22
  go_wp2_with fail
  have hGa : Gr w (w.alloc (.cells #[.int .u32 a, .int .i64 n] 28)) := (Gr.refl _).alloc _
  have k1 : CL (w.alloc (.cells #[.int .u32 a, .int .i64 n] 28)) w.heap.size [.int .u32 a, .int .i64 n] := CL.new _ _ _ _ rfl
  generalize w.alloc (.cells #[.int .u32 a, .int .i64 n] 28) = Wa at *
  clear b0 b1
  go_loopw [5, 6] (fun out i wr => ∃ k : Nat, i = .int .i64 k ∧ k ≤ len ∧ OwT (w.heap.size + 1) wr out (remL a n (l.take k)) ∧ Gr w wr ∧ CL wr w.heap.size [.int .u32 a, .int .i64 n])
    (fun _ i _ => len - (intOf i).toNat)
  case atStart => exact ⟨0, rfl, by omega, OwT.nil _ _, hGa, k1⟩
  case round =>
    obtain ⟨k, rfl, hk, hO, hG, hC⟩ := hrel
    by_cases hlt : k < len
    · obtain ⟨r, hr⟩ : ∃ r, l[k]? = some r := ⟨_, List.getElem?_eq_getElem (by have := HN.out; omega)⟩
      obtain ⟨b, off, nv, rfl, -, hcell, hok, hnx⟩ := (HT.out.gr hG).at' hr
      have HR := Lib.hid hr
      have hrn := HF.out.2 r (List.mem_of_getElem? hr)
      have hstep := remL_one a n l k r hr
      have hsl := Nat.le_trans (remL_len a n (l.take k)) (by rw [List.length_take]; omega : (l.take k).length ≤ k)
      have hgs : w.heap.size + 1 ≤ wr.heap.size := hC.lt
      have HC := Lib.hid hC
      have HX := Lib.hid hnx
      have HK := Lib.hid hok
      have HO := Lib.hid hO
      have HL := Lib.hid hrn
      have HSL := Lib.hid hsl
      obtain ⟨⟨m0, m1⟩, -, -⟩ := hC.two
      have k0 : (k : Int) < (len : Int) := by omega
      obtain ⟨c0, c1, c2, c3⟩ := hcell
      have C0 := fun d os => cell_regrown c0 d os
      have C1 := fun d os => cell_regrown c1 d os
      have C2 := fun d os => cell_regrown c2 d os
      have C3 := fun d os => cell_regrown c3 d os
      have M0 := fun d os => cell_regrown m0 d os
      have M1 := fun d os => cell_regrown m1 d os
      clear hC hnx hok hr hO hrn hsl c0 c1 c2 c3 m0 m1
      have hne := fun w => ne_pref w r.a r.n a n
      rw [show (r.a == a && r.n == n) = eqp r a n from rfl] at hne
      have hgd := guard_pref
      generalize hq : eqp r a n = q at hne hstep
      have HS := Lib.hid hstep
      clear hstep hq
      cases q
      · go_wp2_with fail
        refine wp_region_quiet_below (by kernel_rfl) (by kernel_rfl) ?_
        repeat (any_goals (first | go_big_quiet_step (fail) | quiet_step (fail)))
        refine wpQuiet_nil ?_
        intro _ hw'
        obtain ⟨⟨dq, osq⟩, hw''⟩ := hw'
        subst hw''
        have hGb : Gr wr (grow (redrawn wr dq) osq) := (by repeat' (first | (with_reducible exact Gr.refl _) | (with_reducible assumption) | (with_reducible refine Gr.drewN ?_ _) | (with_reducible refine Gr.drew ?_) | (with_reducible refine Gr.alloc ?_ _) | (with_reducible refine Gr.setCell ?_ ?_ _) | (with_reducible refine Gr.grow ?_ _ _) | (refine Gr.step ?_ (by with_reducible assumption)) | go_size))
        have c0 := C0 dq osq
        have c1 := C1 dq osq
        have c2 := C2 dq osq
        have c3 := C3 dq osq
        generalize grow (redrawn wr dq) osq = w1 at *
        clear C0 C1 C2 C3 M0 M1 hne hgd
        go_wp2_with fail
        refine (copied_any _ r w1 ⟨nv, rfl, HK.out, HX.out.gr hGb⟩ HL.out).mono ?_
        rintro e w2 ⟨v', rfl, ⟨nv2, rfl, hok2, hnx2⟩, hg2⟩
        unfold rtv
        dsimp only
        have HN2 := Lib.hid ((OwT.fresh HO.out hGb hgs hnx2).gr ((Gr.refl _).alloc (.cells #[.int .u32 r.a, .int .i64 r.n, nv2, .int .i64 r.bal] 34)))
        have hO3 := Lib.hid ((HO.out.gr (hGb.step hg2)).gr ((Gr.refl _).alloc (.cells #[.int .u32 r.a, .int .i64 r.n, nv2, .int .i64 r.bal] 34)))
        have hs3 := Gr.size (hGb.step hg2)
        clear hnx2 hok2 c0 c1 c2 c3
        have HC2 := Lib.hid ((HC.out.gr (hGb.step hg2)).gr ((Gr.refl _).alloc (.cells #[.int .u32 r.a, .int .i64 r.n, nv2, .int .i64 r.bal] 34)))
        go_wp2_with (at_builtin; refine wpList_addR (base := w.heap.size + 1) (g := w2.heap.size) (y := (r, nv2)) rfl (.tmp 20) (.tmp 26) rfl rfl hO3.out rfl (rc_new _ _ _ _) HK.out HN2.out (by have := HSL.out; omega) (by simp; omega) ?_; intro v3 w3 ho3 g3; have hG3 : Gr w w3 := ((hG.step (hGb.step hg2)).alloc _).grown g3 (fun k hk => by have := (HO.out.lt k hk).1; omega); have HC3 := Lib.hid (HC2.out.grown g3 (fun e => by have := (HO.out.lt _ e).1; omega)); clear g3)
        case roundEnd =>
          refine ⟨⟨k + 1, rfl, by omega, ?_, hG3, HC3.out⟩, by simp only [intOf]; omega⟩
          rw [HS.out]
          exact ho3
      · go_wp2_with fail
        refine wp_region_quiet_below (by kernel_rfl) (by kernel_rfl) ?_
        repeat (any_goals (first | go_big_quiet_step (fail) | quiet_step (fail)))
        refine wpQuiet_nil ?_
        intro _ hw'
        obtain ⟨⟨dq, osq⟩, hw''⟩ := hw'
        subst hw''
        have hGb : Gr wr (grow (redrawn wr dq) osq) := (by repeat' (first | (with_reducible exact Gr.refl _) | (with_reducible assumption) | (with_reducible refine Gr.drewN ?_ _) | (with_reducible refine Gr.drew ?_) | (with_reducible refine Gr.alloc ?_ _) | (with_reducible refine Gr.setCell ?_ ?_ _) | (with_reducible refine Gr.grow ?_ _ _) | (refine Gr.step ?_ (by with_reducible assumption)) | go_size))
        generalize grow (redrawn wr dq) osq = w1 at *
        clear C0 C1 C2 C3 M0 M1 hne hgd
        go_wp2_with fail
        case roundEnd =>
          refine ⟨⟨k + 1, rfl, by omega, ?_, hG.step hGb, HC.out.gr hGb⟩, by simp only [intOf]; omega⟩
          rw [HS.out]
          simpa using HO.out.gr hGb
    · obtain rfl : k = len := by omega
      go_wp2_with fail
      go_ret
      rw [← HN.out, List.take_length] at hO
      exact ⟨_, rfl, hO.weak (by omega), hG⟩
/-- a prefix is in a table -/
def hasL (a n : Int) (l : List Rt) : Bool := decide ((remL a n l).length < l.length)
theorem has_any {p : Nat → Prop} (v : Value) (l : List Rt) (a n : Int) (w : World) (h : Tb p w v l) (hf : Few l) :
    Calls Try.prog 24 #[v, .agg #[.int .u32 a, .int .i64 n]] w fun e w' => e = .returned (.bool (hasL a n l)) ∧ Gr w w' := by
  have HT := Lib.hid h
  obtain ⟨ad, cap, rfl, hlc, hcp⟩ := h.form
  obtain ⟨b0, b1⟩ := two_cells w (.int .u32 a) (.int .i64 n) 28
  have hgA : Gr w (w.alloc (.cells #[.int .u32 a, .int .i64 n] 28)) := (Gr.refl _).alloc _
  clear h
  go_enter Try.func24, Try.ntmps24
  go_wp2_with fail
  generalize w.alloc (.cells #[.int .u32 a, .int .i64 n] 28) = wa at *
  refine (rrem_any _ l a n wa (HT.out.gr hgA) hf).mono ?_
  rintro e w1 ⟨v', rfl, hO, hG⟩
  obtain ⟨a2, c2, rfl, -, -⟩ := hO.tb.form
  clear b0 b1
  go_wp2_with fail
  go_ret
  refine ⟨?_, hgA.step hG⟩
  unfold hasL
  simp
end Go.Proofs.Ytefocmcpeigfcaa
