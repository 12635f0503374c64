/- Spoilt: bytes with one byte changed, left out or added. -/
import Derived.Test.YtoaboflepfmkpaaDoorCodesB
import Derived.Test.YtoaboflepfmkpaaDoorCovLand
import Derived.Test.YtoaboflepfmkpaaDoorTake
import Derived.WalkKit
import Derived.WalkSpells
import Derived.WalkLawsBesides
import Derived.WalkSmall
import Derived.Handy
import Derived.BigQuiet
import Derived.Deep.QuietTactic
import Derived.Deep.RegionHeld3
import Derived.Deep.DeepFit
import Derived.Below
import Derived.Lib.Hide
import Derived.Lib.QuietBelow
import Derived.Maps.AppendAt
import Derived.Deep.DeepCutAuto
namespace Go.Proofs.YtoaboflepfmkpaaDoor
open Go Go.RowKit Go.Sort
set_option maxRecDepth 100000
set_option linter.unusedVariables false
theorem byteInfo : ∃ i, Tryd.prog.info? 5 = some i ∧ i.zero = some (.int .u8 0) ∧ i.size = 1 ∧ i.bytes = 1 := by
  have h : (match Tryd.prog.info? 5 with | some i => (match i.zero with | some (.int .u8 0) => i.size == 1 && i.bytes == 1 | _ => false) | none => false) = true := by kernel_rfl
  cases h1 : Tryd.prog.info? 5 with
  | none => rw [h1] at h; cases h
  | some i =>
    rw [h1] at h
    simp only at h
    split at h
    · next h2 =>
      simp only [Bool.and_eq_true, beq_iff_eq] at h
      exact ⟨i, rfl, h2, h.1, h.2⟩
    · cases h
theorem ownsRow_ex {w w' : World} {base b n : Nat} {e : TypeId} {v : Value} {xs : List Value} (h : w.ownsRow base e 1 v n xs) (g : Ex b w w') (hb : b < base) : w'.ownsRow base e 1 v n xs := by
  refine World.ownsRow.kept (row := some b) h ⟨g.os, g.tape, g.output, g.size, fun k hk hne => g.block k (fun e => hne (by rw [e])) hk⟩ ?_
  cases hv : v.ownBlock with
  | none => exact .inl rfl
  | some k => exact .inr (fun e => by have := (World.ownsRow.lt h k hv).1; cases e; omega)
theorem own_form {w : World} {base n : Nat} {e : TypeId} {v : Value} {xs : List Value} (h : w.ownsRow base e 1 v n xs) (hn : 0 < n) : ∃ g cap, v = .slice (some ⟨g, 0, none⟩) n cap ∧ base ≤ g ∧ g < w.heap.size ∧ n ≤ cap := by
  obtain ⟨h1, h2⟩ := h
  rcases h2 with ⟨_, h0⟩ | ⟨g, cap, cur, hv, hg, hh, hc, _⟩
  · omega
  · refine ⟨g, cap, hv, hg, ?_, hc⟩
    rcases Nat.lt_or_ge g w.heap.size with h | h
    · exact h
    · rw [Array.getElem?_eq_none h] at hh; cases hh
theorem own_take {w : World} {base n g cap m : Nat} {e : TypeId} {xs : List Value} (h : w.ownsRow base e 1 (.slice (some ⟨g, 0, none⟩) n cap) n xs) (hm : m ≤ n) : w.ownsRow base e 1 (.slice (some ⟨g, 0, none⟩) m cap) m (xs.take m) := by
  obtain ⟨h1, h2⟩ := h
  rcases h2 with ⟨h0, _⟩ | ⟨g', cap', cur, hv, hg, hh, hn, hcap, hsz, htake⟩
  · cases h0
  · cases hv
    refine ⟨by rw [List.length_take]; omega, .inr ⟨g, cap, cur, rfl, hg, hh, by omega, hcap, hsz, ?_⟩⟩
    rw [← htake, List.take_take]
    congr 1; omega
/-- the bytes that come back: a slice of the call's own -/
def SpPost (b m : Nat) (w : World) (e : Ending) (w' : World) : Prop :=
  ∃ (v : Value) (ys : List Int), e = .returned v ∧ w'.ownsRow w.heap.size 5 1 v ys.length (ys.map (Value.int .u8)) ∧ ys.length ≤ m + 1 ∧ Ex b w w'
theorem Ex.grown {b : Nat} {u v w : World} {row : Option Nat} (h : Ex b u v) (g : v.grownBy w row) (hr : ∀ k, row = some k → u.heap.size ≤ k) : Ex b u w :=
  ⟨g.os.trans h.os, g.tape.trans h.tape, g.output.trans h.output, Nat.le_trans h.size g.size, fun j hne hj => (g.block j (Nat.lt_of_lt_of_le hj h.size) (fun hc => by have := hr j hc.symm; omega)).trans (h.block j hne hj)⟩
theorem map_cell {xs : List Int} : ∀ u ∈ xs.map (Value.int .u8), u.oneCell' = true := by
  intro u hu
  rw [List.mem_map] at hu
  obtain ⟨n, -, rfl⟩ := hu
  rfl
/-- an append in a region that draws its order -/
theorem oper_append {P : Program} {o : Oper} {a : Act} {w : World} {Q : Exit → Act → World → Prop} {K : Act → World → Prop} (s x : Operand) (t : TypeId)
    (ho : o.op = .call { callee := .builtin .append, args := #[s, x], argTypes := #[t, t] })
    (base : Nat) (e : TypeId) (i : TypeInfo) (z : Value) (size bytes : Nat) (ht : P.underlying t = some (.slice e)) (hi : P.info? e = some i) (hz : i.zero = some z)
    (hsize : i.size = size) (hby : i.bytes = bytes) (hzs : z.cells.size = size) (hsz : 0 < size)
    (v : Value) (n : Nat) (xs : List Value) (hs : a.eval s = v) (hown : w.ownsRow base e size v n xs)
    (ad : Addr) (m c : Nat) (news : List Value) (hx : a.eval x = .slice (some ad) m c) (hl : news.length = m * size) (hnews : ∀ j u, news[j]? = some u → w.cell? (ad.add j) = some u) (h1 : ∀ u ∈ news, u.oneCell' = true)
    (h63 : n + m ≤ maxLen) (hbytes : (n + m) * bytes ≤ 140737488355328) (hbase : base ≤ w.heap.size)
    (h : ∀ v' w', w'.ownsRow base e size v' (n + m) (xs ++ news) → w.grownBy w' v.ownBlock → K (a.put o.dst v') w') : o.wp P a w K Q := by
  obtain ⟨v', w', hr, h2, h3, -, -⟩ := run_append_own_at (P := P) w base t o.type e i z size bytes ht hi hz hsize hby hzs hsz v n xs hown ad m c news hl hnews h1 h63 hbytes hbase
  have hk := h v' w' h2 h3
  unfold Oper.wp execOp
  simp only [ho, resolve, invoke, builtin, Sem.run_bind, Sem.run_pure, Result.andThen_ok, List.map_toArray, List.map_cons, List.map_nil, hs, hx, hr]
  exact hk
set_option maxHeartbeats 2000000 in
theorem spoilt_any {B : Nat} (b k cap : Nat) (xs : List Int) (w : World) (h : Cod B w b) (hne : 0 < xs.length) (hl : xs.length ≤ 1000) (hcap : xs.length ≤ cap)
    (hrow : ∀ j u, (xs.map (Value.int .u8))[j]? = some u → w.cell? ((⟨k, 0, none⟩ : Addr).add j) = some u) (hkb : k ≠ b) (hk : k < w.heap.size) :
    Calls Tryd.prog 17 #[.pointer (some ⟨b, 0, none⟩), .slice (some ⟨k, 0, none⟩) xs.length cap] w (SpPost b xs.length w) := by
  have hbl := h.lt
  obtain ⟨ti, hi1, hi2, hi3, hi4⟩ := byteInfo
  have HROW := Lib.hid hrow
  clear hrow
  obtain ⟨n, hn⟩ : ∃ n, n = xs.length := ⟨_, rfl⟩
  have HN := Lib.hid hn
  rw [← hn] at hne hl hcap ⊢
  clear hn
  go_enter Tryd.func17, Tryd.ntmps17
  go_wp2_with (at_builtin; refine wpList_append_own_at _ rfl _ _ 37 rfl w.heap.size 5 ti (.int .u8 0) 1 1 Tryd.underlying37 hi1 hi2 hi3 hi4 rfl (by decide) _ _ _ rfl (World.ownsRow_nil _ _ _ _) ⟨k, 0, none⟩ n cap (xs.map (Value.int .u8)) rfl (by rw [List.length_map, Nat.mul_one]; exact HN.out.symm) HROW.out map_cell (by unfold maxLen; omega) (by omega) (by omega) ?_; intro v1 w1 hown hgrow hnil hloc; clear hnil hloc; rw [Nat.zero_add, List.nil_append] at hown; have hg1 : Gr w w1 := Gr.grown (Gr.refl _) hgrow (fun _ h => by cases h); clear hgrow; obtain ⟨g, c1, rfl, hgb, hgl, hc1⟩ := own_form hown hne)
  have d0 : ((n : Int) == 0) = false := by rw [beq_eq_false_iff_ne]; omega
  go_wp2_with fail
  refine (next_any b n _ (by omega) (by omega) (h.gr hg1)).mono ?_
  rintro e w2 ⟨x, rfl, x0, x1, hc2, he2⟩
  obtain ⟨x, rfl⟩ := Int.eq_ofNat_of_zero_le x0
  have hown := ownsRow_ex hown he2 hbl
  have hE := (Ex.ofGr (b := b) hg1).trans he2
  clear hg1 he2 hgl
  go_wp2_with fail
  refine (next_any b 4 _ (by omega) (by omega) hc2).mono ?_
  rintro e w3 ⟨z, rfl, z0, z1, hc3, he3⟩
  have hown := ownsRow_ex hown he3 hbl
  have hE := hE.trans he3
  clear he3 hc2
  by_cases hz : z = 0
  · subst hz
    go_wp2_with fail
    have hS : True := trivial
    have u0 : decide ((x : Int) < 0) = false := by rw [decide_eq_false_iff_not]; omega
    refine region_plain (fun _ => True) (by kernel_rfl) ?_
    refine take_at 0 (some 24) (v := ?v0) rfl rfl (by kernel_rfl) (by kernel_rfl) (by kernel_rfl) (by rfl) ?y0 hS ?t0
    case y0 =>
      intro w' hSw
      go_simp
      (try rw [if_pos (by omega)])
      (try with_reducible rfl)
    simp only [Act.put, List.setIfInBounds_toArray, List.set_cons_zero, List.set_cons_succ]
    refine take_at 1 (some 25) (v := ?v1) rfl rfl (by kernel_rfl) (by kernel_rfl) (by kernel_rfl) (by rfl) ?y1 hS ?t1
    case y1 =>
      intro w' hSw
      go_simp
      (try rw [if_pos (by omega)])
      (try with_reducible rfl)
    simp only [Act.put, List.setIfInBounds_toArray, List.set_cons_zero, List.set_cons_succ]
    refine take_at 2 (some 26) (v := ?v2) rfl rfl (by kernel_rfl) (by kernel_rfl) (by kernel_rfl) (by rfl) ?y2 hS ?t2
    case y2 =>
      intro w' hSw
      go_simp
      (try rw [if_pos (by omega)])
      (try with_reducible rfl)
    simp only [Act.put, List.setIfInBounds_toArray, List.set_cons_zero, List.set_cons_succ]
    refine take_at 3 (some 27) (v := ?v3) rfl rfl (by kernel_rfl) (by kernel_rfl) (by kernel_rfl) (by rfl) ?y3 hS ?t3
    case y3 =>
      intro w' hSw
      go_simp
      (try rw [if_pos (by omega)])
      (try with_reducible rfl)
    simp only [Act.put, List.setIfInBounds_toArray, List.set_cons_zero, List.set_cons_succ]
    refine take_at 4 (some 28) (v := ?v4) rfl rfl (by kernel_rfl) (by kernel_rfl) (by kernel_rfl) (by rfl) ?y4 hS ?t4
    case y4 =>
      intro w' hSw
      go_simp
      (try rw [if_pos (by omega)])
      (try with_reducible rfl)
    simp only [Act.put, List.setIfInBounds_toArray, List.set_cons_zero, List.set_cons_succ]
    have hw : IntKind.i64.wrap ((x : Int) + 1) = ((x + 1 : Nat) : Int) := by rw [IntWalk.i64_in _ (by omega)]; omega
    obtain ⟨ad, had, hlo⟩ : ∃ ad : Addr, (if cap = x + 1 then some (⟨k, 0, none⟩ : Addr) else some ⟨k, x + 1, none⟩) = some ad ∧ (x + 1 < n → ad = ⟨k, x + 1, none⟩) := by
      by_cases hc : cap = x + 1
      · exact ⟨_, if_pos hc, fun h => by omega⟩
      · exact ⟨_, if_neg hc, fun _ => rfl⟩
    refine take_at 5 (some 29) (v := .int .i64 ((x + 1 : Nat) : Int)) rfl rfl (by kernel_rfl) (by kernel_rfl) (by kernel_rfl) (by rfl) ?y5 hS ?t5
    case y5 =>
      intro w' hSw
      go_simp
    simp only [Act.put, List.setIfInBounds_toArray, List.set_cons_zero, List.set_cons_succ]
    refine take_at 6 (some 30) (v := .slice (some ad) (n - (x + 1)) (cap - (x + 1))) rfl rfl (by kernel_rfl) (by kernel_rfl) (by kernel_rfl) (by rfl) ?y6 hS ?t6
    case y6 =>
      intro w' hSw
      go_simp
      intro hc
      have := hc (by omega)
      omega
    simp only [Act.put, List.setIfInBounds_toArray, List.set_cons_zero, List.set_cons_succ]
    refine next_at 7 rfl (by kernel_rfl) (by rfl) (fun K hK => ?_)
    have hlt : n - (x + 1) = ((xs.map (Value.int .u8)).drop (x + 1)).length := by rw [List.length_drop, List.length_map, ← HN.out]
    refine oper_append _ _ 37 rfl w.heap.size 5 ti (.int .u8 0) 1 1 Tryd.underlying37 hi1 hi2 hi3 hi4 rfl (by decide) (.slice (some ⟨g, 0, none⟩) x c1) x ((xs.map (Value.int .u8)).take x) rfl (own_take (m := x) hown.drew (by omega)) ad (n - (x + 1)) (cap - (x + 1)) ((xs.map (Value.int .u8)).drop (x + 1)) rfl (by omega) ?_ (fun u hu => map_cell u (List.mem_of_mem_drop hu)) (by unfold maxLen; omega) (by omega) (by have := hE.size; simp; omega) ?_
    · intro j u hj
      rw [List.getElem?_drop] at hj
      have hjn : x + 1 + j < n := by
        rcases Nat.lt_or_ge (x + 1 + j) n with h | h
        · exact h
        · rw [List.getElem?_eq_none (by rw [List.length_map, ← HN.out]; omega)] at hj; cases hj
      have h1 := HROW.out _ _ hj
      rw [hlo (by omega)]
      rw [show (⟨k, x + 1, none⟩ : Addr).add j = (⟨k, 0, none⟩ : Addr).add (x + 1 + j) by simp [Addr.add]]
      rw [show (⟨k, 0, none⟩ : Addr).add (x + 1 + j) = ⟨k, x + 1 + j, none⟩ by simp [Addr.add]] at h1 ⊢
      exact (hE.cell k _ hkb hk).trans h1
    · intro v' w4 hown2 hgrow
      refine hK _ _ trivial ?_
      clear hK K
      simp only [Act.put, List.setIfInBounds_toArray]
      refine next_at 8 rfl (by kernel_rfl) (by rfl) (fun K hK => ?_)
      go_simp
      refine hK _ _ hS ?_
      clear hK K
      refine wpAnyH_done (by kernel_rfl) ?_ _
      refine qz_normal ?_
      go_wp2_with fail
      go_ret
      refine ⟨_, xs.take x ++ xs.drop (x + 1), rfl, ?_, ?_, hE.drew.grown hgrow (fun j hj => (Option.some.inj (show some g = some j from hj)) ▸ hgb)⟩
      · have e : (xs.take x ++ xs.drop (x + 1)).length = x + (n - (x + 1)) := by
          have := HN.out
          rw [List.length_append, List.length_take, List.length_drop]; omega
        rw [e, List.map_append, List.map_take, List.map_drop]
        exact hown2
      · have := HN.out
        rw [List.length_append, List.length_take, List.length_drop]; omega
  · have dz : (z == 0) = false := by rw [beq_eq_false_iff_ne]; exact hz
    by_cases hz1 : z = 1
    · subst hz1
      go_wp2_with fail
      refine (next_any b 256 _ (by omega) (by omega) hc3).mono ?_
      rintro e w4 ⟨y, rfl, y0, y1, hc4, he4⟩
      have hown := ownsRow_ex hown he4 hbl
      have hE := hE.trans he4
      have hs4 := hE.size
      clear he4 hc3
      go_wp2_with (at_builtin; refine wpList_append_own_at _ rfl _ _ 37 rfl w.heap.size 5 ti (.int .u8 0) 1 1 Tryd.underlying37 hi1 hi2 hi3 hi4 rfl (by decide) _ _ _ rfl (hown.alloc _) ⟨w4.heap.size, 0, none⟩ 1 1 [_] rfl rfl (cell_one_new _ _ _) (by intro u hu; simp at hu; subst hu; rfl) (by unfold maxLen; omega) (by omega) (by simp; omega) ?_; intro v' w5 hown2 hgrow hnil hloc)
      go_ret
      refine ⟨_, xs ++ [y], rfl, ?_, ?_, ?_⟩
      · rw [List.length_append, List.map_append, ← HN.out]
        exact hown2
      · simp; have := HN.out; omega
      · exact (hE.alloc _).grown hgrow (fun j hj => (Option.some.inj (show some g = some j from hj)) ▸ hgb)
    · have dz1 : (z == 1) = false := by rw [beq_eq_false_iff_ne]; exact hz1
      go_wp2_with fail
      have hX : ∃ X : Int, xs[x]? = some X := ⟨_, List.getElem?_eq_getElem (by have := HN.out; omega)⟩
      obtain ⟨X, hX⟩ := hX
      have hcl : w3.cell? ⟨g, x, none⟩ = some (.int .u8 X) := by rw [hown.cellAt x (by omega), List.getElem?_map, hX]; rfl
      have hS : True := trivial
      have ux : (x : Int) < (n : Int) := by omega
      refine region_plain (fun _ => True) (by kernel_rfl) ?_
      refine take_at 0 (some 40) (v := ?w0) rfl rfl (by kernel_rfl) (by kernel_rfl) (by kernel_rfl) (by rfl) ?x0 hS ?z0
      case x0 => intro w' hSw; go_simp; (try with_reducible rfl)
      simp only [Act.put, List.setIfInBounds_toArray, List.set_cons_zero, List.set_cons_succ]
      refine take_at 1 (some 41) (v := ?w1) rfl rfl (by kernel_rfl) (by kernel_rfl) (by kernel_rfl) (by rfl) ?x1 hS ?z1
      case x1 => intro w' hSw; go_simp; (try with_reducible rfl)
      simp only [Act.put, List.setIfInBounds_toArray, List.set_cons_zero, List.set_cons_succ]
      refine take_at 2 (some 42) (v := .pointer (some ⟨g, x, none⟩)) rfl rfl (by kernel_rfl) (by kernel_rfl) (by kernel_rfl) (by rfl) ?x2 hS ?z2
      case x2 => intro w' hSw; go_simp; (try with_reducible rfl)
      simp only [Act.put, List.setIfInBounds_toArray, List.set_cons_zero, List.set_cons_succ]
      refine take_at 4 (some 44) (v := ?w4) rfl rfl (by kernel_rfl) (by kernel_rfl) (by kernel_rfl) (by rfl) ?x4 hS ?z4
      case x4 => intro w' hSw; go_simp; (try with_reducible rfl)
      simp only [Act.put, List.setIfInBounds_toArray, List.set_cons_zero, List.set_cons_succ]
      refine next_two 3 5 rfl rfl (by kernel_rfl) (by rfl) (by rfl) (fun K hK => ?_) (fun K hK => ?_)
      · go_simp
        refine hK _ _ trivial ?_
        clear hK K
        refine next_at 5 rfl (by kernel_rfl) (by rfl) (fun K hK => ?_)
        go_simp
        refine (next_any b 255 _ (by omega) (by omega) (hc3.gr (Gr.drew (Gr.refl _)))).mono ?_
        rintro e w4 ⟨y, rfl, y0, y1, hc4, he4⟩
        have hown := ownsRow_ex hown.drew he4 hbl
        have hE := hE.drew.trans he4
        refine hK _ _ trivial ?_
        clear hK K hcl
        have hcl : w4.cell? ⟨g, x, none⟩ = some (.int .u8 X) := by rw [hown.cellAt x (by omega), List.getElem?_map, hX]; rfl
        have hfz := hown.frozenAt x
        refine next_at 6 rfl (by kernel_rfl) (by rfl) (fun K hK => ?_)
        go_simp
        refine hK _ _ hS ?_
        clear hK K
        refine next_at 7 rfl (by kernel_rfl) (by rfl) (fun K hK => ?_)
        go_simp
        refine hK _ _ hS ?_
        clear hK K
        refine next_at 8 rfl (by kernel_rfl) (by rfl) (fun K hK => ?_)
        go_simp
        refine hK _ _ hS ?_
        clear hK K
        refine next_at 9 rfl (by kernel_rfl) (by rfl) (fun K hK => ?_)
        go_simp
        refine hK _ _ hS ?_
        clear hK K
        refine next_at 10 rfl (by kernel_rfl) (by rfl) (fun K hK => ?_)
        go_simp
        refine hK _ _ trivial ?_
        clear hK K
        refine wpAnyH_done (by kernel_rfl) ?_ _
        refine qz_normal ?_
        go_wp2_with fail
        go_ret
        refine ⟨_, xs.set x (bits .xor .u8 X (IntKind.u8.wrap (IntKind.i64.wrap (1 + y)))), rfl, ?_, ?_, ?_⟩
        · rw [List.length_set, ← HN.out, List.map_set]
          exact (hown.stored x _).1
        · rw [List.length_set]
          have := HN.out
          omega
        · exact hE.grown (hown.stored x _).2 (fun j hj => (Option.some.inj hj) ▸ hgb)
      · skip
        go_simp
        refine (next_any b 255 _ (by omega) (by omega) (hc3.gr (Gr.drew (Gr.refl _)))).mono ?_
        rintro e w4 ⟨y, rfl, y0, y1, hc4, he4⟩
        have hown := ownsRow_ex hown.drew he4 hbl
        have hE := hE.drew.trans he4
        refine hK _ _ trivial ?_
        clear hK K hcl
        have hcl : w4.cell? ⟨g, x, none⟩ = some (.int .u8 X) := by rw [hown.cellAt x (by omega), List.getElem?_map, hX]; rfl
        have hfz := hown.frozenAt x
        refine take_at 6 (some 46) (v := ?w6) rfl rfl (by kernel_rfl) (by kernel_rfl) (by kernel_rfl) (by rfl) ?x6 hS ?z6
        case x6 => intro w' hSw; go_simp; (try with_reducible rfl)
        simp only [Act.put, List.setIfInBounds_toArray, List.set_cons_zero, List.set_cons_succ]
        refine take_at 7 (some 47) (v := ?w7) rfl rfl (by kernel_rfl) (by kernel_rfl) (by kernel_rfl) (by rfl) ?x7 hS ?z7
        case x7 => intro w' hSw; go_simp; (try with_reducible rfl)
        simp only [Act.put, List.setIfInBounds_toArray, List.set_cons_zero, List.set_cons_succ]
        refine next_at 3 rfl (by kernel_rfl) (by rfl) (fun K hK => ?_)
        go_simp
        refine hK _ _ trivial ?_
        clear hK K
        refine next_at 8 rfl (by kernel_rfl) (by rfl) (fun K hK => ?_)
        go_simp
        refine hK _ _ hS ?_
        clear hK K
        refine next_at 9 rfl (by kernel_rfl) (by rfl) (fun K hK => ?_)
        go_simp
        refine hK _ _ hS ?_
        clear hK K
        refine next_at 10 rfl (by kernel_rfl) (by rfl) (fun K hK => ?_)
        go_simp
        refine hK _ _ trivial ?_
        clear hK K
        refine wpAnyH_done (by kernel_rfl) ?_ _
        refine qz_normal ?_
        go_wp2_with fail
        go_ret
        refine ⟨_, xs.set x (bits .xor .u8 X (IntKind.u8.wrap (IntKind.i64.wrap (1 + y)))), rfl, ?_, ?_, ?_⟩
        · rw [List.length_set, ← HN.out, List.map_set]
          exact (hown.stored x _).1
        · rw [List.length_set]
          have := HN.out
          omega
        · exact hE.grown (hown.stored x _).2 (fun j hj => (Option.some.inj hj) ▸ hgb)
end Go.Proofs.YtoaboflepfmkpaaDoor
