/- Spoilt: bytes with one byte changed, left out or added. -/
import Derived.Test.YtlkhdbgknkjioaaDraw
import Derived.Test.YtlkhdbgknkjioaaTk
import Derived.Test.YtlkhdbgknkjioaaWb
import Derived.WalkKit
import Derived.WalkSpells
import Derived.WalkLawsBesides
import Derived.WalkSmall
import Derived.Handy
import Derived.BigQuiet
import Derived.Deep.QuietTactic
import Derived.Deep.RegionHeld3
import Derived.Deep.DeepFit
import Derived.Below
import Derived.Lib.Hide
import Derived.Lib.QuietBelow
import Derived.Maps.AppendAt
import Derived.Deep.DeepCutAuto
namespace Go.Proofs.Ytlkhdbgknkjioaa
open Go Go.RowKit Go.Sort
set_option maxRecDepth 100000
set_option linter.unusedVariables false
theorem ownsRow_ex {w w' : World} {base b n : Nat} {e : TypeId} {v : Value} {xs : List Value} (h : w.ownsRow base e 1 v n xs) (g : Ex b w w') (hb : b < base) : w'.ownsRow base e 1 v n xs := by
  refine World.ownsRow.kept (row := some b) h ⟨g.os, g.tape, g.output, g.size, fun k hk hne => g.block k (fun e => hne (by rw [e])) hk⟩ ?_
  cases hv : v.ownBlock with
  | none => exact .inl rfl
  | some k => exact .inr (fun e => by have := (World.ownsRow.lt h k hv).1; cases e; omega)
theorem own_form {w : World} {base n : Nat} {e : TypeId} {v : Value} {xs : List Value} (h : w.ownsRow base e 1 v n xs) (hn : 0 < n) : ∃ g cap, v = .slice (some ⟨g, 0, none⟩) n cap ∧ base ≤ g ∧ g < w.heap.size ∧ n ≤ cap := by
  obtain ⟨h1, h2⟩ := h
  rcases h2 with ⟨_, h0⟩ | ⟨g, cap, cur, hv, hg, hh, hc, _⟩
  · omega
  · refine ⟨g, cap, hv, hg, ?_, hc⟩
    rcases Nat.lt_or_ge g w.heap.size with h | h
    · exact h
    · rw [Array.getElem?_eq_none h] at hh; cases hh
theorem own_take {w : World} {base n g cap m : Nat} {e : TypeId} {xs : List Value} (h : w.ownsRow base e 1 (.slice (some ⟨g, 0, none⟩) n cap) n xs) (hm : m ≤ n) : w.ownsRow base e 1 (.slice (some ⟨g, 0, none⟩) m cap) m (xs.take m) := by
  obtain ⟨h1, h2⟩ := h
  rcases h2 with ⟨h0, _⟩ | ⟨g', cap', cur, hv, hg, hh, hn, hcap, hsz, htake⟩
  · cases h0
  · cases hv
    refine ⟨by rw [List.length_take]; omega, .inr ⟨g, cap, cur, rfl, hg, hh, by omega, hcap, hsz, ?_⟩⟩
    rw [← htake, List.take_take]
    congr 1; omega
theorem xor_u8 (a b : Int) : 0 ≤ bits .xor .u8 a b ∧ bits .xor .u8 a b < 256 := by
  show 0 ≤ IntKind.u8.wrap _ ∧ IntKind.u8.wrap _ < 256
  rw [IntKind.wrap_u8]; omega
/-- the bytes that come back: a slice of the call's own -/
theorem Cod.exo {B c : Nat} {w w' : World} {b : Nat} (h : Cod B w b) (he : Ex c w w') (hc : c ≠ b) (hcB : B ≤ c) : Cod B w' b := by
  have hl := h.lt
  obtain ⟨a, len, cap, k, h0, h1, h2, h3, h4, h5, h6⟩ := h.ex
  exact ⟨h.base, a, len, cap, k, by rw [he.cell b 0 (Ne.symm hc) hl]; exact h0, by rw [he.cell b 1 (Ne.symm hc) hl]; exact h1, h2, h3, by rw [he.frozen b 1 (Ne.symm hc) hl]; exact h4, h5.ex (ne_lt hcB h6) he, h6⟩
theorem Cod.grown {B g : Nat} {w w' : World} {b : Nat} (h : Cod B w b) (k : w.grownBy w' (some g)) (hg : b < g) : Cod B w' b :=
  h.exo (c := g) ⟨k.os, k.tape, k.output, k.size, fun j hne hj => k.block j hj (fun e => hne (Option.some.inj e))⟩ (by omega) (by have := h.base; omega)
def SpPost (B b m : Nat) (w : World) (e : Ending) (w' : World) : Prop :=
  ∃ (v : Value) (ys : List Int), e = .returned v ∧ w'.ownsRow w.heap.size 5 1 v ys.length (ys.map (Value.int .u8)) ∧ ys.length ≤ m + 1 ∧ Ex b w w' ∧ (∀ y ∈ ys, 0 ≤ y ∧ y < 256) ∧ Cod B w' b
theorem Ex.grown {b : Nat} {u v w : World} {row : Option Nat} (h : Ex b u v) (g : v.grownBy w row) (hr : ∀ k, row = some k → u.heap.size ≤ k) : Ex b u w :=
  ⟨g.os.trans h.os, g.tape.trans h.tape, g.output.trans h.output, Nat.le_trans h.size g.size, fun j hne hj => (g.block j (Nat.lt_of_lt_of_le hj h.size) (fun hc => by have := hr j hc.symm; omega)).trans (h.block j hne hj)⟩
theorem map_cell {xs : List Int} : ∀ u ∈ xs.map (Value.int .u8), u.oneCell' = true := by
  intro u hu
  rw [List.mem_map] at hu
  obtain ⟨n, -, rfl⟩ := hu
  rfl
/-- an append in a region that draws its order -/
theorem oper_append {P : Program} {o : Oper} {a : Act} {w : World} {Q : Exit → Act → World → Prop} {K : Act → World → Prop} (s x : Operand) (t : TypeId)
    (ho : o.op = .call { callee := .builtin .append, args := #[s, x], argTypes := #[t, t] })
    (base : Nat) (e : TypeId) (i : TypeInfo) (z : Value) (size bytes : Nat) (ht : P.underlying t = some (.slice e)) (hi : P.info? e = some i) (hz : i.zero = some z)
    (hsize : i.size = size) (hby : i.bytes = bytes) (hzs : z.cells.size = size) (hsz : 0 < size)
    (v : Value) (n : Nat) (xs : List Value) (hs : a.eval s = v) (hown : w.ownsRow base e size v n xs)
    (ad : Addr) (m c : Nat) (news : List Value) (hx : a.eval x = .slice (some ad) m c) (hl : news.length = m * size) (hnews : ∀ j u, news[j]? = some u → w.cell? (ad.add j) = some u) (h1 : ∀ u ∈ news, u.oneCell' = true)
    (h63 : n + m ≤ maxLen) (hbytes : (n + m) * bytes ≤ 140737488355328) (hbase : base ≤ w.heap.size)
    (h : ∀ v' w', w'.ownsRow base e size v' (n + m) (xs ++ news) → w.grownBy w' v.ownBlock → K (a.put o.dst v') w') : o.wp P a w K Q := by
  obtain ⟨v', w', hr, h2, h3, -, -⟩ := run_append_own_at (P := P) w base t o.type e i z size bytes ht hi hz hsize hby hzs hsz v n xs hown ad m c news hl hnews h1 h63 hbytes hbase
  have hk := h v' w' h2 h3
  unfold Oper.wp execOp
  simp only [ho, resolve, invoke, builtin, Sem.run_bind, Sem.run_pure, Result.andThen_ok, List.map_toArray, List.map_cons, List.map_nil, hs, hx, hr]
  exact hk
set_option maxHeartbeats 2000000 in
theorem spoilt_any {B : Nat} (b k cap : Nat) (xs : List Int) (w : World) (h : Cod B w b) (hne : 0 < xs.length) (hl : xs.length ≤ 3000) (hcap : xs.length ≤ cap)
    (hrow : ∀ j u, (xs.map (Value.int .u8))[j]? = some u → w.cell? ((⟨k, 0, none⟩ : Addr).add j) = some u) (hkb : k ≠ b) (hk : k < w.heap.size) (hbx : ∀ y ∈ xs, 0 ≤ y ∧ y < 256) :
    Calls Try.prog 15 #[.pointer (some ⟨b, 0, none⟩), .slice (some ⟨k, 0, none⟩) xs.length cap] w (SpPost B b xs.length w) := by
  have hbl := h.lt
  obtain ⟨ti, hi1, hi2, hi3, hi4⟩ := byteInfoB
  have HROW := Lib.hid hrow
  have HBX := Lib.hid hbx
  clear hrow hbx
  obtain ⟨n, hn⟩ : ∃ n, n = xs.length := ⟨_, rfl⟩
  have HN := Lib.hid hn
  rw [← hn] at hne hl hcap ⊢
  clear hn
  go_enter Try.func15, Try.ntmps15
  go_wp2_with (at_builtin; refine wpList_append_own_at _ rfl _ _ 22 rfl w.heap.size 5 ti (.int .u8 0) 1 1 Try.underlying22 hi1 hi2 hi3 hi4 rfl (by decide) _ _ _ rfl (World.ownsRow_nil _ _ _ _) ⟨k, 0, none⟩ n cap (xs.map (Value.int .u8)) rfl (by rw [List.length_map, Nat.mul_one]; exact HN.out.symm) HROW.out map_cell (by unfold maxLen; omega) (by omega) (by omega) ?_; intro v1 w1 hown hgrow hnil hloc; clear hnil hloc; rw [Nat.zero_add, List.nil_append] at hown; have hg1 : Gr w w1 := Gr.grownNew (Gr.refl _) hgrow (fun _ h => by cases h); clear hgrow; obtain ⟨g, c1, rfl, hgb, hgl, hc1⟩ := own_form hown hne)
  have d0 : ((n : Int) == 0) = false := by rw [beq_eq_false_iff_ne]; omega
  go_wp2_with fail
  refine (next_any b n _ (by omega) (by omega) (h.gr hg1)).mono ?_
  rintro e w2 ⟨x, rfl, x0, x1, hc2, he2⟩
  obtain ⟨x, rfl⟩ := Int.eq_ofNat_of_zero_le x0
  have hown := ownsRow_ex hown he2 hbl
  have hE := (Ex.ofGr (b := b) hg1).trans he2
  clear hg1 he2 hgl
  go_wp2_with fail
  refine (next_any b 4 _ (by omega) (by omega) hc2).mono ?_
  rintro e w3 ⟨z, rfl, z0, z1, hc3, he3⟩
  have hown := ownsRow_ex hown he3 hbl
  have hE := hE.trans he3
  clear he3 hc2
  by_cases hz : z = 0
  · subst hz
    go_wp2_with fail
    have hS : True := trivial
    have u0 : decide ((x : Int) < 0) = false := by rw [decide_eq_false_iff_not]; omega
    refine region_plain (fun _ => True) (by kernel_rfl) ?_
    refine take_at 0 (some 24) (v := ?v0) rfl rfl (by kernel_rfl) (by kernel_rfl) (by kernel_rfl) (by rfl) ?y0 hS ?t0
    case y0 =>
      intro w' hSw
      go_simp
      (try rw [if_pos (by omega)])
      (try with_reducible rfl)
    simp only [Act.put, List.setIfInBounds_toArray, List.set_cons_zero, List.set_cons_succ]
    refine take_at 1 (some 25) (v := ?v1) rfl rfl (by kernel_rfl) (by kernel_rfl) (by kernel_rfl) (by rfl) ?y1 hS ?t1
    case y1 =>
      intro w' hSw
      go_simp
      (try rw [if_pos (by omega)])
      (try with_reducible rfl)
    simp only [Act.put, List.setIfInBounds_toArray, List.set_cons_zero, List.set_cons_succ]
    refine take_at 2 (some 26) (v := ?v2) rfl rfl (by kernel_rfl) (by kernel_rfl) (by kernel_rfl) (by rfl) ?y2 hS ?t2
    case y2 =>
      intro w' hSw
      go_simp
      (try rw [if_pos (by omega)])
      (try with_reducible rfl)
    simp only [Act.put, List.setIfInBounds_toArray, List.set_cons_zero, List.set_cons_succ]
    refine take_at 3 (some 27) (v := ?v3) rfl rfl (by kernel_rfl) (by kernel_rfl) (by kernel_rfl) (by rfl) ?y3 hS ?t3
    case y3 =>
      intro w' hSw
      go_simp
      (try rw [if_pos (by omega)])
      (try with_reducible rfl)
    simp only [Act.put, List.setIfInBounds_toArray, List.set_cons_zero, List.set_cons_succ]
    refine take_at 4 (some 28) (v := ?v4) rfl rfl (by kernel_rfl) (by kernel_rfl) (by kernel_rfl) (by rfl) ?y4 hS ?t4
    case y4 =>
      intro w' hSw
      go_simp
      (try rw [if_pos (by omega)])
      (try with_reducible rfl)
    simp only [Act.put, List.setIfInBounds_toArray, List.set_cons_zero, List.set_cons_succ]
    have hw : IntKind.i64.wrap ((x : Int) + 1) = ((x + 1 : Nat) : Int) := by rw [IntWalk.i64_in _ (by omega)]; omega
    obtain ⟨ad, had, hlo⟩ : ∃ ad : Addr, (if cap = x + 1 then some (⟨k, 0, none⟩ : Addr) else some ⟨k, x + 1, none⟩) = some ad ∧ (x + 1 < n → ad = ⟨k, x + 1, none⟩) := by
      by_cases hc : cap = x + 1
      · exact ⟨_, if_pos hc, fun h => by omega⟩
      · exact ⟨_, if_neg hc, fun _ => rfl⟩
    refine take_at 5 (some 29) (v := .int .i64 ((x + 1 : Nat) : Int)) rfl rfl (by kernel_rfl) (by kernel_rfl) (by kernel_rfl) (by rfl) ?y5 hS ?t5
    case y5 =>
      intro w' hSw
      go_simp
    simp only [Act.put, List.setIfInBounds_toArray, List.set_cons_zero, List.set_cons_succ]
    refine take_at 6 (some 30) (v := .slice (some ad) (n - (x + 1)) (cap - (x + 1))) rfl rfl (by kernel_rfl) (by kernel_rfl) (by kernel_rfl) (by rfl) ?y6 hS ?t6
    case y6 =>
      intro w' hSw
      go_simp
      intro hc
      have := hc (by omega)
      omega
    simp only [Act.put, List.setIfInBounds_toArray, List.set_cons_zero, List.set_cons_succ]
    refine next_at 7 rfl (by kernel_rfl) (by rfl) (fun K hK => ?_)
    have hlt : n - (x + 1) = ((xs.map (Value.int .u8)).drop (x + 1)).length := by rw [List.length_drop, List.length_map, ← HN.out]
    refine oper_append _ _ 22 rfl w.heap.size 5 ti (.int .u8 0) 1 1 Try.underlying22 hi1 hi2 hi3 hi4 rfl (by decide) (.slice (some ⟨g, 0, none⟩) x c1) x ((xs.map (Value.int .u8)).take x) rfl (own_take (m := x) hown.drew (by omega)) ad (n - (x + 1)) (cap - (x + 1)) ((xs.map (Value.int .u8)).drop (x + 1)) rfl (by omega) ?_ (fun u hu => map_cell u (List.mem_of_mem_drop hu)) (by unfold maxLen; omega) (by omega) (by have := hE.size; simp; omega) ?_
    · intro j u hj
      rw [List.getElem?_drop] at hj
      have hjn : x + 1 + j < n := by
        rcases Nat.lt_or_ge (x + 1 + j) n with h | h
        · exact h
        · rw [List.getElem?_eq_none (by rw [List.length_map, ← HN.out]; omega)] at hj; cases hj
      have h1 := HROW.out _ _ hj
      rw [hlo (by omega)]
      rw [show (⟨k, x + 1, none⟩ : Addr).add j = (⟨k, 0, none⟩ : Addr).add (x + 1 + j) by simp [Addr.add]]
      rw [show (⟨k, 0, none⟩ : Addr).add (x + 1 + j) = ⟨k, x + 1 + j, none⟩ by simp [Addr.add]] at h1 ⊢
      exact (hE.cell k _ hkb hk).trans h1
    · intro v' w4 hown2 hgrow
      refine hK _ _ trivial ?_
      clear hK K
      simp only [Act.put, List.setIfInBounds_toArray]
      refine next_at 8 rfl (by kernel_rfl) (by rfl) (fun K hK => ?_)
      go_simp
      refine hK _ _ hS ?_
      clear hK K
      refine wpAnyH_done (by kernel_rfl) ?_ _
      refine qz_normal ?_
      go_wp2_with fail
      go_ret
      refine ⟨_, xs.take x ++ xs.drop (x + 1), rfl, ?_, ?_, hE.drew.grown hgrow (fun j hj => (Option.some.inj (show some g = some j from hj)) ▸ hgb), fun y hy => (List.mem_append.1 hy).elim (fun h => HBX.out y (List.mem_of_mem_take h)) (fun h => HBX.out y (List.mem_of_mem_drop h)), (hc3.gr (Gr.drew (Gr.refl _))).grown (g := g) hgrow (by omega)⟩
      · have e : (xs.take x ++ xs.drop (x + 1)).length = x + (n - (x + 1)) := by
          have := HN.out
          rw [List.length_append, List.length_take, List.length_drop]; omega
        rw [e, List.map_append, List.map_take, List.map_drop]
        exact hown2
      · have := HN.out
        rw [List.length_append, List.length_take, List.length_drop]; omega
  · have dz : (z == 0) = false := by rw [beq_eq_false_iff_ne]; exact hz
    by_cases hz1 : z = 1
    · subst hz1
      go_wp2_with fail
      refine (next_any b 256 _ (by omega) (by omega) hc3).mono ?_
      rintro e w4 ⟨y, rfl, y0, y1, hc4, he4⟩
      have hown := ownsRow_ex hown he4 hbl
      have hE := hE.trans he4
      have hs4 := hE.size
      clear he4 hc3
      go_wp2_with (at_builtin; refine wpList_append_own_at _ rfl _ _ 22 rfl w.heap.size 5 ti (.int .u8 0) 1 1 Try.underlying22 hi1 hi2 hi3 hi4 rfl (by decide) _ _ _ rfl (hown.alloc _) ⟨w4.heap.size, 0, none⟩ 1 1 [_] rfl rfl (cell_one_new _ _ _) (by intro u hu; simp at hu; subst hu; rfl) (by unfold maxLen; omega) (by omega) (by simp; omega) ?_; intro v' w5 hown2 hgrow hnil hloc)
      go_ret
      refine ⟨_, xs ++ [y], rfl, ?_, ?_, ?_, fun u hu => (List.mem_append.1 hu).elim (fun h => HBX.out u h) (fun h => by rw [List.mem_singleton] at h; subst h; exact ⟨y0, y1⟩), (hc4.gr (Gr.alloc (Gr.refl _) _)).grown (g := g) hgrow (by omega)⟩
      · rw [List.length_append, List.map_append, ← HN.out]
        exact hown2
      · simp; have := HN.out; omega
      · exact (hE.alloc _).grown hgrow (fun j hj => (Option.some.inj (show some g = some j from hj)) ▸ hgb)
    · have dz1 : (z == 1) = false := by rw [beq_eq_false_iff_ne]; exact hz1
      go_wp2_with fail
      have hX : ∃ X : Int, xs[x]? = some X := ⟨_, List.getElem?_eq_getElem (by have := HN.out; omega)⟩
      obtain ⟨X, hX⟩ := hX
      have hcl : w3.cell? ⟨g, x, none⟩ = some (.int .u8 X) := by rw [hown.cellAt x (by omega), List.getElem?_map, hX]; rfl
      have hS : True := trivial
      have ux : (x : Int) < (n : Int) := by omega
      refine region_plain (fun _ => True) (by kernel_rfl) ?_
      refine take_at 0 (some 40) (v := ?w0) rfl rfl (by kernel_rfl) (by kernel_rfl) (by kernel_rfl) (by rfl) ?x0 hS ?z0
      case x0 => intro w' hSw; go_simp; (try with_reducible rfl)
      simp only [Act.put, List.setIfInBounds_toArray, List.set_cons_zero, List.set_cons_succ]
      refine take_at 1 (some 41) (v := ?w1) rfl rfl (by kernel_rfl) (by kernel_rfl) (by kernel_rfl) (by rfl) ?x1 hS ?z1
      case x1 => intro w' hSw; go_simp; (try with_reducible rfl)
      simp only [Act.put, List.setIfInBounds_toArray, List.set_cons_zero, List.set_cons_succ]
      refine take_at 2 (some 42) (v := .pointer (some ⟨g, x, none⟩)) rfl rfl (by kernel_rfl) (by kernel_rfl) (by kernel_rfl) (by rfl) ?x2 hS ?z2
      case x2 => intro w' hSw; go_simp; (try with_reducible rfl)
      simp only [Act.put, List.setIfInBounds_toArray, List.set_cons_zero, List.set_cons_succ]
      refine take_at 4 (some 44) (v := ?w4) rfl rfl (by kernel_rfl) (by kernel_rfl) (by kernel_rfl) (by rfl) ?x4 hS ?z4
      case x4 => intro w' hSw; go_simp; (try with_reducible rfl)
      simp only [Act.put, List.setIfInBounds_toArray, List.set_cons_zero, List.set_cons_succ]
      refine next_two 3 5 rfl rfl (by kernel_rfl) (by rfl) (by rfl) (fun K hK => ?_) (fun K hK => ?_)
      · go_simp
        refine hK _ _ trivial ?_
        clear hK K
        refine next_at 5 rfl (by kernel_rfl) (by rfl) (fun K hK => ?_)
        go_simp
        refine (next_any b 255 _ (by omega) (by omega) (hc3.gr (Gr.drew (Gr.refl _)))).mono ?_
        rintro e w4 ⟨y, rfl, y0, y1, hc4, he4⟩
        have hown := ownsRow_ex hown.drew he4 hbl
        have hE := hE.drew.trans he4
        refine hK _ _ trivial ?_
        clear hK K hcl
        have hcl : w4.cell? ⟨g, x, none⟩ = some (.int .u8 X) := by rw [hown.cellAt x (by omega), List.getElem?_map, hX]; rfl
        have hfz := hown.frozenAt x
        refine next_at 6 rfl (by kernel_rfl) (by rfl) (fun K hK => ?_)
        go_simp
        refine hK _ _ hS ?_
        clear hK K
        refine next_at 7 rfl (by kernel_rfl) (by rfl) (fun K hK => ?_)
        go_simp
        refine hK _ _ hS ?_
        clear hK K
        refine next_at 8 rfl (by kernel_rfl) (by rfl) (fun K hK => ?_)
        go_simp
        refine hK _ _ hS ?_
        clear hK K
        refine next_at 9 rfl (by kernel_rfl) (by rfl) (fun K hK => ?_)
        go_simp
        refine hK _ _ hS ?_
        clear hK K
        refine next_at 10 rfl (by kernel_rfl) (by rfl) (fun K hK => ?_)
        go_simp
        refine hK _ _ trivial ?_
        clear hK K
        refine wpAnyH_done (by kernel_rfl) ?_ _
        refine qz_normal ?_
        go_wp2_with fail
        go_ret
        refine ⟨_, xs.set x (bits .xor .u8 X (IntKind.u8.wrap (IntKind.i64.wrap (1 + y)))), rfl, ?_, ?_, ?_, fun u hu => (List.mem_or_eq_of_mem_set hu).elim (fun h => HBX.out u h) (fun h => by subst h; exact xor_u8 _ _), hc4.grown (g := g) (hown.stored x _).2 (by omega)⟩
        · rw [List.length_set, ← HN.out, List.map_set]
          exact (hown.stored x _).1
        · rw [List.length_set]
          have := HN.out
          omega
        · exact hE.grown (hown.stored x _).2 (fun j hj => (Option.some.inj hj) ▸ hgb)
      · skip
        go_simp
        refine (next_any b 255 _ (by omega) (by omega) (hc3.gr (Gr.drew (Gr.refl _)))).mono ?_
        rintro e w4 ⟨y, rfl, y0, y1, hc4, he4⟩
        have hown := ownsRow_ex hown.drew he4 hbl
        have hE := hE.drew.trans he4
        refine hK _ _ trivial ?_
        clear hK K hcl
        have hcl : w4.cell? ⟨g, x, none⟩ = some (.int .u8 X) := by rw [hown.cellAt x (by omega), List.getElem?_map, hX]; rfl
        have hfz := hown.frozenAt x
        refine take_at 6 (some 46) (v := ?w6) rfl rfl (by kernel_rfl) (by kernel_rfl) (by kernel_rfl) (by rfl) ?x6 hS ?z6
        case x6 => intro w' hSw; go_simp; (try with_reducible rfl)
        simp only [Act.put, List.setIfInBounds_toArray, List.set_cons_zero, List.set_cons_succ]
        refine take_at 7 (some 47) (v := ?w7) rfl rfl (by kernel_rfl) (by kernel_rfl) (by kernel_rfl) (by rfl) ?x7 hS ?z7
        case x7 => intro w' hSw; go_simp; (try with_reducible rfl)
        simp only [Act.put, List.setIfInBounds_toArray, List.set_cons_zero, List.set_cons_succ]
        refine next_at 3 rfl (by kernel_rfl) (by rfl) (fun K hK => ?_)
        go_simp
        refine hK _ _ trivial ?_
        clear hK K
        refine next_at 8 rfl (by kernel_rfl) (by rfl) (fun K hK => ?_)
        go_simp
        refine hK _ _ hS ?_
        clear hK K
        refine next_at 9 rfl (by kernel_rfl) (by rfl) (fun K hK => ?_)
        go_simp
        refine hK _ _ hS ?_
        clear hK K
        refine next_at 10 rfl (by kernel_rfl) (by rfl) (fun K hK => ?_)
        go_simp
        refine hK _ _ trivial ?_
        clear hK K
        refine wpAnyH_done (by kernel_rfl) ?_ _
        refine qz_normal ?_
        go_wp2_with fail
        go_ret
        refine ⟨_, xs.set x (bits .xor .u8 X (IntKind.u8.wrap (IntKind.i64.wrap (1 + y)))), rfl, ?_, ?_, ?_, fun u hu => (List.mem_or_eq_of_mem_set hu).elim (fun h => HBX.out u h) (fun h => by subst h; exact xor_u8 _ _), hc4.grown (g := g) (hown.stored x _).2 (by omega)⟩
        · rw [List.length_set, ← HN.out, List.map_set]
          exact (hown.stored x _).1
        · rw [List.length_set]
          have := HN.out
          omega
        · exact hE.grown (hown.stored x _).2 (fun j hj => (Option.some.inj hj) ▸ hgb)
theorem wrap_byte' (x : Nat) (h : x < 256) : IntKind.u8.wrap (x : Int) = (x : Int) := by rw [IntKind.wrap_u8]; omega
theorem OwB.ex {base b : Nat} {w w' : World} {v : Value} {l : List Nat} (h : OwB base w v l) (g : Ex b w w') (hb : b < base) : OwB base w' v l := ⟨ownsRow_ex h.1 g hb, h.2⟩
theorem Rb.grown {p : Nat → Prop} {w w' : World} {v : Value} {l : List Nat} {row : Option Nat} (h : Rb p w v l) (g : w.grownBy w' row) (hr : ∀ k, p k → row ≠ some k) : Rb p w' v l := by
  obtain ⟨a, cap, e, hl, hc, hn, hx, H⟩ := h
  refine ⟨a, cap, e, hl, hc, hn, hx, fun i hi => ?_⟩
  obtain ⟨b, off, ea, hp, hcell⟩ := H i hi
  refine ⟨b, off, ea, hp, ?_⟩
  rw [World.cell?_of_block (w := w) (g.block b (World.block_lt_of_cell? _ _ hcell) (fun e => hr b hp e.symm))]
  exact hcell
theorem spoilt_nil {B : Nat} (b : Nat) (a : Option Addr) (cap : Nat) (w : World) (h : Cod B w b) (hr : Rb (fun _ => True) w (.slice a 0 cap) []) :
    Calls Try.prog 15 #[.pointer (some ⟨b, 0, none⟩), .slice a 0 cap] w fun e w' => ∃ v l, e = .returned v ∧ Rb (fun k => w.heap.size ≤ k) w' v l ∧ l.length ≤ 3000 ∧ Ex b w w' ∧ Cod B w' b := by
  have HR := Lib.hid hr
  have HC := Lib.hid h
  clear hr h
  go_enter Try.func15, Try.ntmps15
  go_wp2_with (at_builtin; refine wpList_app (base := w.heap.size) rfl (.const (.slice none 0 0)) (.tmp 7) rfl rfl (OwB.nil _ _) rfl HR.out (by simp) (Nat.le_refl _) ?_; intro v1 w1 ho g1; have hg1 : Gr w w1 := Gr.grownNew (Gr.refl _) g1 (fun _ h => by cases h); obtain ⟨a1, c1, rfl, -, -⟩ := ho.rb.form; clear ho g1)
  refine (next_any b 256 _ (by omega) (by omega) (HC.out.gr hg1)).mono ?_
  rintro e w2 ⟨x, rfl, x0, x1, hc2, he2⟩
  obtain ⟨x, rfl⟩ := Int.eq_ofNat_of_zero_le x0
  have hx := wrap_byte' x (by omega)
  have hsz : w.heap.size ≤ w2.heap.size := Nat.le_trans (Gr.size hg1) he2.size
  go_wp2_with fail
  go_ret
  refine ⟨_, [x], rfl, ⟨_, 1, rfl, by simp, by omega, (fun h => by cases h), (fun y hy => by rw [List.mem_singleton] at hy; omega), fun i hi => ⟨_, 0, rfl, hsz, ?_⟩⟩, by simp, ((Ex.ofGr hg1).trans he2).trans (Ex.ofGr (Gr.alloc (Gr.refl _) _)), hc2.gr (Gr.alloc (Gr.refl _) _)⟩
  have : i = 0 := by simp at hi; omega
  subst this
  simp
theorem spoilt_res {B base : Nat} (b : Nat) (v : Value) (l : List Nat) (w : World) (h : Cod B w b) (ho : OwB base w v l) (hl : l.length ≤ 1600) (hb : ∀ k, v.ownBlock = some k → k ≠ b) :
    Calls Try.prog 15 #[.pointer (some ⟨b, 0, none⟩), v] w fun e w' => ∃ v l, e = .returned v ∧ Rb (fun k => w.heap.size ≤ k) w' v l ∧ l.length ≤ 3000 ∧ Ex b w w' ∧ Cod B w' b := by
  by_cases h0 : 0 < l.length
  · obtain ⟨g, cap, rfl, hgb, hgl, hcap⟩ := ho.form h0
    have hx := ho.2
    have hlen : (l.map fun x : Nat => (x : Int)).length = l.length := by simp
    have hc := ho.1.cells (g := g) rfl
    have := spoilt_any b g cap (l.map fun x : Nat => (x : Int)) w h (by rw [hlen]; exact h0) (by rw [hlen]; omega) (by rw [hlen]; exact hcap) (by
      intro j u hj
      refine hc j u ?_
      rw [List.map_map] at hj
      exact hj) (hb g rfl) hgl (fun y hy => by
        rw [List.mem_map] at hy
        obtain ⟨n, hn, rfl⟩ := hy
        have := hx n hn; omega)
    rw [hlen] at this
    refine this.mono ?_
    rintro e w' ⟨v, ys, rfl, hown, hys, hE, hyb, hcd⟩
    refine ⟨v, ys.map Int.toNat, rfl, ?_, by simp; omega, hE, hcd⟩
    have e1 : ys.map (Value.int .u8) = cellsB (ys.map Int.toNat) := by
      unfold cellsB
      rw [List.map_map]
      refine List.map_congr_left (fun y hy => ?_)
      have := hyb y hy
      show Value.int .u8 y = Value.int .u8 (y.toNat : Int)
      rw [Int.toNat_of_nonneg this.1]
    have hO : OwB w.heap.size w' v (ys.map Int.toNat) := ⟨by rw [List.length_map, ← e1]; exact hown, fun x hx => by
      rw [List.mem_map] at hx
      obtain ⟨y, hy, rfl⟩ := hx
      have := hyb y hy; omega⟩
    exact hO.rb
  · have : l = [] := List.eq_nil_of_length_eq_zero (by omega)
    subst this
    have hr := ho.rb.any
    obtain ⟨a, cap, rfl, -, -⟩ := ho.rb.form
    exact spoilt_nil b a cap w h hr
end Go.Proofs.Ytlkhdbgknkjioaa
