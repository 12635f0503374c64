/- Several texts in one. -/
import Derived.Test.YtlkhdbgknkjioaaDRA
import Derived.Test.YtlkhdbgknkjioaaTk
import Derived.Test.YtlkhdbgknkjioaaWb
import Derived.WalkKit
import Derived.WalkSpells
import Derived.WalkLawsBesides
import Derived.WalkSmall
import Derived.Handy
import Derived.BigQuiet
import Derived.Deep.QuietTactic
import Derived.Deep.RegionHeld3
import Derived.Deep.DeepFit
import Derived.Below
import Derived.Lib.Hide
import Derived.Lib.QuietBelow
import Derived.Maps.AppendAt
import Derived.Deep.DeepCutAuto
import Derived.Test.YtlkhdbgknkjioaaUc
import Derived.Test.YtlkhdbgknkjioaaUs
/- Spoilt: bytes with one byte changed, left out or added. -/
namespace Go.Proofs.Ytlkhdbgknkjioaa
open Go Go.RowKit Go.Sort
set_option maxRecDepth 100000
set_option linter.unusedVariables false
theorem ownsRow_ex {w w' : World} {base b n : Nat} {e : TypeId} {v : Value} {xs : List Value} (h : w.ownsRow base e 1 v n xs) (g : Ex b w w') (hb : b < base) : w'.ownsRow base e 1 v n xs := by
  refine World.ownsRow.kept (row := some b) h ⟨g.os, g.tape, g.output, g.size, fun k hk hne => g.block k (fun e => hne (by rw [e])) hk⟩ ?_
  cases hv : v.ownBlock with
  | none => exact .inl rfl
  | some k => exact .inr (fun e => by have := (World.ownsRow.lt h k hv).1; cases e; omega)
theorem own_form {w : World} {base n : Nat} {e : TypeId} {v : Value} {xs : List Value} (h : w.ownsRow base e 1 v n xs) (hn : 0 < n) : ∃ g cap, v = .slice (some ⟨g, 0, none⟩) n cap ∧ base ≤ g ∧ g < w.heap.size ∧ n ≤ cap := by
  obtain ⟨h1, h2⟩ := h
  rcases h2 with ⟨_, h0⟩ | ⟨g, cap, cur, hv, hg, hh, hc, _⟩
  · omega
  · refine ⟨g, cap, hv, hg, ?_, hc⟩
    rcases Nat.lt_or_ge g w.heap.size with h | h
    · exact h
    · rw [Array.getElem?_eq_none h] at hh; cases hh
theorem own_take {w : World} {base n g cap m : Nat} {e : TypeId} {xs : List Value} (h : w.ownsRow base e 1 (.slice (some ⟨g, 0, none⟩) n cap) n xs) (hm : m ≤ n) : w.ownsRow base e 1 (.slice (some ⟨g, 0, none⟩) m cap) m (xs.take m) := by
  obtain ⟨h1, h2⟩ := h
  rcases h2 with ⟨h0, _⟩ | ⟨g', cap', cur, hv, hg, hh, hn, hcap, hsz, htake⟩
  · cases h0
  · cases hv
    refine ⟨by rw [List.length_take]; omega, .inr ⟨g, cap, cur, rfl, hg, hh, by omega, hcap, hsz, ?_⟩⟩
    rw [← htake, List.take_take]
    congr 1; omega
theorem xor_u8 (a b : Int) : 0 ≤ bits .xor .u8 a b ∧ bits .xor .u8 a b < 256 := by
  show 0 ≤ IntKind.u8.wrap _ ∧ IntKind.u8.wrap _ < 256
  rw [IntKind.wrap_u8]; omega
/-- the bytes that come back: a slice of the call's own -/
theorem Cod.exo {B c : Nat} {w w' : World} {b : Nat} (h : Cod B w b) (he : Ex c w w') (hc : c ≠ b) (hcB : B ≤ c) : Cod B w' b := by
  have hl := h.lt
  obtain ⟨a, len, cap, k, h0, h1, h2, h3, h4, h5, h6⟩ := h.ex
  exact ⟨h.base, a, len, cap, k, by rw [he.cell b 0 (Ne.symm hc) hl]; exact h0, by rw [he.cell b 1 (Ne.symm hc) hl]; exact h1, h2, h3, by rw [he.frozen b 1 (Ne.symm hc) hl]; exact h4, h5.ex (ne_lt hcB h6) he, h6⟩
theorem Cod.grown {B g : Nat} {w w' : World} {b : Nat} (h : Cod B w b) (k : w.grownBy w' (some g)) (hg : b < g) : Cod B w' b :=
  h.exo (c := g) ⟨k.os, k.tape, k.output, k.size, fun j hne hj => k.block j hj (fun e => hne (Option.some.inj e))⟩ (by omega) (by have := h.base; omega)
def SpPost (B b m : Nat) (w : World) (e : Ending) (w' : World) : Prop :=
  ∃ (v : Value) (ys : List Int), e = .returned v ∧ w'.ownsRow w.heap.size 5 1 v ys.length (ys.map (Value.int .u8)) ∧ ys.length ≤ m + 1 ∧ Ex b w w' ∧ (∀ y ∈ ys, 0 ≤ y ∧ y < 256) ∧ Cod B w' b
theorem Ex.grown {b : Nat} {u v w : World} {row : Option Nat} (h : Ex b u v) (g : v.grownBy w row) (hr : ∀ k, row = some k → u.heap.size ≤ k) : Ex b u w :=
  ⟨g.os.trans h.os, g.tape.trans h.tape, g.output.trans h.output, Nat.le_trans h.size g.size, fun j hne hj => (g.block j (Nat.lt_of_lt_of_le hj h.size) (fun hc => by have := hr j hc.symm; omega)).trans (h.block j hne hj)⟩
theorem map_cell {xs : List Int} : ∀ u ∈ xs.map (Value.int .u8), u.oneCell' = true := by
  intro u hu
  rw [List.mem_map] at hu
  obtain ⟨n, -, rfl⟩ := hu
  rfl
/-- an append in a region that draws its order -/
theorem oper_append {P : Program} {o : Oper} {a : Act} {w : World} {Q : Exit → Act → World → Prop} {K : Act → World → Prop} (s x : Operand) (t : TypeId)
    (ho : o.op = .call { callee := .builtin .append, args := #[s, x], argTypes := #[t, t] })
    (base : Nat) (e : TypeId) (i : TypeInfo) (z : Value) (size bytes : Nat) (ht : P.underlying t = some (.slice e)) (hi : P.info? e = some i) (hz : i.zero = some z)
    (hsize : i.size = size) (hby : i.bytes = bytes) (hzs : z.cells.size = size) (hsz : 0 < size)
    (v : Value) (n : Nat) (xs : List Value) (hs : a.eval s = v) (hown : w.ownsRow base e size v n xs)
    (ad : Addr) (m c : Nat) (news : List Value) (hx : a.eval x = .slice (some ad) m c) (hl : news.length = m * size) (hnews : ∀ j u, news[j]? = some u → w.cell? (ad.add j) = some u) (h1 : ∀ u ∈ news, u.oneCell' = true)
    (h63 : n + m ≤ maxLen) (hbytes : (n + m) * bytes ≤ 140737488355328) (hbase : base ≤ w.heap.size)
    (h : ∀ v' w', w'.ownsRow base e size v' (n + m) (xs ++ news) → w.grownBy w' v.ownBlock → K (a.put o.dst v') w') : o.wp P a w K Q := by
  obtain ⟨v', w', hr, h2, h3, -, -⟩ := run_append_own_at (P := P) w base t o.type e i z size bytes ht hi hz hsize hby hzs hsz v n xs hown ad m c news hl hnews h1 h63 hbytes hbase
  have hk := h v' w' h2 h3
  unfold Oper.wp execOp
  simp only [ho, resolve, invoke, builtin, Sem.run_bind, Sem.run_pure, Result.andThen_ok, List.map_toArray, List.map_cons, List.map_nil, hs, hx, hr]
  exact hk
set_option maxHeartbeats 2000000 in
theorem spoilt_any {B : Nat} (b k cap : Nat) (xs : List Int) (w : World) (h : Cod B w b) (hne : 0 < xs.length) (hl : xs.length ≤ 3000) (hcap : xs.length ≤ cap)
    (hrow : ∀ j u, (xs.map (Value.int .u8))[j]? = some u → w.cell? ((⟨k, 0, none⟩ : Addr).add j) = some u) (hkb : k ≠ b) (hk : k < w.heap.size) (hbx : ∀ y ∈ xs, 0 ≤ y ∧ y < 256) :
    Calls Try.prog 15 #[.pointer (some ⟨b, 0, none⟩), .slice (some ⟨k, 0, none⟩) xs.length cap] w (SpPost B b xs.length w) := by
  have hbl := h.lt
  obtain ⟨ti, hi1, hi2, hi3, hi4⟩ := byteInfoB
  have HROW := Lib.hid hrow
  have HBX := Lib.hid hbx
  clear hrow hbx
  obtain ⟨n, hn⟩ : ∃ n, n = xs.length := ⟨_, rfl⟩
  have HN := Lib.hid hn
  rw [← hn] at hne hl hcap ⊢
  clear hn
  go_enter Try.func15, Try.ntmps15
  go_wp2_with (at_builtin; refine wpList_append_own_at _ rfl _ _ 22 rfl w.heap.size 5 ti (.int .u8 0) 1 1 Try.underlying22 hi1 hi2 hi3 hi4 rfl (by decide) _ _ _ rfl (World.ownsRow_nil _ _ _ _) ⟨k, 0, none⟩ n cap (xs.map (Value.int .u8)) rfl (by rw [List.length_map, Nat.mul_one]; exact HN.out.symm) HROW.out map_cell (by unfold maxLen; omega) (by omega) (by omega) ?_; intro v1 w1 hown hgrow hnil hloc; clear hnil hloc; rw [Nat.zero_add, List.nil_append] at hown; have hg1 : Gr w w1 := Gr.grownNew (Gr.refl _) hgrow (fun _ h => by cases h); clear hgrow; obtain ⟨g, c1, rfl, hgb, hgl, hc1⟩ := own_form hown hne)
  have d0 : ((n : Int) == 0) = false := by rw [beq_eq_false_iff_ne]; omega
  go_wp2_with fail
  refine (next_any b n _ (by omega) (by omega) (h.gr hg1)).mono ?_
  rintro e w2 ⟨x, rfl, x0, x1, hc2, he2⟩
  obtain ⟨x, rfl⟩ := Int.eq_ofNat_of_zero_le x0
  have hown := ownsRow_ex hown he2 hbl
  have hE := (Ex.ofGr (b := b) hg1).trans he2
  clear hg1 he2 hgl
  go_wp2_with fail
  refine (next_any b 4 _ (by omega) (by omega) hc2).mono ?_
  rintro e w3 ⟨z, rfl, z0, z1, hc3, he3⟩
  have hown := ownsRow_ex hown he3 hbl
  have hE := hE.trans he3
  clear he3 hc2
  by_cases hz : z = 0
  · subst hz
    go_wp2_with fail
    have hS : True := trivial
    have u0 : decide ((x : Int) < 0) = false := by rw [decide_eq_false_iff_not]; omega
    refine region_plain (fun _ => True) (by kernel_rfl) ?_
    refine take_at 0 (some 24) (v := ?v0) rfl rfl (by kernel_rfl) (by kernel_rfl) (by kernel_rfl) (by rfl) ?y0 hS ?t0
    case y0 =>
      intro w' hSw
      go_simp
      (try rw [if_pos (by omega)])
      (try with_reducible rfl)
    simp only [Act.put, List.setIfInBounds_toArray, List.set_cons_zero, List.set_cons_succ]
    refine take_at 1 (some 25) (v := ?v1) rfl rfl (by kernel_rfl) (by kernel_rfl) (by kernel_rfl) (by rfl) ?y1 hS ?t1
    case y1 =>
      intro w' hSw
      go_simp
      (try rw [if_pos (by omega)])
      (try with_reducible rfl)
    simp only [Act.put, List.setIfInBounds_toArray, List.set_cons_zero, List.set_cons_succ]
    refine take_at 2 (some 26) (v := ?v2) rfl rfl (by kernel_rfl) (by kernel_rfl) (by kernel_rfl) (by rfl) ?y2 hS ?t2
    case y2 =>
      intro w' hSw
      go_simp
      (try rw [if_pos (by omega)])
      (try with_reducible rfl)
    simp only [Act.put, List.setIfInBounds_toArray, List.set_cons_zero, List.set_cons_succ]
    refine take_at 3 (some 27) (v := ?v3) rfl rfl (by kernel_rfl) (by kernel_rfl) (by kernel_rfl) (by rfl) ?y3 hS ?t3
    case y3 =>
      intro w' hSw
      go_simp
      (try rw [if_pos (by omega)])
      (try with_reducible rfl)
    simp only [Act.put, List.setIfInBounds_toArray, List.set_cons_zero, List.set_cons_succ]
    refine take_at 4 (some 28) (v := ?v4) rfl rfl (by kernel_rfl) (by kernel_rfl) (by kernel_rfl) (by rfl) ?y4 hS ?t4
    case y4 =>
      intro w' hSw
      go_simp
      (try rw [if_pos (by omega)])
      (try with_reducible rfl)
    simp only [Act.put, List.setIfInBounds_toArray, List.set_cons_zero, List.set_cons_succ]
    have hw : IntKind.i64.wrap ((x : Int) + 1) = ((x + 1 : Nat) : Int) := by rw [IntWalk.i64_in _ (by omega)]; omega
    obtain ⟨ad, had, hlo⟩ : ∃ ad : Addr, (if cap = x + 1 then some (⟨k, 0, none⟩ : Addr) else some ⟨k, x + 1, none⟩) = some ad ∧ (x + 1 < n → ad = ⟨k, x + 1, none⟩) := by
      by_cases hc : cap = x + 1
      · exact ⟨_, if_pos hc, fun h => by omega⟩
      · exact ⟨_, if_neg hc, fun _ => rfl⟩
    refine take_at 5 (some 29) (v := .int .i64 ((x + 1 : Nat) : Int)) rfl rfl (by kernel_rfl) (by kernel_rfl) (by kernel_rfl) (by rfl) ?y5 hS ?t5
    case y5 =>
      intro w' hSw
      go_simp
    simp only [Act.put, List.setIfInBounds_toArray, List.set_cons_zero, List.set_cons_succ]
    refine take_at 6 (some 30) (v := .slice (some ad) (n - (x + 1)) (cap - (x + 1))) rfl rfl (by kernel_rfl) (by kernel_rfl) (by kernel_rfl) (by rfl) ?y6 hS ?t6
    case y6 =>
      intro w' hSw
      go_simp
      intro hc
      have := hc (by omega)
      omega
    simp only [Act.put, List.setIfInBounds_toArray, List.set_cons_zero, List.set_cons_succ]
    refine next_at 7 rfl (by kernel_rfl) (by rfl) (fun K hK => ?_)
    have hlt : n - (x + 1) = ((xs.map (Value.int .u8)).drop (x + 1)).length := by rw [List.length_drop, List.length_map, ← HN.out]
    refine oper_append _ _ 22 rfl w.heap.size 5 ti (.int .u8 0) 1 1 Try.underlying22 hi1 hi2 hi3 hi4 rfl (by decide) (.slice (some ⟨g, 0, none⟩) x c1) x ((xs.map (Value.int .u8)).take x) rfl (own_take (m := x) hown.drew (by omega)) ad (n - (x + 1)) (cap - (x + 1)) ((xs.map (Value.int .u8)).drop (x + 1)) rfl (by omega) ?_ (fun u hu => map_cell u (List.mem_of_mem_drop hu)) (by unfold maxLen; omega) (by omega) (by have := hE.size; simp; omega) ?_
    · intro j u hj
      rw [List.getElem?_drop] at hj
      have hjn : x + 1 + j < n := by
        rcases Nat.lt_or_ge (x + 1 + j) n with h | h
        · exact h
        · rw [List.getElem?_eq_none (by rw [List.length_map, ← HN.out]; omega)] at hj; cases hj
      have h1 := HROW.out _ _ hj
      rw [hlo (by omega)]
      rw [show (⟨k, x + 1, none⟩ : Addr).add j = (⟨k, 0, none⟩ : Addr).add (x + 1 + j) by simp [Addr.add]]
      rw [show (⟨k, 0, none⟩ : Addr).add (x + 1 + j) = ⟨k, x + 1 + j, none⟩ by simp [Addr.add]] at h1 ⊢
      exact (hE.cell k _ hkb hk).trans h1
    · intro v' w4 hown2 hgrow
      refine hK _ _ trivial ?_
      clear hK K
      simp only [Act.put, List.setIfInBounds_toArray]
      refine next_at 8 rfl (by kernel_rfl) (by rfl) (fun K hK => ?_)
      go_simp
      refine hK _ _ hS ?_
      clear hK K
      refine wpAnyH_done (by kernel_rfl) ?_ _
      refine qz_normal ?_
      go_wp2_with fail
      go_ret
      refine ⟨_, xs.take x ++ xs.drop (x + 1), rfl, ?_, ?_, hE.drew.grown hgrow (fun j hj => (Option.some.inj (show some g = some j from hj)) ▸ hgb), fun y hy => (List.mem_append.1 hy).elim (fun h => HBX.out y (List.mem_of_mem_take h)) (fun h => HBX.out y (List.mem_of_mem_drop h)), (hc3.gr (Gr.drew (Gr.refl _))).grown (g := g) hgrow (by omega)⟩
      · have e : (xs.take x ++ xs.drop (x + 1)).length = x + (n - (x + 1)) := by
          have := HN.out
          rw [List.length_append, List.length_take, List.length_drop]; omega
        rw [e, List.map_append, List.map_take, List.map_drop]
        exact hown2
      · have := HN.out
        rw [List.length_append, List.length_take, List.length_drop]; omega
  · have dz : (z == 0) = false := by rw [beq_eq_false_iff_ne]; exact hz
    by_cases hz1 : z = 1
    · subst hz1
      go_wp2_with fail
      refine (next_any b 256 _ (by omega) (by omega) hc3).mono ?_
      rintro e w4 ⟨y, rfl, y0, y1, hc4, he4⟩
      have hown := ownsRow_ex hown he4 hbl
      have hE := hE.trans he4
      have hs4 := hE.size
      clear he4 hc3
      go_wp2_with (at_builtin; refine wpList_append_own_at _ rfl _ _ 22 rfl w.heap.size 5 ti (.int .u8 0) 1 1 Try.underlying22 hi1 hi2 hi3 hi4 rfl (by decide) _ _ _ rfl (hown.alloc _) ⟨w4.heap.size, 0, none⟩ 1 1 [_] rfl rfl (cell_one_new _ _ _) (by intro u hu; simp at hu; subst hu; rfl) (by unfold maxLen; omega) (by omega) (by simp; omega) ?_; intro v' w5 hown2 hgrow hnil hloc)
      go_ret
      refine ⟨_, xs ++ [y], rfl, ?_, ?_, ?_, fun u hu => (List.mem_append.1 hu).elim (fun h => HBX.out u h) (fun h => by rw [List.mem_singleton] at h; subst h; exact ⟨y0, y1⟩), (hc4.gr (Gr.alloc (Gr.refl _) _)).grown (g := g) hgrow (by omega)⟩
      · rw [List.length_append, List.map_append, ← HN.out]
        exact hown2
      · simp; have := HN.out; omega
      · exact (hE.alloc _).grown hgrow (fun j hj => (Option.some.inj (show some g = some j from hj)) ▸ hgb)
    · have dz1 : (z == 1) = false := by rw [beq_eq_false_iff_ne]; exact hz1
      go_wp2_with fail
      have hX : ∃ X : Int, xs[x]? = some X := ⟨_, List.getElem?_eq_getElem (by have := HN.out; omega)⟩
      obtain ⟨X, hX⟩ := hX
      have hcl : w3.cell? ⟨g, x, none⟩ = some (.int .u8 X) := by rw [hown.cellAt x (by omega), List.getElem?_map, hX]; rfl
      have hS : True := trivial
      have ux : (x : Int) < (n : Int) := by omega
      refine region_plain (fun _ => True) (by kernel_rfl) ?_
      refine take_at 0 (some 40) (v := ?w0) rfl rfl (by kernel_rfl) (by kernel_rfl) (by kernel_rfl) (by rfl) ?x0 hS ?z0
      case x0 => intro w' hSw; go_simp; (try with_reducible rfl)
      simp only [Act.put, List.setIfInBounds_toArray, List.set_cons_zero, List.set_cons_succ]
      refine take_at 1 (some 41) (v := ?w1) rfl rfl (by kernel_rfl) (by kernel_rfl) (by kernel_rfl) (by rfl) ?x1 hS ?z1
      case x1 => intro w' hSw; go_simp; (try with_reducible rfl)
      simp only [Act.put, List.setIfInBounds_toArray, List.set_cons_zero, List.set_cons_succ]
      refine take_at 2 (some 42) (v := .pointer (some ⟨g, x, none⟩)) rfl rfl (by kernel_rfl) (by kernel_rfl) (by kernel_rfl) (by rfl) ?x2 hS ?z2
      case x2 => intro w' hSw; go_simp; (try with_reducible rfl)
      simp only [Act.put, List.setIfInBounds_toArray, List.set_cons_zero, List.set_cons_succ]
      refine take_at 4 (some 44) (v := ?w4) rfl rfl (by kernel_rfl) (by kernel_rfl) (by kernel_rfl) (by rfl) ?x4 hS ?z4
      case x4 => intro w' hSw; go_simp; (try with_reducible rfl)
      simp only [Act.put, List.setIfInBounds_toArray, List.set_cons_zero, List.set_cons_succ]
      refine next_two 3 5 rfl rfl (by kernel_rfl) (by rfl) (by rfl) (fun K hK => ?_) (fun K hK => ?_)
      · go_simp
        refine hK _ _ trivial ?_
        clear hK K
        refine next_at 5 rfl (by kernel_rfl) (by rfl) (fun K hK => ?_)
        go_simp
        refine (next_any b 255 _ (by omega) (by omega) (hc3.gr (Gr.drew (Gr.refl _)))).mono ?_
        rintro e w4 ⟨y, rfl, y0, y1, hc4, he4⟩
        have hown := ownsRow_ex hown.drew he4 hbl
        have hE := hE.drew.trans he4
        refine hK _ _ trivial ?_
        clear hK K hcl
        have hcl : w4.cell? ⟨g, x, none⟩ = some (.int .u8 X) := by rw [hown.cellAt x (by omega), List.getElem?_map, hX]; rfl
        have hfz := hown.frozenAt x
        refine next_at 6 rfl (by kernel_rfl) (by rfl) (fun K hK => ?_)
        go_simp
        refine hK _ _ hS ?_
        clear hK K
        refine next_at 7 rfl (by kernel_rfl) (by rfl) (fun K hK => ?_)
        go_simp
        refine hK _ _ hS ?_
        clear hK K
        refine next_at 8 rfl (by kernel_rfl) (by rfl) (fun K hK => ?_)
        go_simp
        refine hK _ _ hS ?_
        clear hK K
        refine next_at 9 rfl (by kernel_rfl) (by rfl) (fun K hK => ?_)
        go_simp
        refine hK _ _ hS ?_
        clear hK K
        refine next_at 10 rfl (by kernel_rfl) (by rfl) (fun K hK => ?_)
        go_simp
        refine hK _ _ trivial ?_
        clear hK K
        refine wpAnyH_done (by kernel_rfl) ?_ _
        refine qz_normal ?_
        go_wp2_with fail
        go_ret
        refine ⟨_, xs.set x (bits .xor .u8 X (IntKind.u8.wrap (IntKind.i64.wrap (1 + y)))), rfl, ?_, ?_, ?_, fun u hu => (List.mem_or_eq_of_mem_set hu).elim (fun h => HBX.out u h) (fun h => by subst h; exact xor_u8 _ _), hc4.grown (g := g) (hown.stored x _).2 (by omega)⟩
        · rw [List.length_set, ← HN.out, List.map_set]
          exact (hown.stored x _).1
        · rw [List.length_set]
          have := HN.out
          omega
        · exact hE.grown (hown.stored x _).2 (fun j hj => (Option.some.inj hj) ▸ hgb)
      · skip
        go_simp
        refine (next_any b 255 _ (by omega) (by omega) (hc3.gr (Gr.drew (Gr.refl _)))).mono ?_
        rintro e w4 ⟨y, rfl, y0, y1, hc4, he4⟩
        have hown := ownsRow_ex hown.drew he4 hbl
        have hE := hE.drew.trans he4
        refine hK _ _ trivial ?_
        clear hK K hcl
        have hcl : w4.cell? ⟨g, x, none⟩ = some (.int .u8 X) := by rw [hown.cellAt x (by omega), List.getElem?_map, hX]; rfl
        have hfz := hown.frozenAt x
        refine take_at 6 (some 46) (v := ?w6) rfl rfl (by kernel_rfl) (by kernel_rfl) (by kernel_rfl) (by rfl) ?x6 hS ?z6
        case x6 => intro w' hSw; go_simp; (try with_reducible rfl)
        simp only [Act.put, List.setIfInBounds_toArray, List.set_cons_zero, List.set_cons_succ]
        refine take_at 7 (some 47) (v := ?w7) rfl rfl (by kernel_rfl) (by kernel_rfl) (by kernel_rfl) (by rfl) ?x7 hS ?z7
        case x7 => intro w' hSw; go_simp; (try with_reducible rfl)
        simp only [Act.put, List.setIfInBounds_toArray, List.set_cons_zero, List.set_cons_succ]
        refine next_at 3 rfl (by kernel_rfl) (by rfl) (fun K hK => ?_)
        go_simp
        refine hK _ _ trivial ?_
        clear hK K
        refine next_at 8 rfl (by kernel_rfl) (by rfl) (fun K hK => ?_)
        go_simp
        refine hK _ _ hS ?_
        clear hK K
        refine next_at 9 rfl (by kernel_rfl) (by rfl) (fun K hK => ?_)
        go_simp
        refine hK _ _ hS ?_
        clear hK K
        refine next_at 10 rfl (by kernel_rfl) (by rfl) (fun K hK => ?_)
        go_simp
        refine hK _ _ trivial ?_
        clear hK K
        refine wpAnyH_done (by kernel_rfl) ?_ _
        refine qz_normal ?_
        go_wp2_with fail
        go_ret
        refine ⟨_, xs.set x (bits .xor .u8 X (IntKind.u8.wrap (IntKind.i64.wrap (1 + y)))), rfl, ?_, ?_, ?_, fun u hu => (List.mem_or_eq_of_mem_set hu).elim (fun h => HBX.out u h) (fun h => by subst h; exact xor_u8 _ _), hc4.grown (g := g) (hown.stored x _).2 (by omega)⟩
        · rw [List.length_set, ← HN.out, List.map_set]
          exact (hown.stored x _).1
        · rw [List.length_set]
          have := HN.out
          omega
        · exact hE.grown (hown.stored x _).2 (fun j hj => (Option.some.inj hj) ▸ hgb)
theorem wrap_byte' (x : Nat) (h : x < 256) : IntKind.u8.wrap (x : Int) = (x : Int) := by rw [IntKind.wrap_u8]; omega
theorem OwB.ex {base b : Nat} {w w' : World} {v : Value} {l : List Nat} (h : OwB base w v l) (g : Ex b w w') (hb : b < base) : OwB base w' v l := ⟨ownsRow_ex h.1 g hb, h.2⟩
theorem Rb.grown {p : Nat → Prop} {w w' : World} {v : Value} {l : List Nat} {row : Option Nat} (h : Rb p w v l) (g : w.grownBy w' row) (hr : ∀ k, p k → row ≠ some k) : Rb p w' v l := by
  obtain ⟨a, cap, e, hl, hc, hn, hx, H⟩ := h
  refine ⟨a, cap, e, hl, hc, hn, hx, fun i hi => ?_⟩
  obtain ⟨b, off, ea, hp, hcell⟩ := H i hi
  refine ⟨b, off, ea, hp, ?_⟩
  rw [World.cell?_of_block (w := w) (g.block b (World.block_lt_of_cell? _ _ hcell) (fun e => hr b hp e.symm))]
  exact hcell
theorem spoilt_nil {B : Nat} (b : Nat) (a : Option Addr) (cap : Nat) (w : World) (h : Cod B w b) (hr : Rb (fun _ => True) w (.slice a 0 cap) []) :
    Calls Try.prog 15 #[.pointer (some ⟨b, 0, none⟩), .slice a 0 cap] w fun e w' => ∃ v l, e = .returned v ∧ Rb (fun k => w.heap.size ≤ k) w' v l ∧ l.length ≤ 3000 ∧ Ex b w w' ∧ Cod B w' b := by
  have HR := Lib.hid hr
  have HC := Lib.hid h
  clear hr h
  go_enter Try.func15, Try.ntmps15
  go_wp2_with (at_builtin; refine wpList_app (base := w.heap.size) rfl (.const (.slice none 0 0)) (.tmp 7) rfl rfl (OwB.nil _ _) rfl HR.out (by simp) (Nat.le_refl _) ?_; intro v1 w1 ho g1; have hg1 : Gr w w1 := Gr.grownNew (Gr.refl _) g1 (fun _ h => by cases h); obtain ⟨a1, c1, rfl, -, -⟩ := ho.rb.form; clear ho g1)
  refine (next_any b 256 _ (by omega) (by omega) (HC.out.gr hg1)).mono ?_
  rintro e w2 ⟨x, rfl, x0, x1, hc2, he2⟩
  obtain ⟨x, rfl⟩ := Int.eq_ofNat_of_zero_le x0
  have hx := wrap_byte' x (by omega)
  have hsz : w.heap.size ≤ w2.heap.size := Nat.le_trans (Gr.size hg1) he2.size
  go_wp2_with fail
  go_ret
  refine ⟨_, [x], rfl, ⟨_, 1, rfl, by simp, by omega, (fun h => by cases h), (fun y hy => by rw [List.mem_singleton] at hy; omega), fun i hi => ⟨_, 0, rfl, hsz, ?_⟩⟩, by simp, ((Ex.ofGr hg1).trans he2).trans (Ex.ofGr (Gr.alloc (Gr.refl _) _)), hc2.gr (Gr.alloc (Gr.refl _) _)⟩
  have : i = 0 := by simp at hi; omega
  subst this
  simp
theorem spoilt_res {B base : Nat} (b : Nat) (v : Value) (l : List Nat) (w : World) (h : Cod B w b) (ho : OwB base w v l) (hl : l.length ≤ 1600) (hb : ∀ k, v.ownBlock = some k → k ≠ b) :
    Calls Try.prog 15 #[.pointer (some ⟨b, 0, none⟩), v] w fun e w' => ∃ v l, e = .returned v ∧ Rb (fun k => w.heap.size ≤ k) w' v l ∧ l.length ≤ 3000 ∧ Ex b w w' ∧ Cod B w' b := by
  by_cases h0 : 0 < l.length
  · obtain ⟨g, cap, rfl, hgb, hgl, hcap⟩ := ho.form h0
    have hx := ho.2
    have hlen : (l.map fun x : Nat => (x : Int)).length = l.length := by simp
    have hc := ho.1.cells (g := g) rfl
    have := spoilt_any b g cap (l.map fun x : Nat => (x : Int)) w h (by rw [hlen]; exact h0) (by rw [hlen]; omega) (by rw [hlen]; exact hcap) (by
      intro j u hj
      refine hc j u ?_
      rw [List.map_map] at hj
      exact hj) (hb g rfl) hgl (fun y hy => by
        rw [List.mem_map] at hy
        obtain ⟨n, hn, rfl⟩ := hy
        have := hx n hn; omega)
    rw [hlen] at this
    refine this.mono ?_
    rintro e w' ⟨v, ys, rfl, hown, hys, hE, hyb, hcd⟩
    refine ⟨v, ys.map Int.toNat, rfl, ?_, by simp; omega, hE, hcd⟩
    have e1 : ys.map (Value.int .u8) = cellsB (ys.map Int.toNat) := by
      unfold cellsB
      rw [List.map_map]
      refine List.map_congr_left (fun y hy => ?_)
      have := hyb y hy
      show Value.int .u8 y = Value.int .u8 (y.toNat : Int)
      rw [Int.toNat_of_nonneg this.1]
    have hO : OwB w.heap.size w' v (ys.map Int.toNat) := ⟨by rw [List.length_map, ← e1]; exact hown, fun x hx => by
      rw [List.mem_map] at hx
      obtain ⟨y, hy, rfl⟩ := hx
      have := hyb y hy; omega⟩
    exact hO.rb
  · have : l = [] := List.eq_nil_of_length_eq_zero (by omega)
    subst this
    have hr := ho.rb.any
    obtain ⟨a, cap, rfl, -, -⟩ := ho.rb.form
    exact spoilt_nil b a cap w h hr
end Go.Proofs.Ytlkhdbgknkjioaa
/- Probes from choices. -/
namespace Go.Proofs.Ytlkhdbgknkjioaa
open Go Go.RowKit Go.Sort
set_option maxRecDepth 100000
set_option linter.unusedVariables false
set_option linter.unusedSimpArgs false
theorem Cod.fillN {B b g : Nat} {w : World} (h : Cod B w b) (hg : b < g) (ws : List Value) (i : Nat) : Cod B (fillC w g i ws) b := by
  induction ws generalizing w i with
  | nil => exact h
  | cons v t ih => exact ih (h.set g i (by omega) (by have := h.base; omega) v) (i + 1)
theorem Ex.fillN {b g : Nat} {u v : World} (h : Ex b u v) (hg : u.heap.size ≤ g) (ws : List Value) (i : Nat) : Ex b u (fillC v g i ws) := by
  induction ws generalizing v i with
  | nil => exact h
  | cons x t ih => exact ih (h.setNew (p := ⟨g, i, none⟩) hg x) (i + 1)
def PtPost1 (B b : Nat) (w : World) (e : Ending) (w' : World) : Prop := ∃ x : Nat, e = .returned (.int .i64 x) ∧ (x = 1 ∨ x = 17 ∨ x = 6) ∧ Cod B w' b ∧ Ex b w w'
theorem proto_any {B : Nat} (b : Nat) (w : World) (h : Cod B w b) :
    Calls Try.prog 66 #[.pointer (some ⟨b, 0, none⟩)] w (PtPost1 B b w) := by
  have hbl := h.lt
  have hC := CL.new w [.int .i64 17, .int .i64 1, .int .i64 6] 3 _ rfl
  have hx := Ex.alloc (Ex.refl b w) (.cells #[.int .i64 17, .int .i64 1, .int .i64 6] 3)
  have hc := h.gr (Gr.alloc (Gr.refl w) (.cells #[.int .i64 17, .int .i64 1, .int .i64 6] 3))
  simp only [List.toArray] at hC
  go_enter Try.func66, Try.ntmps66
  go_wp2_with fail
  refine (next_nat b 3 _ (by omega) (by omega) hc).mono ?_
  rintro e w1 ⟨x, rfl, hx3, hc1, he1⟩
  replace hC := hC.ex he1 (by omega)
  replace hx := hx.trans he1
  obtain ⟨⟨c0, c1, c2⟩, -⟩ := hC.three
  have hx' : x = 0 ∨ x = 1 ∨ x = 2 := by omega
  clear he1 hC h hc hbl hx3
  rcases hx' with rfl | rfl | rfl
  · go_wp2_with fail
    go_ret
    exact ⟨17, rfl, by omega, hc1, hx⟩
  · go_wp2_with fail
    go_ret
    exact ⟨1, rfl, by omega, hc1, hx⟩
  · go_wp2_with fail
    go_ret
    exact ⟨6, rfl, by omega, hc1, hx⟩
def PxPost (B b : Nat) (w : World) (e : Ending) (w' : World) : Prop := ∃ (s d : Nat) (pr fl tg tt : Int), e = .returned (prV s d pr fl tg tt) ∧ s < 4294967296 ∧ d < 4294967296 ∧ Cod B w' b ∧ Ex b w w'
set_option maxHeartbeats 4000000 in
theorem probe_any {B : Nat} (b : Nat) (w : World) (h : Cod B w b) :
    Calls Try.prog 30 #[.pointer (some ⟨b, 0, none⟩)] w (PxPost B b w) := by
  have hbl := h.lt
  have hR := CL.new w [.int .u32 0, .int .u32 0, .int .i64 0, .int .i64 0, .int .i64 0, .int .i64 0] 65 _ rfl
  have hx := Ex.alloc (Ex.refl b w) (.cells #[.int .u32 0, .int .u32 0, .int .i64 0, .int .i64 0, .int .i64 0, .int .i64 0] 65)
  have hc := h.gr (Gr.alloc (Gr.refl w) (.cells #[.int .u32 0, .int .u32 0, .int .i64 0, .int .i64 0, .int .i64 0, .int .i64 0] 65))
  have hg1 := Nat.le_refl w.heap.size
  simp only [List.toArray] at hR
  clear h
  go_enter Try.func30, Try.ntmps30
  go_upto_region 1 with fail
  generalize w.alloc (.cells #[.int .u32 0, .int .u32 0, .int .i64 0, .int .i64 0, .int .i64 0, .int .i64 0] 65) = w1 at hR hx hc ⊢
  generalize hge : w.heap.size = g1 at hR ⊢
  rw [hge] at hg1 hbl
  replace hg1 : w.heap.size ≤ g1 := by omega
  have hrb : g1 ≠ b := by omega
  have hrl : b < g1 := hbl
  clear hge hbl
  go_wp2_with fail
  refine (address_any b _ hc).mono ?_
  rintro e w2 ⟨s, rfl, hs, hc', he⟩
  replace hx := hx.trans he
  replace hR := hR.ex he hrb
  replace hc := hc'
  clear he hc'
  go_wp2_with fail
  refine (address_any b _ hc).mono ?_
  rintro e w3 ⟨d, rfl, hd, hc', he⟩
  replace hx := hx.trans he
  replace hR := hR.ex he hrb
  replace hc := hc'
  clear he hc'
  go_wp2_with fail
  refine (proto_any b _ hc).mono ?_
  rintro e w4 ⟨pr, rfl, hpr, hc', he⟩
  replace hx := hx.trans he
  replace hR := hR.ex he hrb
  replace hc := hc'
  clear he hc'
  go_wp2_with fail
  refine (next_nat b 6 _ (by omega) (by omega) hc).mono ?_
  rintro e w5 ⟨fl, rfl, hfl, hc', he⟩
  replace hx := hx.trans he
  replace hR := hR.ex he hrb
  replace hc := hc'
  clear he hc'
  go_wp2_with fail
  refine (next_nat b 2000 _ (by omega) (by omega) hc).mono ?_
  rintro e w6 ⟨tg, rfl, htg, hc', he⟩
  replace hx := hx.trans he
  replace hR := hR.ex he hrb
  replace hc := hc'
  clear he hc'
  go_wp2_with fail
  refine (next_nat b 6 _ (by omega) (by omega) hc).mono ?_
  rintro e w7 ⟨t0, rfl, ht0, hc', he⟩
  obtain ⟨tt, htt⟩ : ∃ tt, tt = 1 + t0 := ⟨_, rfl⟩
  have eT : (1 : Int) + (t0 : Int) = (tt : Int) := by omega
  have eWT : IntKind.i64.wrap (tt : Int) = (tt : Int) := by rw [IntWalk.i64_in _ (by omega)]
  replace hx := hx.trans he
  replace hR := hR.ex he hrb
  replace hc := hc'
  clear he hc' htt ht0 htg hfl hpr
  have hP := CL.new w7 [.int .u32 s, .int .u32 d, .int .i64 pr, .int .i64 fl, .int .i64 tg, .int .i64 tt] 65 _ rfl
  have hgn := Gr.alloc (Gr.refl w7) (.cells #[.int .u32 s, .int .u32 d, .int .i64 pr, .int .i64 fl, .int .i64 tg, .int .i64 tt] 65)
  have hgp : g1 < w7.heap.size := hR.lt
  simp only [List.toArray] at hP
  go_upto_region 2 with fail
  generalize w7.alloc (.cells #[.int .u32 s, .int .u32 d, .int .i64 pr, .int .i64 fl, .int .i64 tg, .int .i64 tt] 65) = w8 at hP hgn ⊢
  generalize w7.heap.size = gp at hP hgp ⊢
  replace hR := hR.gr hgn
  replace hx := hx.trans (Ex.ofGr hgn)
  replace hc := hc.gr hgn
  clear hgn eT eWT
  have hpb : gp ≠ b := by omega
  go_wp2_with fail
  refine (next_nat b 12 _ (by omega) (by omega) hc).mono ?_
  rintro e w9 ⟨x, rfl, hx12, hc', he⟩
  replace hx := hx.trans he
  replace hR := hR.ex he hrb
  replace hP := hP.ex he hpb
  replace hc := hc'
  clear he hc' hx12
  by_cases x8 : x = 8
  · subst x8
    obtain ⟨⟨y0, y1, y2, y3, y4, y5⟩, u0, u1, u2, u3, u4, u5⟩ := CL.six hP
    go_upto_region 11 with fail
    clear y0 y1 y2 y3 y4 y5 u0 u1 u2 u3 u4 u5
    replace hP := hP.set 3 (.int .i64 1023) (by simp)
    replace hR := hR.other (s := gp) (o := 3) (.int .i64 1023) (by omega)
    replace hc := hc.set gp 3 (by omega) (by have := hc.base; omega) (.int .i64 1023)
    replace hx := hx.setNew (p := ⟨gp, 3, none⟩) (by show w.heap.size ≤ gp; omega) (.int .i64 1023)
    replace hP := hP.set 4 (.int .i64 65534) (by simp)
    replace hR := hR.other (s := gp) (o := 4) (.int .i64 65534) (by omega)
    replace hc := hc.set gp 4 (by omega) (by have := hc.base; omega) (.int .i64 65534)
    replace hx := hx.setNew (p := ⟨gp, 4, none⟩) (by show w.heap.size ≤ gp; omega) (.int .i64 65534)
    simp only [List.set_cons_succ, List.set_cons_zero] at hP
    generalize (w9.setCell ⟨gp, 3, none⟩ (.int .i64 1023)).setCell ⟨gp, 4, none⟩ (.int .i64 65534) = wA at hP hR hc hx ⊢
    obtain ⟨⟨y0, y1, y2, y3, y4, y5⟩, -⟩ := CL.six hP
    obtain ⟨⟨r0, r1, r2, r3, r4, r5⟩, s0, s1, s2, s3, s4, s5⟩ := CL.six hR
    go_wp2_with fail
    clear r0 r1 r2 r3 r4 r5 s0 s1 s2 s3 s4 s5 y0 y1 y2 y3 y4 y5 hP
    have hcF := hR.fill [.int .u32 s, .int .u32 d, .int .i64 pr, .int .i64 1023, .int .i64 65534, .int .i64 tt] rfl
    have hxF := hx.fillN hg1 [.int .u32 s, .int .u32 d, .int .i64 pr, .int .i64 1023, .int .i64 65534, .int .i64 tt] 0
    have hkF := hc.fillN hrl [.int .u32 s, .int .u32 d, .int .i64 pr, .int .i64 1023, .int .i64 65534, .int .i64 tt] 0
    simp only [fillC, Nat.reduceAdd] at hcF hxF hkF
    generalize (((((wA.setCell ⟨g1, 0, none⟩ (.int .u32 s)).setCell ⟨g1, 1, none⟩ (.int .u32 d)).setCell ⟨g1, 2, none⟩ (.int .i64 pr)).setCell ⟨g1, 3, none⟩ (.int .i64 1023)).setCell ⟨g1, 4, none⟩ (.int .i64 65534)).setCell ⟨g1, 5, none⟩ (.int .i64 tt) = wF at hcF hxF hkF ⊢
    obtain ⟨⟨c0, c1, c2, c3, c4, c5⟩, -⟩ := CL.six hcF
    exact bodyPost_ret (v := .agg #[.int .u32 s, .int .u32 d, .int .i64 pr, .int .i64 1023, .int .i64 65534, .int .i64 tt]) (by simp [results, Try.results30, go_sem, c0, c1, c2, c3, c4, c5]) rfl ⟨s, d, pr, 1023, 65534, tt, rfl, hs, hd, hkF, hxF⟩
  · skip
    by_cases x9 : x = 9
    · subst x9
      go_wp2_with fail
      refine (int_c b _ hc).mono ?_
      rintro e wa ⟨i, rfl, hi0, hi1, hc', he⟩
      replace hx := hx.trans he
      replace hR := hR.ex he hrb
      replace hP := hP.ex he hpb
      replace hc := hc'
      clear he hc' hi0 hi1
      go_wp2_with fail
      refine (int_c b _ hc).mono ?_
      rintro e wb ⟨j, rfl, hj0, hj1, hc', he⟩
      replace hx := hx.trans he
      replace hR := hR.ex he hrb
      replace hP := hP.ex he hpb
      replace hc := hc'
      clear he hc' hj0 hj1
      obtain ⟨⟨y0, y1, y2, y3, y4, y5⟩, u0, u1, u2, u3, u4, u5⟩ := CL.six hP
      go_upto_region 11 with fail
      clear y0 y1 y2 y3 y4 y5 u0 u1 u2 u3 u4 u5
      replace hP := hP.set 3 (.int .i64 i) (by simp)
      replace hR := hR.other (s := gp) (o := 3) (.int .i64 i) (by omega)
      replace hc := hc.set gp 3 (by omega) (by have := hc.base; omega) (.int .i64 i)
      replace hx := hx.setNew (p := ⟨gp, 3, none⟩) (by show w.heap.size ≤ gp; omega) (.int .i64 i)
      replace hP := hP.set 5 (.int .i64 j) (by simp)
      replace hR := hR.other (s := gp) (o := 5) (.int .i64 j) (by omega)
      replace hc := hc.set gp 5 (by omega) (by have := hc.base; omega) (.int .i64 j)
      replace hx := hx.setNew (p := ⟨gp, 5, none⟩) (by show w.heap.size ≤ gp; omega) (.int .i64 j)
      simp only [List.set_cons_succ, List.set_cons_zero] at hP
      generalize (wb.setCell ⟨gp, 3, none⟩ (.int .i64 i)).setCell ⟨gp, 5, none⟩ (.int .i64 j) = wA at hP hR hc hx ⊢
      obtain ⟨⟨y0, y1, y2, y3, y4, y5⟩, -⟩ := CL.six hP
      obtain ⟨⟨r0, r1, r2, r3, r4, r5⟩, s0, s1, s2, s3, s4, s5⟩ := CL.six hR
      go_wp2_with fail
      clear r0 r1 r2 r3 r4 r5 s0 s1 s2 s3 s4 s5 y0 y1 y2 y3 y4 y5 hP
      have hcF := hR.fill [.int .u32 s, .int .u32 d, .int .i64 pr, .int .i64 i, .int .i64 tg, .int .i64 j] rfl
      have hxF := hx.fillN hg1 [.int .u32 s, .int .u32 d, .int .i64 pr, .int .i64 i, .int .i64 tg, .int .i64 j] 0
      have hkF := hc.fillN hrl [.int .u32 s, .int .u32 d, .int .i64 pr, .int .i64 i, .int .i64 tg, .int .i64 j] 0
      simp only [fillC, Nat.reduceAdd] at hcF hxF hkF
      generalize (((((wA.setCell ⟨g1, 0, none⟩ (.int .u32 s)).setCell ⟨g1, 1, none⟩ (.int .u32 d)).setCell ⟨g1, 2, none⟩ (.int .i64 pr)).setCell ⟨g1, 3, none⟩ (.int .i64 i)).setCell ⟨g1, 4, none⟩ (.int .i64 tg)).setCell ⟨g1, 5, none⟩ (.int .i64 j) = wF at hcF hxF hkF ⊢
      obtain ⟨⟨c0, c1, c2, c3, c4, c5⟩, -⟩ := CL.six hcF
      exact bodyPost_ret (v := .agg #[.int .u32 s, .int .u32 d, .int .i64 pr, .int .i64 i, .int .i64 tg, .int .i64 j]) (by simp [results, Try.results30, go_sem, c0, c1, c2, c3, c4, c5]) rfl ⟨s, d, pr, i, tg, j, rfl, hs, hd, hkF, hxF⟩
    · skip
      by_cases x10 : x = 10
      · subst x10
        go_wp2_with fail
        refine (int_c b _ hc).mono ?_
        rintro e wa ⟨i, rfl, hi0, hi1, hc', he⟩
        replace hx := hx.trans he
        replace hR := hR.ex he hrb
        replace hP := hP.ex he hpb
        replace hc := hc'
        clear he hc' hi0 hi1
        obtain ⟨⟨y0, y1, y2, y3, y4, y5⟩, u0, u1, u2, u3, u4, u5⟩ := CL.six hP
        go_upto_region 11 with fail
        clear y0 y1 y2 y3 y4 y5 u0 u1 u2 u3 u4 u5
        replace hP := hP.set 4 (.int .i64 i) (by simp)
        replace hR := hR.other (s := gp) (o := 4) (.int .i64 i) (by omega)
        replace hc := hc.set gp 4 (by omega) (by have := hc.base; omega) (.int .i64 i)
        replace hx := hx.setNew (p := ⟨gp, 4, none⟩) (by show w.heap.size ≤ gp; omega) (.int .i64 i)
        simp only [List.set_cons_succ, List.set_cons_zero] at hP
        generalize wa.setCell ⟨gp, 4, none⟩ (.int .i64 i) = wA at hP hR hc hx ⊢
        obtain ⟨⟨y0, y1, y2, y3, y4, y5⟩, -⟩ := CL.six hP
        obtain ⟨⟨r0, r1, r2, r3, r4, r5⟩, s0, s1, s2, s3, s4, s5⟩ := CL.six hR
        go_wp2_with fail
        clear r0 r1 r2 r3 r4 r5 s0 s1 s2 s3 s4 s5 y0 y1 y2 y3 y4 y5 hP
        have hcF := hR.fill [.int .u32 s, .int .u32 d, .int .i64 pr, .int .i64 fl, .int .i64 i, .int .i64 tt] rfl
        have hxF := hx.fillN hg1 [.int .u32 s, .int .u32 d, .int .i64 pr, .int .i64 fl, .int .i64 i, .int .i64 tt] 0
        have hkF := hc.fillN hrl [.int .u32 s, .int .u32 d, .int .i64 pr, .int .i64 fl, .int .i64 i, .int .i64 tt] 0
        simp only [fillC, Nat.reduceAdd] at hcF hxF hkF
        generalize (((((wA.setCell ⟨g1, 0, none⟩ (.int .u32 s)).setCell ⟨g1, 1, none⟩ (.int .u32 d)).setCell ⟨g1, 2, none⟩ (.int .i64 pr)).setCell ⟨g1, 3, none⟩ (.int .i64 fl)).setCell ⟨g1, 4, none⟩ (.int .i64 i)).setCell ⟨g1, 5, none⟩ (.int .i64 tt) = wF at hcF hxF hkF ⊢
        obtain ⟨⟨c0, c1, c2, c3, c4, c5⟩, -⟩ := CL.six hcF
        exact bodyPost_ret (v := .agg #[.int .u32 s, .int .u32 d, .int .i64 pr, .int .i64 fl, .int .i64 i, .int .i64 tt]) (by simp [results, Try.results30, go_sem, c0, c1, c2, c3, c4, c5]) rfl ⟨s, d, pr, fl, i, tt, rfl, hs, hd, hkF, hxF⟩
      · skip
        by_cases x11 : x = 11
        · subst x11
          go_wp2_with fail
          refine (int_c b _ hc).mono ?_
          rintro e wa ⟨i, rfl, hi0, hi1, hc', he⟩
          replace hx := hx.trans he
          replace hR := hR.ex he hrb
          replace hP := hP.ex he hpb
          replace hc := hc'
          clear he hc' hi0 hi1
          obtain ⟨⟨y0, y1, y2, y3, y4, y5⟩, u0, u1, u2, u3, u4, u5⟩ := CL.six hP
          go_upto_region 11 with fail
          clear y0 y1 y2 y3 y4 y5 u0 u1 u2 u3 u4 u5
          replace hP := hP.set 2 (.int .i64 i) (by simp)
          replace hR := hR.other (s := gp) (o := 2) (.int .i64 i) (by omega)
          replace hc := hc.set gp 2 (by omega) (by have := hc.base; omega) (.int .i64 i)
          replace hx := hx.setNew (p := ⟨gp, 2, none⟩) (by show w.heap.size ≤ gp; omega) (.int .i64 i)
          simp only [List.set_cons_succ, List.set_cons_zero] at hP
          generalize wa.setCell ⟨gp, 2, none⟩ (.int .i64 i) = wA at hP hR hc hx ⊢
          obtain ⟨⟨y0, y1, y2, y3, y4, y5⟩, -⟩ := CL.six hP
          obtain ⟨⟨r0, r1, r2, r3, r4, r5⟩, s0, s1, s2, s3, s4, s5⟩ := CL.six hR
          go_wp2_with fail
          clear r0 r1 r2 r3 r4 r5 s0 s1 s2 s3 s4 s5 y0 y1 y2 y3 y4 y5 hP
          have hcF := hR.fill [.int .u32 s, .int .u32 d, .int .i64 i, .int .i64 fl, .int .i64 tg, .int .i64 tt] rfl
          have hxF := hx.fillN hg1 [.int .u32 s, .int .u32 d, .int .i64 i, .int .i64 fl, .int .i64 tg, .int .i64 tt] 0
          have hkF := hc.fillN hrl [.int .u32 s, .int .u32 d, .int .i64 i, .int .i64 fl, .int .i64 tg, .int .i64 tt] 0
          simp only [fillC, Nat.reduceAdd] at hcF hxF hkF
          generalize (((((wA.setCell ⟨g1, 0, none⟩ (.int .u32 s)).setCell ⟨g1, 1, none⟩ (.int .u32 d)).setCell ⟨g1, 2, none⟩ (.int .i64 i)).setCell ⟨g1, 3, none⟩ (.int .i64 fl)).setCell ⟨g1, 4, none⟩ (.int .i64 tg)).setCell ⟨g1, 5, none⟩ (.int .i64 tt) = wF at hcF hxF hkF ⊢
          obtain ⟨⟨c0, c1, c2, c3, c4, c5⟩, -⟩ := CL.six hcF
          exact bodyPost_ret (v := .agg #[.int .u32 s, .int .u32 d, .int .i64 i, .int .i64 fl, .int .i64 tg, .int .i64 tt]) (by simp [results, Try.results30, go_sem, c0, c1, c2, c3, c4, c5]) rfl ⟨s, d, i, fl, tg, tt, rfl, hs, hd, hkF, hxF⟩
        · skip
          have b8 : ((x : Int) == 8) = false := by simpa using (by omega : ¬ (x : Int) = 8)
          have b9 : ((x : Int) == 9) = false := by simpa using (by omega : ¬ (x : Int) = 9)
          have b10 : ((x : Int) == 10) = false := by simpa using (by omega : ¬ (x : Int) = 10)
          have b11 : ((x : Int) == 11) = false := by simpa using (by omega : ¬ (x : Int) = 11)
          clear x8 x9 x10 x11
          go_upto_region 11 with fail
          obtain ⟨⟨y0, y1, y2, y3, y4, y5⟩, -⟩ := CL.six hP
          obtain ⟨⟨r0, r1, r2, r3, r4, r5⟩, s0, s1, s2, s3, s4, s5⟩ := CL.six hR
          go_wp2_with fail
          clear r0 r1 r2 r3 r4 r5 s0 s1 s2 s3 s4 s5 y0 y1 y2 y3 y4 y5 hP
          have hcF := hR.fill [.int .u32 s, .int .u32 d, .int .i64 pr, .int .i64 fl, .int .i64 tg, .int .i64 tt] rfl
          have hxF := hx.fillN hg1 [.int .u32 s, .int .u32 d, .int .i64 pr, .int .i64 fl, .int .i64 tg, .int .i64 tt] 0
          have hkF := hc.fillN hrl [.int .u32 s, .int .u32 d, .int .i64 pr, .int .i64 fl, .int .i64 tg, .int .i64 tt] 0
          simp only [fillC, Nat.reduceAdd] at hcF hxF hkF
          generalize (((((w9.setCell ⟨g1, 0, none⟩ (.int .u32 s)).setCell ⟨g1, 1, none⟩ (.int .u32 d)).setCell ⟨g1, 2, none⟩ (.int .i64 pr)).setCell ⟨g1, 3, none⟩ (.int .i64 fl)).setCell ⟨g1, 4, none⟩ (.int .i64 tg)).setCell ⟨g1, 5, none⟩ (.int .i64 tt) = wF at hcF hxF hkF ⊢
          obtain ⟨⟨c0, c1, c2, c3, c4, c5⟩, -⟩ := CL.six hcF
          exact bodyPost_ret (v := .agg #[.int .u32 s, .int .u32 d, .int .i64 pr, .int .i64 fl, .int .i64 tg, .int .i64 tt]) (by simp [results, Try.results30, go_sem, c0, c1, c2, c3, c4, c5]) rfl ⟨s, d, pr, fl, tg, tt, rfl, hs, hd, hkF, hxF⟩
end Go.Proofs.Ytlkhdbgknkjioaa
/- Right probes from choices; the sanity check. -/
namespace Go.Proofs.Ytlkhdbgknkjioaa
open Go Go.RowKit Go.Sort
set_option maxRecDepth 100000
set_option linter.unusedVariables false
set_option linter.unusedSimpArgs false
def RtPost (B b : Nat) (w : World) (e : Ending) (w' : World) : Prop := ∃ P : Pr, e = .returned P.v ∧ P.ok ∧ Cod B w' b ∧ Ex b w w'
theorem CL.fillO {w : World} {g s : Nat} {vs : List Value} (h : CL w g vs) (hn : g ≠ s) (ws : List Value) (i : Nat) : CL (fillC w s i ws) g vs := by
  induction ws generalizing w i with
  | nil => exact h
  | cons v t ih => exact ih (h.other v hn) (i + 1)
set_option maxHeartbeats 2000000 in
theorem right_any {B : Nat} (b : Nat) (w : World) (h : Cod B w b) :
    Calls Try.prog 42 #[.pointer (some ⟨b, 0, none⟩)] w (RtPost B b w) := by
  have hbl := h.lt
  have hR := CL.new w [.int .u32 0, .int .u32 0, .int .i64 0, .int .i64 0, .int .i64 0, .int .i64 0] 65 _ rfl
  have hx := Ex.alloc (Ex.refl b w) (.cells #[.int .u32 0, .int .u32 0, .int .i64 0, .int .i64 0, .int .i64 0, .int .i64 0] 65)
  have hc := h.gr (Gr.alloc (Gr.refl w) (.cells #[.int .u32 0, .int .u32 0, .int .i64 0, .int .i64 0, .int .i64 0, .int .i64 0] 65))
  have hg1 := Nat.le_refl w.heap.size
  simp only [List.toArray] at hR
  clear h
  go_enter Try.func42, Try.ntmps42
  go_upto_region 1 with fail
  generalize w.alloc (.cells #[.int .u32 0, .int .u32 0, .int .i64 0, .int .i64 0, .int .i64 0, .int .i64 0] 65) = w1 at hR hx hc ⊢
  generalize hge : w.heap.size = g1 at hR ⊢
  rw [hge] at hg1 hbl
  replace hg1 : w.heap.size ≤ g1 := by omega
  have hrb : g1 ≠ b := by omega
  have hrl : b < g1 := hbl
  clear hge hbl
  go_wp2_with fail
  refine (probe_any b _ hc).mono ?_
  rintro e w2 ⟨s, d, pr, fl, tg, tt, rfl, hs, hd, hc', he⟩
  replace hx := hx.trans he
  replace hR := hR.ex he hrb
  replace hc := hc'
  have hgp : g1 < w2.heap.size := hR.lt
  have hCK := Lib.hid (fun w => rchk_any s d pr fl tg tt w)
  unfold prV at *
  clear he hc' 
  have hP := CL.new w2 [.int .u32 s, .int .u32 d, .int .i64 pr, .int .i64 fl, .int .i64 tg, .int .i64 tt] 65 _ rfl
  have hgn := Gr.alloc (Gr.refl w2) (.cells #[.int .u32 s, .int .u32 d, .int .i64 pr, .int .i64 fl, .int .i64 tg, .int .i64 tt] 65)
  simp only [List.toArray] at hP
  go_upto_region 2 with fail
  generalize w2.alloc (.cells #[.int .u32 s, .int .u32 d, .int .i64 pr, .int .i64 fl, .int .i64 tg, .int .i64 tt] 65) = w3 at hP hgn ⊢
  generalize w2.heap.size = gp at hP hgp ⊢
  replace hR := hR.gr hgn
  replace hx := hx.trans (Ex.ofGr hgn)
  replace hc := hc.gr hgn
  clear hgn
  have hpb : gp ≠ b := by omega
  obtain ⟨⟨y0, y1, y2, y3, y4, y5⟩, -⟩ := CL.six hP
  go_wp2_with fail
  refine (hCK.out _).mono ?_
  rintro e w4 ⟨rfl, hgn⟩
  clear y0 y1 y2 y3 y4 y5 hCK
  replace hP := hP.gr hgn
  replace hR := hR.gr hgn
  replace hx := hx.trans (Ex.ofGr hgn)
  replace hc := hc.gr hgn
  clear hgn
  by_cases h0 : prbE pr fl tg tt = 0
  · obtain ⟨Q, hQ, hv, -⟩ := pr_of hs hd h0
    have HV := Lib.hid (And.intro hQ hv)
    rw [h0]
    clear h0 hQ hv
    obtain ⟨⟨y0, y1, y2, y3, y4, y5⟩, -⟩ := CL.six hP
    obtain ⟨⟨r0, r1, r2, r3, r4, r5⟩, s0, s1, s2, s3, s4, s5⟩ := CL.six hR
    go_wp2_with fail
    clear r0 r1 r2 r3 r4 r5 s0 s1 s2 s3 s4 s5 y0 y1 y2 y3 y4 y5 hP
    have hcF := hR.fill [.int .u32 s, .int .u32 d, .int .i64 pr, .int .i64 fl, .int .i64 tg, .int .i64 tt] rfl
    have hxF := hx.fillN hg1 [.int .u32 s, .int .u32 d, .int .i64 pr, .int .i64 fl, .int .i64 tg, .int .i64 tt] 0
    have hkF := hc.fillN hrl [.int .u32 s, .int .u32 d, .int .i64 pr, .int .i64 fl, .int .i64 tg, .int .i64 tt] 0
    simp only [fillC, Nat.reduceAdd] at hcF hxF hkF
    generalize (((((w4.setCell ⟨g1, 0, none⟩ (.int .u32 s)).setCell ⟨g1, 1, none⟩ (.int .u32 d)).setCell ⟨g1, 2, none⟩ (.int .i64 pr)).setCell ⟨g1, 3, none⟩ (.int .i64 fl)).setCell ⟨g1, 4, none⟩ (.int .i64 tg)).setCell ⟨g1, 5, none⟩ (.int .i64 tt) = wF at hcF hxF hkF ⊢
    obtain ⟨⟨c0, c1, c2, c3, c4, c5⟩, -⟩ := CL.six hcF
    exact bodyPost_ret (v := .agg #[.int .u32 s, .int .u32 d, .int .i64 pr, .int .i64 fl, .int .i64 tg, .int .i64 tt]) (by simp [results, Try.results42, go_sem, c0, c1, c2, c3, c4, c5]) rfl ⟨Q, by rw [← HV.out.2]; rfl, HV.out.1, hkF, hxF⟩
  · have d1 : ((prbE pr fl tg tt : Int) != 0) = true := by rw [bne_iff_ne]; omega
    generalize prbE pr fl tg tt = E at *
    clear h0
    go_wp2_with fail
    replace hx := hx.drew
    replace hc := hc.gr (Gr.drew (Gr.refl w4))
    replace hR := hR.gr (Gr.drew (Gr.refl w4))
    replace hP := hP.gr (Gr.drew (Gr.refl w4))
    refine region_plain (fun W => Ex b w W ∧ CL W gp [.int .u32 s, .int .u32 d, .int .i64 pr, .int .i64 fl, .int .i64 tg, .int .i64 tt]) (by kernel_rfl) ?_
    clear d1
    have hS := And.intro hx hP
    clear hP
    generalize w4.drew = w5 at hS hx hc hR ⊢
    refine take_at 0 (some 9) (v := ?vr0) rfl rfl (by kernel_rfl) (by kernel_rfl) (by kernel_rfl) (by rfl) ?yr0 hS ?tr0
    case yr0 =>
      intro w' hSw
      obtain - := hSw
      go_simp
      (try with_reducible rfl)
    simp only [Act.put, List.setIfInBounds_toArray, List.set_cons_zero, List.set_cons_succ]
    refine take_at 1 (some 10) (v := ?vr1) rfl rfl (by kernel_rfl) (by kernel_rfl) (by kernel_rfl) (by rfl) ?yr1 hS ?tr1
    case yr1 =>
      intro w' hSw
      obtain ⟨⟨q0, q1, q2, q3, q4, q5⟩, -⟩ := CL.six hSw.2
      go_simp
      (try with_reducible rfl)
    simp only [Act.put, List.setIfInBounds_toArray, List.set_cons_zero, List.set_cons_succ]
    refine take_at 2 (some 11) (v := ?vr2) rfl rfl (by kernel_rfl) (by kernel_rfl) (by kernel_rfl) (by rfl) ?yr2 hS ?tr2
    case yr2 =>
      intro w' hSw
      obtain - := hSw
      go_simp
      (try with_reducible rfl)
    simp only [Act.put, List.setIfInBounds_toArray, List.set_cons_zero, List.set_cons_succ]
    refine take_at 3 (some 12) (v := ?vr3) rfl rfl (by kernel_rfl) (by kernel_rfl) (by kernel_rfl) (by rfl) ?yr3 hS ?tr3
    case yr3 =>
      intro w' hSw
      obtain ⟨⟨q0, q1, q2, q3, q4, q5⟩, -⟩ := CL.six hSw.2
      go_simp
      (try with_reducible rfl)
    simp only [Act.put, List.setIfInBounds_toArray, List.set_cons_zero, List.set_cons_succ]
    refine take_at 4 (some 13) (v := ?vr4) rfl rfl (by kernel_rfl) (by kernel_rfl) (by kernel_rfl) (by rfl) ?yr4 hS ?tr4
    case yr4 =>
      intro w' hSw
      obtain - := hSw
      go_simp
      (try with_reducible rfl)
    simp only [Act.put, List.setIfInBounds_toArray, List.set_cons_zero, List.set_cons_succ]
    refine take_at 6 (some 15) (v := ?vr6) rfl rfl (by kernel_rfl) (by kernel_rfl) (by kernel_rfl) (by rfl) ?yr6 hS ?tr6
    case yr6 =>
      intro w' hSw
      obtain - := hSw
      go_simp
      (try with_reducible rfl)
    simp only [Act.put, List.setIfInBounds_toArray, List.set_cons_zero, List.set_cons_succ]
    refine take_at 8 (some 17) (v := ?vr8) rfl rfl (by kernel_rfl) (by kernel_rfl) (by kernel_rfl) (by rfl) ?yr8 hS ?tr8
    case yr8 =>
      intro w' hSw
      obtain - := hSw
      go_simp
      (try with_reducible rfl)
    simp only [Act.put, List.setIfInBounds_toArray, List.set_cons_zero, List.set_cons_succ]
    refine take_at 10 (some 19) (v := ?vr10) rfl rfl (by kernel_rfl) (by kernel_rfl) (by kernel_rfl) (by rfl) ?yr10 hS ?tr10
    case yr10 =>
      intro w' hSw
      obtain - := hSw
      go_simp
      (try with_reducible rfl)
    simp only [Act.put, List.setIfInBounds_toArray, List.set_cons_zero, List.set_cons_succ]
    refine next_at 5 rfl (by kernel_rfl) (by rfl) (fun K hK => ?_)
    go_simp
    refine (proto_any b _ hc).mono ?_
    rintro e w5 ⟨n, rfl, hn, hc', he⟩
    replace hS := And.intro (hS.1.trans he) (hS.2.ex he hpb)
    replace hx := hx.trans he
    replace hR := hR.ex he hrb
    replace hc := hc'
    refine hK _ _ hS ?_
    clear hK K he hc'
    refine next_at 7 rfl (by kernel_rfl) (by rfl) (fun K hK => ?_)
    go_simp
    refine (next_nat b 4 _ (by omega) (by omega) hc).mono ?_
    rintro e w7 ⟨f, rfl, hf, hc', he⟩
    replace hS := And.intro (hS.1.trans he) (hS.2.ex he hpb)
    replace hx := hx.trans he
    replace hR := hR.ex he hrb
    replace hc := hc'
    refine hK _ _ hS ?_
    clear hK K he hc'
    refine next_at 9 rfl (by kernel_rfl) (by rfl) (fun K hK => ?_)
    go_simp
    refine (next_nat b 100 _ (by omega) (by omega) hc).mono ?_
    rintro e w9 ⟨t, rfl, ht, hc', he⟩
    replace hS := And.intro (hS.1.trans he) (hS.2.ex he hpb)
    replace hx := hx.trans he
    replace hR := hR.ex he hrb
    replace hc := hc'
    refine hK _ _ hS ?_
    clear hK K he hc'
    refine next_at 11 rfl (by kernel_rfl) (by rfl) (fun K hK => ?_)
    go_simp
    refine (next_nat b 5 _ (by omega) (by omega) hc).mono ?_
    rintro e w11 ⟨l, rfl, hl, hc', he⟩
    replace hS := And.intro (hS.1.trans he) (hS.2.ex he hpb)
    replace hx := hx.trans he
    replace hR := hR.ex he hrb
    replace hc := hc'
    refine hK _ _ hS ?_
    clear hK K he hc'
    obtain ⟨T, hT⟩ : ∃ T, T = 1 + l := ⟨_, rfl⟩
    have HQ := Lib.hid (⟨hs, hd, hn, by show f ≤ 1023; omega, by show t ≤ 65534; omega, by show 1 ≤ T; omega, by show T ≤ 255; omega⟩ : Pr.ok ⟨s, d, n, f, t, T⟩)
    have eT : (1 : Int) + (l : Int) = (T : Int) := by omega
    have eWT : IntKind.i64.wrap (T : Int) = (T : Int) := by rw [IntWalk.i64_in _ (by omega)]
    clear hT hn hf ht hl hs hd
    refine take_at 12 (some 21) (v := .int .i64 T) rfl rfl (by kernel_rfl) (by kernel_rfl) (by kernel_rfl) (by rfl) ?yB hS ?tB
    case yB =>
      intro w' hSw
      go_simp
      (try rw [eT])
      (try rw [eWT])
    simp only [Act.put, List.setIfInBounds_toArray, List.set_cons_zero, List.set_cons_succ]
    refine take_at 13 (some 22) (v := ?vr13) rfl rfl (by kernel_rfl) (by kernel_rfl) (by kernel_rfl) (by rfl) ?yr13 hS ?tr13
    case yr13 =>
      intro w' hSw
      obtain - := hSw
      go_simp
      (try with_reducible rfl)
    simp only [Act.put, List.setIfInBounds_toArray, List.set_cons_zero, List.set_cons_succ]
    have hcF := hR.fill [.int .u32 s, .int .u32 d, .int .i64 n, .int .i64 f, .int .i64 t, .int .i64 T] rfl
    have hxF := hx.fillN hg1 [.int .u32 s, .int .u32 d, .int .i64 n, .int .i64 f, .int .i64 t, .int .i64 T] 0
    have hkF := hc.fillN hrl [.int .u32 s, .int .u32 d, .int .i64 n, .int .i64 f, .int .i64 t, .int .i64 T] 0
    simp only [fillC, Nat.reduceAdd] at hcF hxF hkF
    have hSF := And.intro hxF (hS.2.fillO (s := g1) (by omega) [.int .u32 s, .int .u32 d, .int .i64 n, .int .i64 f, .int .i64 t, .int .i64 T] 0)
    simp only [fillC, Nat.reduceAdd] at hSF
    obtain ⟨⟨r0, r1, r2, r3, r4, r5⟩, s0, s1, s2, s3, s4, s5⟩ := CL.six hR
    refine next_at 14 rfl (by kernel_rfl) (by rfl) (fun K hK => ?_)
    go_simp
    refine hK _ _ hSF ?_
    clear hK K hSF hS r0 r1 r2 r3 r4 r5 s0 s1 s2 s3 s4 s5
    generalize (((((w11.setCell ⟨g1, 0, none⟩ (.int .u32 s)).setCell ⟨g1, 1, none⟩ (.int .u32 d)).setCell ⟨g1, 2, none⟩ (.int .i64 n)).setCell ⟨g1, 3, none⟩ (.int .i64 f)).setCell ⟨g1, 4, none⟩ (.int .i64 t)).setCell ⟨g1, 5, none⟩ (.int .i64 T) = wF at hcF hxF hkF ⊢
    refine wpAnyH_done (by kernel_rfl) ?_ _
    refine qz_normal ?_
    obtain ⟨⟨c0, c1, c2, c3, c4, c5⟩, -⟩ := CL.six hcF
    go_wp2_with fail
    exact bodyPost_ret (v := .agg #[.int .u32 s, .int .u32 d, .int .i64 n, .int .i64 f, .int .i64 t, .int .i64 T]) (by simp [results, Try.results42, go_sem, c0, c1, c2, c3, c4, c5]) rfl ⟨⟨s, d, n, f, t, T⟩, rfl, HQ.out, hkF, hxF⟩
theorem pawake_any (w : World) :
    Calls Try.prog 29 #[] w fun e w' => e = .returned (.bool true) ∧ Gr w w' := by
  have HK := Lib.hid (fun w => pKeyOf_ok ⟨1, 2, 17, 0, 7, 3⟩ ⟨by decide, by decide, by decide, by decide, by decide, by decide, by decide⟩ w)
  have e1 : Pr.v ⟨1, 2, 17, 0, 7, 3⟩ = .agg #[.int .u32 1, .int .u32 2, .int .i64 17, .int .i64 0, .int .i64 7, .int .i64 3] := rfl
  have e2 : kyV (Pr.src ⟨1, 2, 17, 0, 7, 3⟩) (Pr.dst ⟨1, 2, 17, 0, 7, 3⟩) (Pr.proto ⟨1, 2, 17, 0, 7, 3⟩) (Pr.a ⟨1, 2, 17, 0, 7, 3⟩) (Pr.b ⟨1, 2, 17, 0, 7, 3⟩) = .agg #[.int .u32 1, .int .u32 2, .int .i64 17, .int .i64 20000, .int .i64 33434] := rfl
  rw [e1, e2] at HK
  clear e1 e2
  go_enter Try.func29, Try.ntmps29
  go_wp2_with fail
  refine (HK.out _).mono ?_
  rintro e w1 ⟨rfl, hg⟩
  go_wp2_with fail
  go_ret
  exact ⟨rfl, hg.alloc _⟩
end Go.Proofs.Ytlkhdbgknkjioaa
