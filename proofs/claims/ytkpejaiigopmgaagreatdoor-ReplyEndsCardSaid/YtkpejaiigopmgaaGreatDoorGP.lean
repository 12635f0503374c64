/- Several texts in one. -/
import Derived.Test.YtkpejaiigopmgaaGreatDoorYs
import Derived.Test.YtkpejaiigopmgaaGreatDoorRows
import Derived.WalkKit
import Derived.ProofKit
import Derived.OpenShut
import Derived.ChangeOld
import Derived.Below
import Derived.Handy
import Derived.Lay
import Derived.Lib.LaidTab
import Derived.ShutString
import Derived.Test.YtkpejaiigopmgaaGreatDoorGV
/- What the listed variables give: the table of special prefixes. -/
namespace Go.Proofs.YtkpejaiigopmgaaGreatDoor
open Go Go.RowKit Go.ChangeShapes
set_option maxRecDepth 100000
set_option linter.unusedVariables false

theorem chunk (k : Nat) (cs : List Value) (j : Nat) : cs.drop j = (cs.drop j).take k ++ cs.drop (j + k) := by
  have := List.take_append_drop k (cs.drop j)
  rw [List.drop_drop] at this
  exact this.symm
theorem spElem {H : Type} {enc : TypeId × Value → H} {w : World} {base : Nat} {sp : Nat → Bool} {held : Bool} {fuel : Nat} {cs : List Value} {y : DataW H × List MemPlace} {p q r : Int}
    (h : DataW.trod enc Tryz.prog w base sp held fuel 113 cs = some y) (hy : y.1 = .agg [.agg [.lit (.int .u32 p), .lit (.int .i64 q)], .lit (.int .i64 r)]) :
    cs = [.int .u32 p, .int .i64 q, .int .i64 r] := by
  have hl3 : Tryz.prog.cellsOf 113 = 3 := by kernel_rfl
  have hl2 : Tryz.prog.cellsOf 111 = 2 := by kernel_rfl
  have hl1 : Tryz.prog.cellsOf 24 = 1 := by kernel_rfl
  have hl0 : Tryz.prog.cellsOf 3 = 1 := by kernel_rfl
  obtain ⟨y0, y1, n, rfl, hlen, h0, h1⟩ := trod_struct2 Tryz.underlying113 h
  obtain ⟨z0, z1, m, rfl, hlen2, g0, g1⟩ := trod_struct2 Tryz.underlying111 h0
  obtain ⟨a, ha, rfl, _⟩ := DataW.trod_int Tryz.underlying24 g0
  obtain ⟨b, hb, rfl, _⟩ := DataW.trod_int Tryz.underlying3 g1
  obtain ⟨c, hc, rfl, _⟩ := DataW.trod_int Tryz.underlying3 h1
  rw [hl3] at hlen
  match cs, hlen with
  | [x0, x1, x2], _ =>
    simp only [hl2, hl1, hl0] at ha hb hc
    simp at ha hb hc hy
    simp [ha, hb, hc, hy]
theorem spAt {H : Type} {enc : TypeId × Value → H} {w : World} {base : Nat} {sp : Nat → Bool} {held : Bool} {fuel : Nat} {cs : List Value} {p : List MemPlace}
    (h : DataW.trod enc Tryz.prog w base sp held fuel 114 cs = some (Rows.laid_routescope_address_specials, p)) : cs = spCells.toList := by
  have hl3 : Tryz.prog.cellsOf 113 = 3 := by kernel_rfl
  have hl24 : Tryz.prog.cellsOf 114 = 24 := by kernel_rfl
  obtain ⟨xs, m, _, hx, hlen, hn, hi⟩ := DataW.trod_array Tryz.underlying114 h
  rw [hl24] at hlen
  simp only [hl3] at hi
  have hm : Rows.laid_routescope_address_specials = DataW.agg (xs.map (·.1)) := congrArg Prod.fst hx
  obtain ⟨x0, x1, x2, x3, x4, x5, x6, x7, rfl⟩ : ∃ x0 x1 x2 x3 x4 x5 x6 x7, xs = [x0, x1, x2, x3, x4, x5, x6, x7] := by
    match xs, hn with
    | [x0, x1, x2, x3, x4, x5, x6, x7], _ => exact ⟨_, _, _, _, _, _, _, _, rfl⟩
  · simp only [Rows.laid_routescope_address_specials, List.map_cons, List.map_nil, DataW.agg.injEq, List.cons.injEq, and_true] at hm
    obtain ⟨e0, e1, e2, e3, e4, e5, e6, e7⟩ := hm
    have c0 := spElem (hi 0 (by omega)) e0.symm
    have c1 := spElem (hi 1 (by omega)) e1.symm
    have c2 := spElem (hi 2 (by omega)) e2.symm
    have c3 := spElem (hi 3 (by omega)) e3.symm
    have c4 := spElem (hi 4 (by omega)) e4.symm
    have c5 := spElem (hi 5 (by omega)) e5.symm
    have c6 := spElem (hi 6 (by omega)) e6.symm
    have c7 := spElem (hi 7 (by omega)) e7.symm
    have hz : cs.drop 24 = [] := List.drop_eq_nil_of_le (by omega)
    have : cs = cs.drop 0 := rfl
    rw [this, chunk 3 cs 0, chunk 3 cs (0 + 3), chunk 3 cs (0 + 3 + 3), chunk 3 cs (0 + 3 + 3 + 3), chunk 3 cs (0 + 3 + 3 + 3 + 3), chunk 3 cs (0 + 3 + 3 + 3 + 3 + 3), chunk 3 cs (0 + 3 + 3 + 3 + 3 + 3 + 3), chunk 3 cs (0 + 3 + 3 + 3 + 3 + 3 + 3 + 3)]
    simp only [Nat.zero_mul, Nat.zero_add, Nat.reduceMul, Nat.reduceAdd] at c0 c1 c2 c3 c4 c5 c6 c7 ⊢
    rw [c0, c1, c2, c3, c4, c5, c6, c7, hz]
    rfl
theorem spVar {W : World} : ∀ (laid : List (String × DataW Unit)) (i : Nat) (ps : List MemPlace), DataW.LaidVars Tryz.prog W laid ps → laid[i]? = some ("routescope/address.specials", Rows.laid_routescope_address_specials) → W.var? Tryz.prog "routescope/address.specials" = some spCells
  | [], i, _, _, h => by simp at h
  | x :: rest, 0, ps, h, hi => by
    simp only [List.getElem?_cons_zero, Option.some.injEq] at hi
    subst hi
    obtain ⟨g', t', cs, fuel, p, q, hg', ht', hvar, hd, _, _⟩ := h
    obtain rfl := Option.some.inj ((show Tryz.prog.globalNamed "routescope/address.specials" = some 0 by kernel_rfl).symm.trans hg')
    obtain rfl := Option.some.inj ((show (Tryz.prog.globals[0]?).map (·.type) = some 114 by kernel_rfl).symm.trans ht')
    rw [hvar]
    exact congrArg some (Array.toList_inj.1 (spAt hd))
  | x :: rest, i + 1, ps, h, hi => by
    obtain ⟨g', t', cs, fuel, p, q, _, _, _, _, h1, h2⟩ := h
    first
      | exact spVar rest i _ h1 (by simpa using hi)
      | exact spVar rest i _ h2 (by simpa using hi)
theorem sp_of {laid : List (String × DataW Unit)} {W : World} (hp : laid.filter (fun x => x.2.handleName?.isSome) = []) (h : laidMetH Tryz.prog laid W) (i : Nat) (hi : laid[i]? = some ("routescope/address.specials", Rows.laid_routescope_address_specials)) : SpTab W := by
  unfold laidMetH at h
  rw [hp] at h
  obtain ⟨ps, hv, _⟩ := h
  have hw := spVar laid i ps hv hi
  unfold World.var? at hw
  rw [show Tryz.prog.globalNamed "routescope/address.specials" = some 0 by kernel_rfl] at hw
  simp only [Option.bind_some] at hw
  split at hw
  · rename_i cs t fr hcs
    obtain rfl := Option.some.inj hw
    exact ⟨t, fr, hcs⟩
  · cases hw
end Go.Proofs.YtkpejaiigopmgaaGreatDoor
/- What every claim needs of the seat. -/
namespace Go.Proofs.YtkpejaiigopmgaaGreatDoor
open Go Go.RowKit Go.ChangeShapes

theorem own : ownKnob Tryz.prog.godebug = none := by kernel_rfl
theorem laidOut : laidOutB Tryz.prog = true := by kernel_rfl
end Go.Proofs.YtkpejaiigopmgaaGreatDoor
/- What comes in: slices of bytes. -/
namespace Go.Proofs.YtkpejaiigopmgaaGreatDoor
open Go Go.RowKit Go.ChangeShapes

/-- a slice of integers that came in -/
def IsRow (k : IntKind) (w : World) (a : Option Addr) (len cap : Nat) (zs : List Int) : Prop :=
  (a = none ∧ len = 0 ∧ cap = 0 ∧ zs = []) ∨
  ∃ x, a = some x ∧ len ≤ cap ∧ cap ≤ maxLen ∧ zs.length = cap ∧ (∀ i, i < zs.length → w.cell? (x.add i) = some (.int k (zs.getD i 0))) ∧ ∀ n ∈ zs, (Lit.int k n).wf = true
theorem bytes_of {W : World} {a : Option Addr} {len cap : Nat} {zs : List Int} (h : IsRow .u8 W a len cap zs) : BytesV W.heap.size W (.slice a len cap) len ∧ len ≤ 9223372036854775807 := by
  rcases h with ⟨rfl, rfl, rfl, rfl⟩ | ⟨x, rfl, hl, hm, hz, hc, hw⟩
  · exact ⟨⟨none, 0, rfl, by omega, fun i hi => by omega, by omega, fun h => by omega⟩, by omega⟩
  · unfold maxLen at hm
    refine ⟨⟨some x, cap, rfl, hl, ?_, by omega, ?_⟩, by omega⟩
    · intro i hi
      obtain ⟨b, off, rfl, hcell⟩ := ints_at hc (by omega)
      refine ⟨b, off, zs.getD i 0, rfl, hcell i (by omega), ?_⟩
      have hmem : zs.getD i 0 ∈ zs := by
        rw [List.getD_eq_getElem?_getD, List.getElem?_eq_getElem (by omega)]; exact List.getElem_mem _
      have := bounds_u8 (hw _ hmem)
      omega
    · intro h0 y hy
      obtain rfl := Option.some.inj hy
      obtain ⟨b, off, rfl, hcell⟩ := ints_at hc (by omega)
      exact World.block_lt_of_cell? W _ (hcell 0 (by omega))
end Go.Proofs.YtkpejaiigopmgaaGreatDoor
