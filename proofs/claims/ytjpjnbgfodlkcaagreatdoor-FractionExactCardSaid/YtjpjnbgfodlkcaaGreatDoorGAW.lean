/- Several texts in one. -/
import Derived.Test.YtjpjnbgfodlkcaaGreatDoorRows
import Derived.WalkKit
import Derived.ProofKit
import Derived.OpenShut
import Derived.ShutString
import Derived.ChangeOld
import Derived.Below
import Derived.Handy
import Derived.Test.YtjpjnbgfodlkcaaGreatDoorGAO
import Derived.Lay
import Derived.Lib.LaidTab
import Derived.Test.YtjpjnbgfodlkcaaGreatDoorGAK
/- What every claim needs of the seat. -/
namespace Go.Proofs.YtjpjnbgfodlkcaaGreatDoor
open Go Go.RowKit Go.ChangeShapes

theorem own : ownKnob Tryz.prog.godebug = none := by kernel_rfl
theorem laidOut : laidOutB Tryz.prog = true := by kernel_rfl
end Go.Proofs.YtjpjnbgfodlkcaaGreatDoor
/- What the listed variables give: the table that strconv.Itoa reads. -/
namespace Go.Proofs.YtjpjnbgfodlkcaaGreatDoor
open Go Go.RowKit Go.ChangeShapes

theorem tabIs_at {P : Program} {W : World} {name : String} {k : IntKind} {zs : List Int} {g : Nat} {t e : TypeId} {n : Nat}
    (hg : P.globalNamed name = some g) (hty : (P.globals[g]?).map (·.type) = some t) (ht : P.underlying t = some (.array n e)) (he : P.underlying e = some (.int k)) (hce : P.cellsOf e = 1) (hct : P.cellsOf t = n) :
    ∀ (laid : List (String × DataW Unit)) (i : Nat) (ps : List MemPlace), DataW.LaidVars P W laid ps → laid[i]? = some (name, Lib.tabData k zs) → Lib.TabIs P W name k zs
  | [], i, _, _, h => by simp at h
  | x :: rest, 0, ps, h, hi => by
    simp only [List.getElem?_cons_zero, Option.some.injEq] at hi
    subst hi
    obtain ⟨g', t', cs, fuel, p, q, hg', ht', hvar, hd, _, _⟩ := h
    obtain rfl := Option.some.inj (hg.symm.trans hg')
    obtain rfl := Option.some.inj (hty.symm.trans ht')
    unfold Lib.TabIs
    rw [hvar, ← Lib.cells_of_tab ht he hce hct hd]
  | x :: rest, i + 1, ps, h, hi => by
    obtain ⟨g', t', cs, fuel, p, q, _, _, _, _, h1, h2⟩ := h
    first
      | exact tabIs_at hg hty ht he hce hct rest i _ h1 (by simpa using hi)
      | exact tabIs_at hg hty ht he hce hct rest i _ h2 (by simpa using hi)
theorem tab_of {laid : List (String × DataW Unit)} {W : World} (hp : laid.filter (fun x => x.2.handleName?.isSome) = []) (h : laidMetH Tryz.prog laid W) (i : Nat) (hi : laid[i]? = some ("internal/strconv.uint64pow10", Lib.tabData .u64 Lib.pow10Tab)) : Tab W := by
  unfold laidMetH at h
  rw [hp] at h
  obtain ⟨ps, hv, _⟩ := h
  exact tabIs_at (P := Tryz.prog) (g := 5) (t := 165) (e := 88) (n := 20) (by kernel_rfl) (by kernel_rfl) Tryz.underlying165 Tryz.underlying88 (by kernel_rfl) (by kernel_rfl) laid i ps hv hi
end Go.Proofs.YtjpjnbgfodlkcaaGreatDoor
/- What comes in: slices of bytes. -/
namespace Go.Proofs.YtjpjnbgfodlkcaaGreatDoor
open Go Go.RowKit Go.ChangeShapes

/-- a slice of integers that came in -/
def IsRow (k : IntKind) (w : World) (a : Option Addr) (len cap : Nat) (zs : List Int) : Prop :=
  (a = none ∧ len = 0 ∧ cap = 0 ∧ zs = []) ∨
  ∃ x, a = some x ∧ len ≤ cap ∧ cap ≤ maxLen ∧ zs.length = cap ∧ (∀ i, i < zs.length → w.cell? (x.add i) = some (.int k (zs.getD i 0))) ∧ ∀ n ∈ zs, (Lit.int k n).wf = true
theorem bytes_of {W : World} {a : Option Addr} {len cap : Nat} {zs : List Int} (h : IsRow .u8 W a len cap zs) : BytesV W.heap.size W (.slice a len cap) len ∧ len ≤ 9223372036854775807 := by
  rcases h with ⟨rfl, rfl, rfl, rfl⟩ | ⟨x, rfl, hl, hm, hz, hc, hw⟩
  · exact ⟨⟨none, 0, rfl, by omega, fun i hi => by omega, by omega, fun h => by omega⟩, by omega⟩
  · unfold maxLen at hm
    refine ⟨⟨some x, cap, rfl, hl, ?_, by omega, ?_⟩, by omega⟩
    · intro i hi
      obtain ⟨b, off, rfl, hcell⟩ := ints_at hc (by omega)
      refine ⟨b, off, zs.getD i 0, rfl, hcell i (by omega), ?_⟩
      have hmem : zs.getD i 0 ∈ zs := by
        rw [List.getD_eq_getElem?_getD, List.getElem?_eq_getElem (by omega)]; exact List.getElem_mem _
      have := bounds_u8 (hw _ hmem)
      omega
    · intro h0 y hy
      obtain rfl := Option.some.inj hy
      obtain ⟨b, off, rfl, hcell⟩ := ints_at hc (by omega)
      exact World.block_lt_of_cell? W _ (hcell 0 (by omega))
end Go.Proofs.YtjpjnbgfodlkcaaGreatDoor
