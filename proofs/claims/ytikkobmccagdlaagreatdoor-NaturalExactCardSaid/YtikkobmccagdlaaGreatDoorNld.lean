/- What the listed variables give: the table that strconv.Itoa reads. -/
import Derived.Test.YtikkobmccagdlaaGreatDoorIns
import Derived.Test.YtikkobmccagdlaaGreatDoorStr
import Derived.WalkKit
import Derived.ProofKit
import Derived.Lay
import Derived.Lib.LaidTab
namespace Go.Proofs.YtikkobmccagdlaaGreatDoor
open Go Go.RowKit Go.ChangeShapes

theorem tabIs_at {P : Program} {W : World} {name : String} {k : IntKind} {zs : List Int} {g : Nat} {t e : TypeId} {n : Nat}
    (hg : P.globalNamed name = some g) (hty : (P.globals[g]?).map (·.type) = some t) (ht : P.underlying t = some (.array n e)) (he : P.underlying e = some (.int k)) (hce : P.cellsOf e = 1) (hct : P.cellsOf t = n) :
    ∀ (laid : List (String × DataW Unit)) (i : Nat) (ps : List MemPlace), DataW.LaidVars P W laid ps → laid[i]? = some (name, Lib.tabData k zs) → Lib.TabIs P W name k zs
  | [], i, _, _, h => by simp at h
  | x :: rest, 0, ps, h, hi => by
    simp only [List.getElem?_cons_zero, Option.some.injEq] at hi
    subst hi
    obtain ⟨g', t', cs, fuel, p, q, hg', ht', hvar, hd, _, _⟩ := h
    obtain rfl := Option.some.inj (hg.symm.trans hg')
    obtain rfl := Option.some.inj (hty.symm.trans ht')
    unfold Lib.TabIs
    rw [hvar, ← Lib.cells_of_tab ht he hce hct hd]
  | x :: rest, i + 1, ps, h, hi => by
    obtain ⟨g', t', cs, fuel, p, q, _, _, _, _, h1, h2⟩ := h
    first
      | exact tabIs_at hg hty ht he hce hct rest i _ h1 (by simpa using hi)
      | exact tabIs_at hg hty ht he hce hct rest i _ h2 (by simpa using hi)
theorem tab_of {laid : List (String × DataW Unit)} {W : World} (hp : laid.filter (fun x => x.2.handleName?.isSome) = []) (h : laidMetH Tryz.prog laid W) (i : Nat) (hi : laid[i]? = some ("internal/strconv.uint64pow10", Lib.tabData .u64 Lib.pow10Tab)) : Tab W := by
  unfold laidMetH at h
  rw [hp] at h
  obtain ⟨ps, hv, _⟩ := h
  exact tabIs_at (P := Tryz.prog) (g := 5) (t := 169) (e := 85) (n := 20) (by kernel_rfl) (by kernel_rfl) Tryz.underlying169 Tryz.underlying85 (by kernel_rfl) (by kernel_rfl) laid i ps hv hi
end Go.Proofs.YtikkobmccagdlaaGreatDoor
