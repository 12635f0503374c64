/-
  DERIVED. GIVEN WITH THE SEED: THE CARDS: each row of YtjpjnbgfodlkcaaGreatDoorRows.lean that lists a variable, with what it lists TIED to the program's text (the seventh form; the later family's looks); each row that meets fmt, with fmt's text TOLD by the authors' own Lean function (tested against real Go, not proved from fmt's source: count such statements apart). THE CARD IS WHAT COUNTS. Prove the row's statement (the work); the ties are given (YtjpjnbgfodlkcaaGreatDoorTie.lean); close each card by the builder's one call (the guide's Derived/Test/ToyasCard.lean, 'card_holds'). Laid BY PROGRAM, IN A SANDBOX (cutbox-door.mjs). By AI agents, Wed Nov 11 2026. No macro, syntax, notation, axiom, sorry.
-/
import Derived.Test.YtjpjnbgfodlkcaaGreatDoorRows
import GoSem.ClaimSeven
namespace Go.Proofs.YtjpjnbgfodlkcaaGreatDoor
namespace Rows

/-- THE TIED CARD OF 'routescopelaw03.FractionExact'. -/
def fractionExactCard : Claim7 := { stood := { row := fractionExactRow, standIns := [], harness := (true, "c1dd81ff652592f9a287f40f1327566df7e475b7f200e5b3470d698500b92706"), looks := true }, kinds := [], alts := [], laidByText := true, laidKinds := [.data, .data, .data, .data, .sentinel, .sentinel, .pinned], laidTests := true, laidLooks := .later }
def FractionExactCardSaid : Prop := Claim7.holds Tryz.pinned (.plain (OpenSpec.ofChange fractionExactSpec)) fractionExactCard

/-- THE SECOND FORM's CARD OF 'routescopelaw03.FractionExact'. -/
def fractionExactUptoCard : Claim7 := { stood := { row := fractionExactUptoRow, standIns := [], harness := (true, "c1dd81ff652592f9a287f40f1327566df7e475b7f200e5b3470d698500b92706"), looks := true }, kinds := [], alts := [], laidByText := true, laidKinds := [.data, .data, .data, .data, .sentinel, .sentinel, .pinned], laidTests := true, laidLooks := .later }
def FractionExactUptoCardSaid : Prop := Claim7.holds Tryz.pinned (.plain (OpenSpec.upto fractionExactSpec)) fractionExactUptoCard
end Rows
end Go.Proofs.YtjpjnbgfodlkcaaGreatDoor
