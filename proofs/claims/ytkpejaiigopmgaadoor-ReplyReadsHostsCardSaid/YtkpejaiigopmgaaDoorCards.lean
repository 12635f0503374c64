/-
  DERIVED. GIVEN WITH THE SEED: THE CARDS: each row of YtkpejaiigopmgaaDoorRows.lean that lists a variable, with what it lists TIED to the program's text (the seventh form; the later family's looks); each row that meets fmt, with fmt's text TOLD by the authors' own Lean function (tested against real Go, not proved from fmt's source: count such statements apart). THE CARD IS WHAT COUNTS. Prove the row's statement (the work); the ties are given (YtkpejaiigopmgaaDoorTie.lean); close each card by the builder's one call (the guide's Derived/Test/ToyasCard.lean, 'card_holds'). Laid BY PROGRAM, IN A SANDBOX (cutbox-door.mjs). By AI agents, Wed Nov 11 2026. No macro, syntax, notation, axiom, sorry.
-/
import Derived.Test.YtkpejaiigopmgaaDoorRows
import GoSem.ClaimSeven
namespace Go.Proofs.YtkpejaiigopmgaaDoor
namespace Rows

/-- THE TIED CARD OF 'routescopelaw08.ReplyReadsErrors'. -/
def replyReadsErrorsCard : Claim7 := { stood := { row := replyReadsErrorsRow, standIns := [], harness := (true, "5d38b4571073feec4d7e314094507a4bfca3ce38eb71b1152f58a6b1f40a3181"), looks := false }, kinds := [], alts := [], laidByText := true, laidKinds := [.data], laidTests := true, laidLooks := .later }
def ReplyReadsErrorsCardSaid : Prop := Claim7.holds Tryd.pinned (.plain (OpenSpec.ofChange replyReadsErrorsSpec)) replyReadsErrorsCard

/-- THE TIED CARD OF 'routescopelaw08.ReplyReadsHosts'. -/
def replyReadsHostsCard : Claim7 := { stood := { row := replyReadsHostsRow, standIns := [], harness := (true, "5d38b4571073feec4d7e314094507a4bfca3ce38eb71b1152f58a6b1f40a3181"), looks := false }, kinds := [], alts := [], laidByText := true, laidKinds := [.data], laidTests := true, laidLooks := .later }
def ReplyReadsHostsCardSaid : Prop := Claim7.holds Tryd.pinned (.plain (OpenSpec.ofChange replyReadsHostsSpec)) replyReadsHostsCard

/-- THE SECOND FORM's CARD OF 'routescopelaw08.ReplyReadsErrors'. -/
def replyReadsErrorsUptoCard : Claim7 := { stood := { row := replyReadsErrorsUptoRow, standIns := [], harness := (true, "5d38b4571073feec4d7e314094507a4bfca3ce38eb71b1152f58a6b1f40a3181"), looks := false }, kinds := [], alts := [], laidByText := true, laidKinds := [.data], laidTests := true, laidLooks := .later }
def ReplyReadsErrorsUptoCardSaid : Prop := Claim7.holds Tryd.pinned (.plain (OpenSpec.upto replyReadsErrorsSpec)) replyReadsErrorsUptoCard

/-- THE SECOND FORM's CARD OF 'routescopelaw08.ReplyReadsHosts'. -/
def replyReadsHostsUptoCard : Claim7 := { stood := { row := replyReadsHostsUptoRow, standIns := [], harness := (true, "5d38b4571073feec4d7e314094507a4bfca3ce38eb71b1152f58a6b1f40a3181"), looks := false }, kinds := [], alts := [], laidByText := true, laidKinds := [.data], laidTests := true, laidLooks := .later }
def ReplyReadsHostsUptoCardSaid : Prop := Claim7.holds Tryd.pinned (.plain (OpenSpec.upto replyReadsHostsSpec)) replyReadsHostsUptoCard
end Rows
end Go.Proofs.YtkpejaiigopmgaaDoor
