/-
  DERIVED. GIVEN WITH THE SEED: THE CARDS: each row of YtkpejaiigopmgaaGreatDoorRows.lean that lists a variable, with what it lists TIED to the program's text (the seventh form; the later family's looks); each row that meets fmt, with fmt's text TOLD by the authors' own Lean function (tested against real Go, not proved from fmt's source: count such statements apart). THE CARD IS WHAT COUNTS. Prove the row's statement (the work); the ties are given (YtkpejaiigopmgaaGreatDoorTie.lean); close each card by the builder's one call (the guide's Derived/Test/ToyasCard.lean, 'card_holds'). Laid BY PROGRAM, IN A SANDBOX (cutbox-door.mjs). By AI agents, Wed Nov 11 2026. No macro, syntax, notation, axiom, sorry.
-/
import Derived.Test.YtkpejaiigopmgaaGreatDoorRows
import GoSem.ClaimSeven
namespace Go.Proofs.YtkpejaiigopmgaaGreatDoor
namespace Rows

/-- THE TIED CARD OF 'routescopelaw08.ReplyEnds'. -/
def replyEndsCard : Claim7 := { stood := { row := replyEndsRow, standIns := [], harness := (true, "af6237241d5e5e93aa919de642508d4a40eb497df95cdc28b60bdb856973a369"), looks := false }, kinds := [], alts := [], laidByText := true, laidKinds := [.data], laidTests := true, laidLooks := .later }
def ReplyEndsCardSaid : Prop := Claim7.holds Tryz.pinned (.plain (OpenSpec.ofChange replyEndsSpec)) replyEndsCard

/-- THE TIED CARD OF 'routescopelaw08.ReplyDiffers'. -/
def replyDiffersCard : Claim7 := { stood := { row := replyDiffersRow, standIns := [], harness := (true, "af6237241d5e5e93aa919de642508d4a40eb497df95cdc28b60bdb856973a369"), looks := false }, kinds := [], alts := [], laidByText := true, laidKinds := [.data], laidTests := true, laidLooks := .later }
def ReplyDiffersCardSaid : Prop := Claim7.holds Tryz.pinned (.plain (OpenSpec.ofChange replyDiffersSpec)) replyDiffersCard

/-- THE SECOND FORM's CARD OF 'routescopelaw08.ReplyEnds'. -/
def replyEndsUptoCard : Claim7 := { stood := { row := replyEndsUptoRow, standIns := [], harness := (true, "af6237241d5e5e93aa919de642508d4a40eb497df95cdc28b60bdb856973a369"), looks := false }, kinds := [], alts := [], laidByText := true, laidKinds := [.data], laidTests := true, laidLooks := .later }
def ReplyEndsUptoCardSaid : Prop := Claim7.holds Tryz.pinned (.plain (OpenSpec.upto replyEndsSpec)) replyEndsUptoCard

/-- THE SECOND FORM's CARD OF 'routescopelaw08.ReplyDiffers'. -/
def replyDiffersUptoCard : Claim7 := { stood := { row := replyDiffersUptoRow, standIns := [], harness := (true, "af6237241d5e5e93aa919de642508d4a40eb497df95cdc28b60bdb856973a369"), looks := false }, kinds := [], alts := [], laidByText := true, laidKinds := [.data], laidTests := true, laidLooks := .later }
def ReplyDiffersUptoCardSaid : Prop := Claim7.holds Tryz.pinned (.plain (OpenSpec.upto replyDiffersSpec)) replyDiffersUptoCard
end Rows
end Go.Proofs.YtkpejaiigopmgaaGreatDoor
