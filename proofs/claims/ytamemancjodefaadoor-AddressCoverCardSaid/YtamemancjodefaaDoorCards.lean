/-
  DERIVED. GIVEN WITH THE SEED: THE CARDS: each row of YtamemancjodefaaDoorRows.lean that lists a variable, with what it lists TIED to the program's text (the seventh form; the later family's looks); each row that meets fmt, with fmt's text TOLD by the authors' own Lean function (tested against real Go, not proved from fmt's source: count such statements apart). THE CARD IS WHAT COUNTS. Prove the row's statement (the work); the ties are given (YtamemancjodefaaDoorTie.lean); close each card by the builder's one call (the guide's Derived/Test/ToyasCard.lean, 'card_holds'). Laid BY PROGRAM, IN A SANDBOX (cutbox-door.mjs). By AI agents, Wed Nov 11 2026. No macro, syntax, notation, axiom, sorry.
-/
import Derived.Test.YtamemancjodefaaDoorRows
import GoSem.ClaimSeven
namespace Go.Proofs.YtamemancjodefaaDoor
namespace Rows

/-- THE TIED CARD OF 'routescopelaw01.AddressTexts'. -/
def addressTextsCard : Claim7 := { stood := { row := addressTextsRow, standIns := [], harness := (true, "ee08597d057803df7fa30e119f0b356c6affbe140bd0590d89287865d7a198cb"), looks := false }, kinds := [], alts := [], laidByText := true, laidKinds := [.data, .data, .data], laidTests := true, laidLooks := .later }
def AddressTextsCardSaid : Prop := Claim7.holds Tryd.pinned (.plain (OpenSpec.ofChange addressTextsSpec)) addressTextsCard

/-- THE TIED CARD OF 'routescopelaw01.AddressBack'. -/
def addressBackCard : Claim7 := { stood := { row := addressBackRow, standIns := [], harness := (true, "ee08597d057803df7fa30e119f0b356c6affbe140bd0590d89287865d7a198cb"), looks := false }, kinds := [], alts := [], laidByText := true, laidKinds := [.data, .data, .data], laidTests := true, laidLooks := .later }
def AddressBackCardSaid : Prop := Claim7.holds Tryd.pinned (.plain (OpenSpec.ofChange addressBackSpec)) addressBackCard

/-- THE TIED CARD OF 'routescopelaw01.AddressPrefixes'. -/
def addressPrefixesCard : Claim7 := { stood := { row := addressPrefixesRow, standIns := [], harness := (true, "ee08597d057803df7fa30e119f0b356c6affbe140bd0590d89287865d7a198cb"), looks := false }, kinds := [], alts := [], laidByText := true, laidKinds := [.data, .data, .data], laidTests := true, laidLooks := .later }
def AddressPrefixesCardSaid : Prop := Claim7.holds Tryd.pinned (.plain (OpenSpec.ofChange addressPrefixesSpec)) addressPrefixesCard

/-- THE TIED CARD OF 'routescopelaw01.AddressTree'. -/
def addressTreeCard : Claim7 := { stood := { row := addressTreeRow, standIns := [], harness := (true, "ee08597d057803df7fa30e119f0b356c6affbe140bd0590d89287865d7a198cb"), looks := false }, kinds := [], alts := [], laidByText := true, laidKinds := [.data, .data, .data], laidTests := true, laidLooks := .later }
def AddressTreeCardSaid : Prop := Claim7.holds Tryd.pinned (.plain (OpenSpec.ofChange addressTreeSpec)) addressTreeCard

/-- THE TIED CARD OF 'routescopelaw01.AddressCover'. -/
def addressCoverCard : Claim7 := { stood := { row := addressCoverRow, standIns := [], harness := (true, "ee08597d057803df7fa30e119f0b356c6affbe140bd0590d89287865d7a198cb"), looks := false }, kinds := [], alts := [], laidByText := true, laidKinds := [.data, .data, .data], laidTests := true, laidLooks := .later }
def AddressCoverCardSaid : Prop := Claim7.holds Tryd.pinned (.plain (OpenSpec.ofChange addressCoverSpec)) addressCoverCard

/-- THE TIED CARD OF 'routescopelaw01.AddressSpecial'. -/
def addressSpecialCard : Claim7 := { stood := { row := addressSpecialRow, standIns := [], harness := (true, "ee08597d057803df7fa30e119f0b356c6affbe140bd0590d89287865d7a198cb"), looks := false }, kinds := [], alts := [], laidByText := true, laidKinds := [.data, .data, .data, .data], laidTests := true, laidLooks := .later }
def AddressSpecialCardSaid : Prop := Claim7.holds Tryd.pinned (.plain (OpenSpec.ofChange addressSpecialSpec)) addressSpecialCard

/-- THE SECOND FORM's CARD OF 'routescopelaw01.AddressTexts'. -/
def addressTextsUptoCard : Claim7 := { stood := { row := addressTextsUptoRow, standIns := [], harness := (true, "ee08597d057803df7fa30e119f0b356c6affbe140bd0590d89287865d7a198cb"), looks := false }, kinds := [], alts := [], laidByText := true, laidKinds := [.data, .data, .data], laidTests := true, laidLooks := .later }
def AddressTextsUptoCardSaid : Prop := Claim7.holds Tryd.pinned (.plain (OpenSpec.upto addressTextsSpec)) addressTextsUptoCard

/-- THE SECOND FORM's CARD OF 'routescopelaw01.AddressBack'. -/
def addressBackUptoCard : Claim7 := { stood := { row := addressBackUptoRow, standIns := [], harness := (true, "ee08597d057803df7fa30e119f0b356c6affbe140bd0590d89287865d7a198cb"), looks := false }, kinds := [], alts := [], laidByText := true, laidKinds := [.data, .data, .data], laidTests := true, laidLooks := .later }
def AddressBackUptoCardSaid : Prop := Claim7.holds Tryd.pinned (.plain (OpenSpec.upto addressBackSpec)) addressBackUptoCard

/-- THE SECOND FORM's CARD OF 'routescopelaw01.AddressPrefixes'. -/
def addressPrefixesUptoCard : Claim7 := { stood := { row := addressPrefixesUptoRow, standIns := [], harness := (true, "ee08597d057803df7fa30e119f0b356c6affbe140bd0590d89287865d7a198cb"), looks := false }, kinds := [], alts := [], laidByText := true, laidKinds := [.data, .data, .data], laidTests := true, laidLooks := .later }
def AddressPrefixesUptoCardSaid : Prop := Claim7.holds Tryd.pinned (.plain (OpenSpec.upto addressPrefixesSpec)) addressPrefixesUptoCard

/-- THE SECOND FORM's CARD OF 'routescopelaw01.AddressTree'. -/
def addressTreeUptoCard : Claim7 := { stood := { row := addressTreeUptoRow, standIns := [], harness := (true, "ee08597d057803df7fa30e119f0b356c6affbe140bd0590d89287865d7a198cb"), looks := false }, kinds := [], alts := [], laidByText := true, laidKinds := [.data, .data, .data], laidTests := true, laidLooks := .later }
def AddressTreeUptoCardSaid : Prop := Claim7.holds Tryd.pinned (.plain (OpenSpec.upto addressTreeSpec)) addressTreeUptoCard

/-- THE SECOND FORM's CARD OF 'routescopelaw01.AddressCover'. -/
def addressCoverUptoCard : Claim7 := { stood := { row := addressCoverUptoRow, standIns := [], harness := (true, "ee08597d057803df7fa30e119f0b356c6affbe140bd0590d89287865d7a198cb"), looks := false }, kinds := [], alts := [], laidByText := true, laidKinds := [.data, .data, .data], laidTests := true, laidLooks := .later }
def AddressCoverUptoCardSaid : Prop := Claim7.holds Tryd.pinned (.plain (OpenSpec.upto addressCoverSpec)) addressCoverUptoCard

/-- THE SECOND FORM's CARD OF 'routescopelaw01.AddressSpecial'. -/
def addressSpecialUptoCard : Claim7 := { stood := { row := addressSpecialUptoRow, standIns := [], harness := (true, "ee08597d057803df7fa30e119f0b356c6affbe140bd0590d89287865d7a198cb"), looks := false }, kinds := [], alts := [], laidByText := true, laidKinds := [.data, .data, .data, .data], laidTests := true, laidLooks := .later }
def AddressSpecialUptoCardSaid : Prop := Claim7.holds Tryd.pinned (.plain (OpenSpec.upto addressSpecialSpec)) addressSpecialUptoCard
end Rows
end Go.Proofs.YtamemancjodefaaDoor
