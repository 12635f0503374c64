/-
  NARROWER THAN 'FOR EVERY INPUT', by the rows' own cells (each row's printed sentence says how): ReplyReadsErrors: laid · ReplyReadsHosts: laid.
  DERIVED. THE GIVEN ROWS OF THIS SEAT. 2 by the template 'for every input the law returns true; each argument reads behind the call as it read before'; 0 by the template 'total and deterministic' (their statements: YtkpejaiigopmgaaDoorTotals.lean).
  GIVEN WITH THE SEED: the statements are not yours to turn. If you find one false, say at which input.
  Laid BY PROGRAM, IN A SANDBOX (cutbox-rows.mjs): the forced cells as the released guide's own fill.sh prints them over the translation e101707466bf4fc8… (all of the seat's roots in one cut). By AI agents, Wed Nov 11 2026. No macro, syntax, notation, axiom, sorry.
-/
import Derived.Test.YtkpejaiigopmgaaDoorChecked
import GoSem.Claim
import GoSem.ClaimJoined
import GoSem.ClaimMapViews
import Derived.JoinedTies
import Derived.KernelRfl
namespace Go.Proofs.YtkpejaiigopmgaaDoor
/- THE CELL 'sum', in the pinned program and in every row, IS THE sha256 OF THE DUMP (.gsa) THAT YtkpejaiigopmgaaDoorProg.lean LOADS. Nothing in Lean hashes anything: it is a label: what it is worth is what the hold of that sum in a sandbox is worth. -/
noncomputable def Tryd.pinned : Pinned := { name := "ytkpejaiigopmgaadoor", sum := "e101707466bf4fc8d89d698c4ea7146cd8886c3af20638e9ed4c62fffaafc504", checked := Tryd.checked }
namespace Rows
def none {H : Type} : Left H := { results := [], args := [] }

/- WHAT THE LISTED PACKAGE-LEVEL VARIABLES READ AS WHEN THE CALL BEGINS. Each datum BY PROGRAM (the guide's laid-datum.mjs) off the statement by which the dump's own 'gosem.cut.vars' lays the variable. In a bare row this is a premise. The card (YtkpejaiigopmgaaDoorCards.lean) ties it to the program's text. -/
def laid_routescope_address_specials {H : Type} : DataW H := .agg [.agg [.agg [.lit (.int .u32 0), .lit (.int .i64 8)], .lit (.int .i64 1)], .agg [.agg [.lit (.int .u32 2130706432), .lit (.int .i64 8)], .lit (.int .i64 2)], .agg [.agg [.lit (.int .u32 167772160), .lit (.int .i64 8)], .lit (.int .i64 3)], .agg [.agg [.lit (.int .u32 2886729728), .lit (.int .i64 12)], .lit (.int .i64 3)], .agg [.agg [.lit (.int .u32 3232235520), .lit (.int .i64 16)], .lit (.int .i64 3)], .agg [.agg [.lit (.int .u32 2851995648), .lit (.int .i64 16)], .lit (.int .i64 4)], .agg [.agg [.lit (.int .u32 3758096384), .lit (.int .i64 4)], .lit (.int .i64 5)], .agg [.agg [.lit (.int .u32 4026531840), .lit (.int .i64 4)], .lit (.int .i64 6)]]

/-- 'routescopelaw08.ReplyReadsErrors': WHATEVER THE INPUT: true; the input reads as it did. -/
def replyReadsErrorsSpec : ChangeSpec := { name := "replyReadsErrors", fn := fun _ => fun
  | [d1, d2, d3, d4, d5] => { results := [.lit (.bool true)], args := [d1, d2, d3, d4, d5] }
  | _ => none }
def replyReadsErrorsRow : OpenClaim := { program := "ytkpejaiigopmgaadoor", sum := "e101707466bf4fc8d89d698c4ea7146cd8886c3af20638e9ed4c62fffaafc504", func := "routescope/routescopelaw08.ReplyReadsErrors", spec := "replyReadsErrors", unfollowed := true, recurses := true, named := ["routescope/address.specials"], apart := false, laid := [("routescope/address.specials", laid_routescope_address_specials)] }
def ReplyReadsErrorsSaid : Prop := replyReadsErrorsRow.holds Tryd.pinned (OpenSpec.ofChange replyReadsErrorsSpec)

/-- ITS FALSE NEIGHBOUR: 'it returns false'. Refute it at one input. -/
def replyReadsErrorsWrong : ChangeSpec := { name := "replyReadsErrors", fn := fun _ => fun
  | [d1, d2, d3, d4, d5] => { results := [.lit (.bool false)], args := [d1, d2, d3, d4, d5] }
  | _ => none }
def ReplyReadsErrorsWrongFalsely : Prop := replyReadsErrorsRow.holds Tryd.pinned (OpenSpec.ofChange replyReadsErrorsWrong)

/-- 'routescopelaw08.ReplyReadsHosts': WHATEVER THE INPUT: true; the input reads as it did. -/
def replyReadsHostsSpec : ChangeSpec := { name := "replyReadsHosts", fn := fun _ => fun
  | [d1, d2, d3] => { results := [.lit (.bool true)], args := [d1, d2, d3] }
  | _ => none }
def replyReadsHostsRow : OpenClaim := { program := "ytkpejaiigopmgaadoor", sum := "e101707466bf4fc8d89d698c4ea7146cd8886c3af20638e9ed4c62fffaafc504", func := "routescope/routescopelaw08.ReplyReadsHosts", spec := "replyReadsHosts", unfollowed := true, recurses := true, named := ["routescope/address.specials"], apart := false, laid := [("routescope/address.specials", laid_routescope_address_specials)] }
def ReplyReadsHostsSaid : Prop := replyReadsHostsRow.holds Tryd.pinned (OpenSpec.ofChange replyReadsHostsSpec)

/-- ITS FALSE NEIGHBOUR: 'it returns false'. Refute it at one input. -/
def replyReadsHostsWrong : ChangeSpec := { name := "replyReadsHosts", fn := fun _ => fun
  | [d1, d2, d3] => { results := [.lit (.bool false)], args := [d1, d2, d3] }
  | _ => none }
def ReplyReadsHostsWrongFalsely : Prop := replyReadsHostsRow.holds Tryd.pinned (OpenSpec.ofChange replyReadsHostsWrong)

/- THE SECOND FORM. 'bulk': how many values and letters a reading holds, each counted each time it is reached (what is shared counts as often as it is met; a slice's spare places count too). A statement '..UptoSaid' is the law's where the arguments, and the package variables that the reading takes, are together of bulk at most 1048576: NARROWER than '..Said'. Prove '..Said' where nothing that the law and all that it calls make is longer than what came in: it says more and counts as full. Else prove '..UptoSaid'. A law counts once. -/
mutual
def uptoBulk {H : Type} : DataW H → Nat
  | .lit (.string bytes) => bytes.length + 1
  | .lit _ => 1
  | .nil => 1
  | .ptr d => uptoBulk d + 1
  | .slice elems spare => uptoBulkAll elems + uptoBulkAll spare + 1
  | .agg parts => uptoBulkAll parts + 1
  | .iface _ d => uptoBulk d + 1
  | .map entries => uptoBulkEntries entries + 1
  | .held _ => 1
def uptoBulkAll {H : Type} : List (DataW H) → Nat
  | [] => 0
  | d :: r => uptoBulk d + uptoBulkAll r
def uptoBulkEntries {H : Type} : List (Lit × DataW H) → Nat
  | [] => 0
  | x :: r => uptoBulkEntry x + uptoBulkEntries r
def uptoBulkEntry {H : Type} : Lit × DataW H → Nat
  | (.string bytes, d) => bytes.length + uptoBulk d + 1
  | (_, d) => uptoBulk d + 1
 end
def uptoSmall : (H : Type) → List (DataW H) → Bool := fun _ ds => decide (uptoBulkAll ds ≤ 1048576)
def OpenSpec.upto (s : _root_.Go.ChangeSpec) : _root_.Go.OpenSpec := { _root_.Go.OpenSpec.ofChange s with cond := some uptoSmall }

/-- 'routescopelaw08.ReplyReadsErrors', WHERE WHAT IT READS IS OF BULK AT MOST 1048576: true; the input reads as it did. -/
def replyReadsErrorsUptoRow : OpenClaim := { program := "ytkpejaiigopmgaadoor", sum := "e101707466bf4fc8d89d698c4ea7146cd8886c3af20638e9ed4c62fffaafc504", func := "routescope/routescopelaw08.ReplyReadsErrors", spec := "replyReadsErrors", unfollowed := true, recurses := true, named := ["routescope/address.specials"], apart := false, laid := [("routescope/address.specials", laid_routescope_address_specials)], narrowed := true }
def ReplyReadsErrorsUptoSaid : Prop := replyReadsErrorsUptoRow.holds Tryd.pinned (OpenSpec.upto replyReadsErrorsSpec)

/-- 'routescopelaw08.ReplyReadsHosts', WHERE WHAT IT READS IS OF BULK AT MOST 1048576: true; the input reads as it did. -/
def replyReadsHostsUptoRow : OpenClaim := { program := "ytkpejaiigopmgaadoor", sum := "e101707466bf4fc8d89d698c4ea7146cd8886c3af20638e9ed4c62fffaafc504", func := "routescope/routescopelaw08.ReplyReadsHosts", spec := "replyReadsHosts", unfollowed := true, recurses := true, named := ["routescope/address.specials"], apart := false, laid := [("routescope/address.specials", laid_routescope_address_specials)], narrowed := true }
def ReplyReadsHostsUptoSaid : Prop := replyReadsHostsUptoRow.holds Tryd.pinned (OpenSpec.upto replyReadsHostsSpec)

end Rows
end Go.Proofs.YtkpejaiigopmgaaDoor
