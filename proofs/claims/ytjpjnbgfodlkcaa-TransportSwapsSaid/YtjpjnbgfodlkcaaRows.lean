/-
  No cell of these rows narrows 'for every input' (looked for: loops, veiled, ifaces, maps, wideKeys, modest, calm, conditions, laid).
  DERIVED. THE GIVEN ROWS OF THIS SEAT. 5 by the template 'for every input the law returns true; each argument reads behind the call as it read before'; 0 by the template 'total and deterministic' (their statements: YtjpjnbgfodlkcaaTotals.lean).
  GIVEN WITH THE SEED: the statements are not yours to turn. If you find one false, say at which input.
  Laid BY PROGRAM, IN A SANDBOX (cutbox-rows.mjs): the forced cells as the released guide's own fill.sh prints them over the translation 5b2ee82233d91363… (all of the seat's roots in one cut). By AI agents, Wed Nov 11 2026. No macro, syntax, notation, axiom, sorry.
-/
import Derived.Test.YtjpjnbgfodlkcaaChecked
import GoSem.Claim
import GoSem.ClaimJoined
import GoSem.ClaimMapViews
import Derived.JoinedTies
import Derived.KernelRfl
namespace Go.Proofs.Ytjpjnbgfodlkcaa
/- THE CELL 'sum', in the pinned program and in every row, IS THE sha256 OF THE DUMP (.gsa) THAT YtjpjnbgfodlkcaaProg.lean LOADS. Nothing in Lean hashes anything: it is a label: what it is worth is what the hold of that sum in a sandbox is worth. -/
noncomputable def Try.pinned : Pinned := { name := "ytjpjnbgfodlkcaa", sum := "5b2ee82233d913633d1088847a3f92ae932ab8de42a8a5ec66a6a729f44cac74", checked := Try.checked }
namespace Rows
def none {H : Type} : Left H := { results := [], args := [] }

/-- 'routescopelaw06.TransportEncodes': WHATEVER THE INPUT: true; the input reads as it did. -/
def transportEncodesSpec : ChangeSpec := { name := "transportEncodes", fn := fun _ => fun
  | [d1, d2, d3, d4, d5] => { results := [.lit (.bool true)], args := [d1, d2, d3, d4, d5] }
  | _ => none }
def transportEncodesRow : OpenClaim := { program := "ytjpjnbgfodlkcaa", sum := "5b2ee82233d913633d1088847a3f92ae932ab8de42a8a5ec66a6a729f44cac74", func := "routescope/routescopelaw06.TransportEncodes", spec := "transportEncodes", unfollowed := true, recurses := true, apart := false }
def TransportEncodesSaid : Prop := transportEncodesRow.holds Try.pinned (OpenSpec.ofChange transportEncodesSpec)

/-- ITS FALSE NEIGHBOUR: 'it returns false'. Refute it at one input. -/
def transportEncodesWrong : ChangeSpec := { name := "transportEncodes", fn := fun _ => fun
  | [d1, d2, d3, d4, d5] => { results := [.lit (.bool false)], args := [d1, d2, d3, d4, d5] }
  | _ => none }
def TransportEncodesWrongFalsely : Prop := transportEncodesRow.holds Try.pinned (OpenSpec.ofChange transportEncodesWrong)

/-- 'routescopelaw06.TransportDecodes': WHATEVER THE INPUT: true; the input reads as it did. -/
def transportDecodesSpec : ChangeSpec := { name := "transportDecodes", fn := fun _ => fun
  | [d1, d2, d3] => { results := [.lit (.bool true)], args := [d1, d2, d3] }
  | _ => none }
def transportDecodesRow : OpenClaim := { program := "ytjpjnbgfodlkcaa", sum := "5b2ee82233d913633d1088847a3f92ae932ab8de42a8a5ec66a6a729f44cac74", func := "routescope/routescopelaw06.TransportDecodes", spec := "transportDecodes", unfollowed := true, recurses := true, apart := false }
def TransportDecodesSaid : Prop := transportDecodesRow.holds Try.pinned (OpenSpec.ofChange transportDecodesSpec)

/-- ITS FALSE NEIGHBOUR: 'it returns false'. Refute it at one input. -/
def transportDecodesWrong : ChangeSpec := { name := "transportDecodes", fn := fun _ => fun
  | [d1, d2, d3] => { results := [.lit (.bool false)], args := [d1, d2, d3] }
  | _ => none }
def TransportDecodesWrongFalsely : Prop := transportDecodesRow.holds Try.pinned (OpenSpec.ofChange transportDecodesWrong)

/-- 'routescopelaw06.TransportBack': WHATEVER THE INPUT: true; the input reads as it did. -/
def transportBackSpec : ChangeSpec := { name := "transportBack", fn := fun _ => fun
  | [d1, d2] => { results := [.lit (.bool true)], args := [d1, d2] }
  | _ => none }
def transportBackRow : OpenClaim := { program := "ytjpjnbgfodlkcaa", sum := "5b2ee82233d913633d1088847a3f92ae932ab8de42a8a5ec66a6a729f44cac74", func := "routescope/routescopelaw06.TransportBack", spec := "transportBack", unfollowed := true, recurses := true, apart := false }
def TransportBackSaid : Prop := transportBackRow.holds Try.pinned (OpenSpec.ofChange transportBackSpec)

/-- ITS FALSE NEIGHBOUR: 'it returns false'. Refute it at one input. -/
def transportBackWrong : ChangeSpec := { name := "transportBack", fn := fun _ => fun
  | [d1, d2] => { results := [.lit (.bool false)], args := [d1, d2] }
  | _ => none }
def TransportBackWrongFalsely : Prop := transportBackRow.holds Try.pinned (OpenSpec.ofChange transportBackWrong)

/-- 'routescopelaw06.TransportSwaps': WHATEVER THE INPUT: true; the input reads as it did. -/
def transportSwapsSpec : ChangeSpec := { name := "transportSwaps", fn := fun _ => fun
  | [d1, d2] => { results := [.lit (.bool true)], args := [d1, d2] }
  | _ => none }
def transportSwapsRow : OpenClaim := { program := "ytjpjnbgfodlkcaa", sum := "5b2ee82233d913633d1088847a3f92ae932ab8de42a8a5ec66a6a729f44cac74", func := "routescope/routescopelaw06.TransportSwaps", spec := "transportSwaps", unfollowed := true, recurses := true, apart := false }
def TransportSwapsSaid : Prop := transportSwapsRow.holds Try.pinned (OpenSpec.ofChange transportSwapsSpec)

/-- ITS FALSE NEIGHBOUR: 'it returns false'. Refute it at one input. -/
def transportSwapsWrong : ChangeSpec := { name := "transportSwaps", fn := fun _ => fun
  | [d1, d2] => { results := [.lit (.bool false)], args := [d1, d2] }
  | _ => none }
def TransportSwapsWrongFalsely : Prop := transportSwapsRow.holds Try.pinned (OpenSpec.ofChange transportSwapsWrong)

/-- 'routescopelaw06.TransportDamage': WHATEVER THE INPUT: true; the input reads as it did. -/
def transportDamageSpec : ChangeSpec := { name := "transportDamage", fn := fun _ => fun
  | [d1, d2, d3, d4] => { results := [.lit (.bool true)], args := [d1, d2, d3, d4] }
  | _ => none }
def transportDamageRow : OpenClaim := { program := "ytjpjnbgfodlkcaa", sum := "5b2ee82233d913633d1088847a3f92ae932ab8de42a8a5ec66a6a729f44cac74", func := "routescope/routescopelaw06.TransportDamage", spec := "transportDamage", unfollowed := true, recurses := true, apart := false }
def TransportDamageSaid : Prop := transportDamageRow.holds Try.pinned (OpenSpec.ofChange transportDamageSpec)

/-- ITS FALSE NEIGHBOUR: 'it returns false'. Refute it at one input. -/
def transportDamageWrong : ChangeSpec := { name := "transportDamage", fn := fun _ => fun
  | [d1, d2, d3, d4] => { results := [.lit (.bool false)], args := [d1, d2, d3, d4] }
  | _ => none }
def TransportDamageWrongFalsely : Prop := transportDamageRow.holds Try.pinned (OpenSpec.ofChange transportDamageWrong)

/- THE SECOND FORM. 'bulk': how many values and letters a reading holds, each counted each time it is reached (what is shared counts as often as it is met; a slice's spare places count too). A statement '..UptoSaid' is the law's where the arguments, and the package variables that the reading takes, are together of bulk at most 1048576: NARROWER than '..Said'. Prove '..Said' where nothing that the law and all that it calls make is longer than what came in: it says more and counts as full. Else prove '..UptoSaid'. A law counts once. -/
mutual
def uptoBulk {H : Type} : DataW H → Nat
  | .lit (.string bytes) => bytes.length + 1
  | .lit _ => 1
  | .nil => 1
  | .ptr d => uptoBulk d + 1
  | .slice elems spare => uptoBulkAll elems + uptoBulkAll spare + 1
  | .agg parts => uptoBulkAll parts + 1
  | .iface _ d => uptoBulk d + 1
  | .map entries => uptoBulkEntries entries + 1
  | .held _ => 1
def uptoBulkAll {H : Type} : List (DataW H) → Nat
  | [] => 0
  | d :: r => uptoBulk d + uptoBulkAll r
def uptoBulkEntries {H : Type} : List (Lit × DataW H) → Nat
  | [] => 0
  | x :: r => uptoBulkEntry x + uptoBulkEntries r
def uptoBulkEntry {H : Type} : Lit × DataW H → Nat
  | (.string bytes, d) => bytes.length + uptoBulk d + 1
  | (_, d) => uptoBulk d + 1
 end
def uptoSmall : (H : Type) → List (DataW H) → Bool := fun _ ds => decide (uptoBulkAll ds ≤ 1048576)
def OpenSpec.upto (s : _root_.Go.ChangeSpec) : _root_.Go.OpenSpec := { _root_.Go.OpenSpec.ofChange s with cond := some uptoSmall }

/-- 'routescopelaw06.TransportEncodes', WHERE WHAT IT READS IS OF BULK AT MOST 1048576: true; the input reads as it did. -/
def transportEncodesUptoRow : OpenClaim := { program := "ytjpjnbgfodlkcaa", sum := "5b2ee82233d913633d1088847a3f92ae932ab8de42a8a5ec66a6a729f44cac74", func := "routescope/routescopelaw06.TransportEncodes", spec := "transportEncodes", unfollowed := true, recurses := true, apart := false, narrowed := true }
def TransportEncodesUptoSaid : Prop := transportEncodesUptoRow.holds Try.pinned (OpenSpec.upto transportEncodesSpec)

/-- 'routescopelaw06.TransportDecodes', WHERE WHAT IT READS IS OF BULK AT MOST 1048576: true; the input reads as it did. -/
def transportDecodesUptoRow : OpenClaim := { program := "ytjpjnbgfodlkcaa", sum := "5b2ee82233d913633d1088847a3f92ae932ab8de42a8a5ec66a6a729f44cac74", func := "routescope/routescopelaw06.TransportDecodes", spec := "transportDecodes", unfollowed := true, recurses := true, apart := false, narrowed := true }
def TransportDecodesUptoSaid : Prop := transportDecodesUptoRow.holds Try.pinned (OpenSpec.upto transportDecodesSpec)

/-- 'routescopelaw06.TransportBack', WHERE WHAT IT READS IS OF BULK AT MOST 1048576: true; the input reads as it did. -/
def transportBackUptoRow : OpenClaim := { program := "ytjpjnbgfodlkcaa", sum := "5b2ee82233d913633d1088847a3f92ae932ab8de42a8a5ec66a6a729f44cac74", func := "routescope/routescopelaw06.TransportBack", spec := "transportBack", unfollowed := true, recurses := true, apart := false, narrowed := true }
def TransportBackUptoSaid : Prop := transportBackUptoRow.holds Try.pinned (OpenSpec.upto transportBackSpec)

/-- 'routescopelaw06.TransportSwaps', WHERE WHAT IT READS IS OF BULK AT MOST 1048576: true; the input reads as it did. -/
def transportSwapsUptoRow : OpenClaim := { program := "ytjpjnbgfodlkcaa", sum := "5b2ee82233d913633d1088847a3f92ae932ab8de42a8a5ec66a6a729f44cac74", func := "routescope/routescopelaw06.TransportSwaps", spec := "transportSwaps", unfollowed := true, recurses := true, apart := false, narrowed := true }
def TransportSwapsUptoSaid : Prop := transportSwapsUptoRow.holds Try.pinned (OpenSpec.upto transportSwapsSpec)

/-- 'routescopelaw06.TransportDamage', WHERE WHAT IT READS IS OF BULK AT MOST 1048576: true; the input reads as it did. -/
def transportDamageUptoRow : OpenClaim := { program := "ytjpjnbgfodlkcaa", sum := "5b2ee82233d913633d1088847a3f92ae932ab8de42a8a5ec66a6a729f44cac74", func := "routescope/routescopelaw06.TransportDamage", spec := "transportDamage", unfollowed := true, recurses := true, apart := false, narrowed := true }
def TransportDamageUptoSaid : Prop := transportDamageUptoRow.holds Try.pinned (OpenSpec.upto transportDamageSpec)

end Rows
end Go.Proofs.Ytjpjnbgfodlkcaa
