/- The package ipv4: Check. -/
import Derived.Test.YtjpjnbgfodlkcaaGr
import Derived.WalkKit
import Derived.WalkSpells
import Derived.WalkLawsBesides
import Derived.WalkSmall
import Derived.Handy
import Derived.BigQuiet
import Derived.Deep.QuietTactic
import Derived.Deep.RegionHeld3
import Derived.Deep.DeepFit
import Derived.Below
import Derived.Lib.Hide
import Derived.Lib.QuietBelow
namespace Go.Proofs.Ytjpjnbgfodlkcaa
open Go Go.RowKit Go.Sort
set_option maxRecDepth 100000
set_option linter.unusedVariables false
/-- a header as a value -/
def hdV (tos id ttl proto : Int) (keep : Bool) (src dst : Int) : Value := .agg #[.int .i64 tos, .int .i64 id, .int .i64 ttl, .int .i64 proto, .bool keep, .int .u32 src, .int .u32 dst]
def inB (n : Int) : Prop := 0 ≤ n ∧ n ≤ 255
instance (n : Int) : Decidable (inB n) := inferInstanceAs (Decidable (_ ∧ _))
def ckOk (tos id ttl proto : Int) : Prop := inB tos ∧ inB ttl ∧ inB proto ∧ 0 ≤ id ∧ id ≤ 65535
instance (a b c d : Int) : Decidable (ckOk a b c d) := inferInstanceAs (Decidable (_ ∧ _))
def ckE (tos id ttl proto : Int) : Int := if ckOk tos id ttl proto then 0 else 1
theorem ckE_yes {a b c d : Int} (h : ckOk a b c d) : ckE a b c d = 0 := if_pos h
theorem ckE_no {a b c d : Int} (h : ¬ ckOk a b c d) : ckE a b c d = 1 := if_neg h
end Go.Proofs.Ytjpjnbgfodlkcaa
