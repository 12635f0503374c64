/- The document's Push, At; Check of headers. -/
import Derived.Test.YtjpjnbgfodlkcaaWz
import Derived.Test.YtjpjnbgfodlkcaaIc
import Derived.Test.YtjpjnbgfodlkcaaIm
import Derived.WalkKit
import Derived.WalkSpells
import Derived.WalkLawsBesides
import Derived.WalkSmall
import Derived.Handy
import Derived.BigQuiet
import Derived.Deep.QuietTactic
import Derived.Deep.RegionHeld3
import Derived.Deep.DeepFit
import Derived.Below
import Derived.Lib.Hide
import Derived.Lib.QuietBelow
namespace Go.Proofs.Ytjpjnbgfodlkcaa
open Go Go.RowKit Go.Sort
set_option maxRecDepth 100000
set_option linter.unusedVariables false
theorem rpush_any {p : Nat → Prop} {v : Value} {l : List Nat} (n k : Nat) (w : World) (h : Rb p w v l) (hl : l.length ≤ 90000) (hk0 : 1 ≤ k) (hk1 : k ≤ 7) (hn : n < 256 ^ k) :
    Calls Try.prog 40 #[v, .int .i64 n, .int .i64 k] w fun e w' => ∃ v', e = .returned v' ∧ OwB w.heap.size w' v' (l ++ bput n k) ∧ Gr w w' := by
  have HP := Lib.hid (rput_own n k w h hl hk0 hk1 hn)
  obtain ⟨a, cap, rfl, -, -⟩ := h.form
  clear h hn
  go_enter Try.func40, Try.ntmps40
  go_wp2_with fail
  refine HP.out.mono ?_
  rintro e w1 ⟨v1, rfl, ho, hg⟩
  go_wp2_with fail
  go_ret
  exact ⟨_, rfl, ho, hg⟩
theorem rat_any {p : Nat → Prop} {v : Value} {l : List Nat} (i k : Nat) (w : World) (h : Rb p w v l) (hk0 : 1 ≤ k) (hk1 : k ≤ 7) (hik : i + k ≤ l.length) (hl : l.length ≤ 100000) :
    Calls Try.prog 62 #[v, .int .i64 i, .int .i64 k] w fun e w' => e = .returned (.int .i64 (gN l i k : Nat)) ∧ w = w' := by
  have HP := Lib.hid (rget_yes i k w h hk0 hk1 hik hl)
  obtain ⟨a, cap, rfl, -, -⟩ := h.form
  clear h hik
  unfold gN
  go_enter Try.func62, Try.ntmps62
  go_wp2_with fail
  refine HP.out.mono ?_
  rintro e w1 ⟨rfl, rfl⟩
  go_wp2_with fail
  go_ret
  exact ⟨rfl, rfl⟩
end Go.Proofs.Ytjpjnbgfodlkcaa
