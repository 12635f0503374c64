/- The checksum of a header whose TTL is lowered. -/
import Derived.Test.YtcpaphehhjnemaaIq
import Derived.WalkKit
import Derived.WalkSpells
import Derived.WalkLawsBesides
import Derived.WalkSmall
import Derived.Handy
import Derived.BigQuiet
import Derived.Deep.QuietTactic
import Derived.Deep.RegionHeld3
import Derived.Deep.DeepFit
import Derived.Below
import Derived.Lib.Hide
import Derived.Lib.QuietBelow
namespace Go.Proofs.Ytcpaphehhjnemaa
open Go Go.RowKit Go.Sort
set_option maxRecDepth 100000
set_option linter.unusedVariables false
theorem upd_same {lb lx : List Nat} {now k i : Nat} (hk : k + 1 < lb.length) (he : k % 2 = 0) (hb : ∀ x ∈ lb, x < 256) (hn : now < 65536) (hx : lx = (lb.set k (now / 256)).set (k + 1) (now % 256)) (hi : lx.getD i 0 ≠ 0) :
    upR (65535 - (oc (wsum false lb) : Nat)) ((256 * lb.getD k 0 + lb.getD (k + 1) 0 : Nat)) now = 65535 - (oc (wsum false lx) : Nat) := by
  have h1 := wsum_pair hk he (now / 256) (now % 256)
  rw [← hx] at h1
  have h2 := getD_lt hb k
  have h3 := getD_lt hb (k + 1)
  have h4 := oc_le (wsum false lb)
  have h5 := update_oc (W := wsum false lb) (old := 256 * lb.getD k 0 + lb.getD (k + 1) 0) (now := now) (X := wsum false lx) (by omega) (wsum_pos hi) (by omega)
  rw [upR_yes (by omega) (by omega) (by omega), ← h5]
  congr 3
  omega
theorem two_bytes {l : List Nat} {k : Nat} (h : k + 1 < l.length) : bnum ((l.drop k).take 2) = 256 * l.getD k 0 + l.getD (k + 1) 0 := by
  have e : l.drop k = l[k] :: l[k + 1] :: l.drop (k + 2) := by rw [List.drop_eq_getElem_cons (i := k) (by omega), List.drop_eq_getElem_cons (i := k + 1) (by omega)]
  have h1 : l.getD k 0 = l[k] := by rw [List.getD_eq_getElem?_getD, List.getElem?_eq_getElem (show k < l.length by omega)]; rfl
  have h2 : l.getD (k + 1) 0 = l[k + 1] := by rw [List.getD_eq_getElem?_getD, List.getElem?_eq_getElem h]; rfl
  rw [e, h1, h2]
  unfold bnum
  simp only [List.take_succ_cons, List.take_zero, List.foldl_cons, List.foldl_nil]
  omega
theorem gN_sum {h : Hd} (n s : Nat) (hs : s < 65536) (m : List Nat) : gN (hraw h n s ++ m) 10 2 = s ∧ gN (hraw h n s ++ m) 8 2 = h.ttl * 256 + h.proto := by
  have e1 : ∀ a b : Nat, bnum [a, b] = a * 256 + b := fun a b => by simp [bnum]
  exact ⟨(e1 _ _).trans (by omega), e1 _ _⟩
theorem hraw_set (h : Hd) (k : h.ok) (n : Nat) : hraw h.low n 0 = ((hraw h n 0).set 8 (((h.ttl - 1) * 256 + h.proto) / 256)).set (8 + 1) (((h.ttl - 1) * 256 + h.proto) % 256) := by
  have hp := k.proto
  have e1 : ((h.ttl - 1) * 256 + h.proto) / 256 = h.ttl - 1 := by omega
  have e2 : ((h.ttl - 1) * 256 + h.proto) % 256 = h.proto := by omega
  rw [e1, e2]
  rfl
theorem low_upd {h : Hd} (k : h.ok) (d : List Nat) (hd : d.length ≤ 1480) :
    upR (gN (enc h d) 10 2 : Nat) (gN (enc h d) 8 2 : Nat) (gN (enc h.low d) 8 2 : Nat) = (gN (enc h.low d) 10 2 : Nat) := by
  have s1 := hsum_le h (20 + d.length)
  have s2 := hsum_le h.low (20 + d.length)
  obtain ⟨a1, a2⟩ := gN_sum (h := h) (20 + d.length) (hsum h (20 + d.length)) (by omega) d
  obtain ⟨b1, b2⟩ := gN_sum (h := h.low) (20 + d.length) (hsum h.low (20 + d.length)) (by omega) d
  have e := upd_same (lb := hraw h (20 + d.length) 0) (lx := hraw h.low (20 + d.length) 0) (now := (h.ttl - 1) * 256 + h.proto) (k := 8) (i := 0) (by rw [hraw_len]; omega) rfl (hraw_lt k _ _) (by have := k.ttl; have := k.proto; omega) (hraw_set h k _) (by simp [hraw])
  have e8 : (hraw h (20 + d.length) 0).getD 8 0 = h.ttl := rfl
  have e9 : (hraw h (20 + d.length) 0).getD (8 + 1) 0 = h.proto := rfl
  rw [e8, e9] at e
  have g1 : gN (enc h d) 10 2 = hsum h (20 + d.length) := a1
  have g2 : gN (enc h d) 8 2 = h.ttl * 256 + h.proto := a2
  have g3 : gN (enc h.low d) 10 2 = hsum h.low (20 + d.length) := b1
  have g4 : gN (enc h.low d) 8 2 = (h.ttl - 1) * 256 + h.proto := b2
  rw [g1, g2, g3, g4]
  have o1 := oc_le (wsum false (hraw h (20 + d.length) 0))
  have o2 := oc_le (wsum false (hraw h.low (20 + d.length) 0))
  have f1 : ((hsum h (20 + d.length) : Nat) : Int) = 65535 - (oc (wsum false (hraw h (20 + d.length) 0)) : Nat) := by unfold hsum; omega
  have f2 : ((hsum h.low (20 + d.length) : Nat) : Int) = 65535 - (oc (wsum false (hraw h.low (20 + d.length) 0)) : Nat) := by unfold hsum; omega
  rw [f1, f2, ← e, Nat.mul_comm 256 h.ttl]
end Go.Proofs.Ytcpaphehhjnemaa
