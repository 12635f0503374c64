/- The package ipv4: the bytes of a header. -/
import Derived.Test.YtjpjnbgfodlkcaaIc
import Derived.Test.YtjpjnbgfodlkcaaIg
import Derived.Test.YtjpjnbgfodlkcaaIm
import Derived.WalkKit
import Derived.WalkSpells
import Derived.WalkLawsBesides
import Derived.WalkSmall
import Derived.Handy
import Derived.BigQuiet
import Derived.Deep.QuietTactic
import Derived.Deep.RegionHeld3
import Derived.Deep.DeepFit
import Derived.Below
import Derived.Lib.Hide
import Derived.Lib.QuietBelow
namespace Go.Proofs.Ytjpjnbgfodlkcaa
open Go Go.RowKit Go.Sort
set_option maxRecDepth 100000
set_option linter.unusedVariables false
/-- pairs of ints in a block -/
def FC (w : World) (g : Nat) (fs : List (Nat × Nat)) : Prop := ∀ t, t < fs.length → w.cell? ⟨g, t * 2, none⟩ = some (.int .i64 (fs.getD t (0, 0)).1) ∧ w.cell? ⟨g, t * 2 + 1, none⟩ = some (.int .i64 (fs.getD t (0, 0)).2)
theorem FC.gr {w w' : World} {g : Nat} {fs : List (Nat × Nat)} (h : FC w g fs) (k : Gr w w') : FC w' g fs := fun t ht => by
  have hh := h t ht
  exact ⟨by rw [(Gr.cells k).1 _ _ (World.block_lt_of_cell? _ _ hh.1)]; exact hh.1, by rw [(Gr.cells k).1 _ _ (World.block_lt_of_cell? _ _ hh.2)]; exact hh.2⟩
def Hd.v (h : Hd) : Value := hdV h.tos h.id h.ttl h.proto h.keep h.src h.dst
theorem fc_new (w : World) (T : TypeId) (h : Hd) (n : Nat) (f : Int) (hf : f = h.fl) : FC (w.alloc (.cells #[.int .i64 69, .int .i64 1, .int .i64 h.tos, .int .i64 1, .int .i64 n, .int .i64 2, .int .i64 h.id, .int .i64 2, .int .i64 f, .int .i64 2,
    .int .i64 h.ttl, .int .i64 1, .int .i64 h.proto, .int .i64 1, .int .i64 0, .int .i64 2, .int .i64 h.src, .int .i64 4, .int .i64 h.dst, .int .i64 4] T)) w.heap.size (hfields h n) := by
  subst hf
  intro t ht
  have : t = 0 ∨ t = 1 ∨ t = 2 ∨ t = 3 ∨ t = 4 ∨ t = 5 ∨ t = 6 ∨ t = 7 ∨ t = 8 ∨ t = 9 := by simp [hfields] at ht; omega
  rcases this with rfl | rfl | rfl | rfl | rfl | rfl | rfl | rfl | rfl | rfl <;> simp [hfields]
theorem hfields_wide (h : Hd) (n t : Nat) (k : h.ok) (hn : n < 65536) (ht : t < 10) : 1 ≤ ((hfields h n).getD t (0, 0)).2 ∧ ((hfields h n).getD t (0, 0)).2 ≤ 4 ∧ ((hfields h n).getD t (0, 0)).1 < 256 ^ ((hfields h n).getD t (0, 0)).2 := by
  have := k.tos; have := k.id; have := k.ttl; have := k.proto; have := k.src; have := k.dst; have := h.fl_le
  have : t = 0 ∨ t = 1 ∨ t = 2 ∨ t = 3 ∨ t = 4 ∨ t = 5 ∨ t = 6 ∨ t = 7 ∨ t = 8 ∨ t = 9 := by omega
  rcases this with rfl | rfl | rfl | rfl | rfl | rfl | rfl | rfl | rfl | rfl <;> simp [hfields] <;> omega
theorem fput_short (h : Hd) (n t : Nat) : (fput ((hfields h n).take t)).length ≤ 20 := by
  rw [fput_len]
  have : t = 0 ∨ t = 1 ∨ t = 2 ∨ t = 3 ∨ t = 4 ∨ t = 5 ∨ t = 6 ∨ t = 7 ∨ t = 8 ∨ t = 9 ∨ 10 ≤ t := by omega
  rcases this with rfl | rfl | rfl | rfl | rfl | rfl | rfl | rfl | rfl | rfl | ht
  all_goals first | (simp [hfields]; done) | skip
  rw [List.take_of_length_le (by simp [hfields]; omega)]; simp [hfields]
theorem OwB.base {b c : Nat} {w : World} {v : Value} {l : List Nat} (h : OwB c w v l) (hb : b ≤ c) : OwB b w v l := by
  obtain ⟨⟨h0, h1⟩, h2⟩ := h
  refine ⟨⟨h0, ?_⟩, h2⟩
  rcases h1 with h1 | ⟨g, cap, cur, hv, hg, hr⟩
  · exact .inl h1
  · exact .inr ⟨g, cap, cur, hv, Nat.le_trans hb hg, hr⟩
theorem splice_take {α : Type} (L : List α) (off n : Nat) (cs : List α) (h : off + cs.length ≤ n) (hn : n ≤ L.length) : (splice L off cs).take n = splice (L.take n) off cs := by
  have h1 : (splice L off cs) = splice (L.take n ++ L.drop n) off cs := by rw [List.take_append_drop]
  rw [h1]
  have hl : (L.take n).length = n := by rw [List.length_take]; omega
  generalize L.take n = A at *
  generalize L.drop n = B at *
  have e1 : (A ++ B).take off = A.take off := List.take_append_of_le_length (by omega)
  have e2 : (A ++ B).drop (off + cs.length) = A.drop (off + cs.length) ++ B := List.drop_append_of_le_length (by omega)
  unfold splice
  rw [e1, e2, ← List.append_assoc cs, ← List.append_assoc, List.take_append_of_le_length (by simp; omega), List.take_of_length_le (by simp; omega)]
theorem splice_cells (L m : List Nat) (off : Nat) : splice (cellsB L) off (cellsB m) = cellsB (L.take off ++ m ++ L.drop (off + m.length)) := by
  unfold splice
  rw [cellsB_append, cellsB_append, cellsB_len]
  simp [cellsB]
/-- bytes are copied into a row of the call's own -/
theorem OwB.spliced {base g n cap : Nat} {w' : World} {cur : Array Value} {L m : List Nat} (hL : L.length = n) (hx : ∀ x ∈ L, x < 256) (hg : base ≤ g) (hn : n ≤ cap) (hcap : cap ≤ maxLen) (hsz : cur.size = cap * 1) (htake : cur.toList.take (n * 1) = cellsB L)
    (off : Nat) (hoff : off + m.length ≤ n) (hm : ∀ x ∈ m, x < 256) (hh : w'.heap[g]? = some (.cells (splice cur.toList off (cellsB m)).toArray 5 (0, 0))) :
    OwB base w' (.slice (some ⟨g, 0, none⟩) n cap) (L.take off ++ m ++ L.drop (off + m.length)) := by
  have hlen : (L.take off ++ m ++ L.drop (off + m.length)).length = n := by simp; omega
  have hcl : cur.toList.length = cap := by rw [Array.length_toList]; omega
  refine ⟨⟨by rw [cellsB_len, Nat.mul_one], .inr ⟨g, cap, _, by rw [hlen], hg, hh, by omega, hcap, ?_, ?_⟩⟩, ?_⟩
  · rw [List.size_toArray, length_splice _ _ _ (by rw [cellsB_len]; omega)]; omega
  · rw [hlen, Nat.mul_one, splice_take _ _ _ _ (by rw [cellsB_len]; omega) (by omega)]
    rw [Nat.mul_one] at htake
    rw [htake, splice_cells]
  · intro x h
    rcases List.mem_append.1 h with h | h
    · rcases List.mem_append.1 h with h | h
      · exact hx x (List.mem_of_mem_take h)
      · exact hm x h
    · exact hx x (List.mem_of_mem_drop h)
end Go.Proofs.Ytjpjnbgfodlkcaa
