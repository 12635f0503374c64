/- Drawn prefixes and routes. -/
import Derived.Test.YtefocmcpeigfcaaAo
import Derived.Test.YtefocmcpeigfcaaIa
import Derived.WalkKit
import Derived.WalkSpells
import Derived.WalkLawsBesides
import Derived.WalkSmall
import Derived.Handy
import Derived.BigQuiet
import Derived.Deep.QuietTactic
import Derived.Deep.RegionHeld3
import Derived.Deep.DeepFit
import Derived.Below
import Derived.Lib.Hide
import Derived.Lib.QuietBelow
import Derived.Deep.DeepCutAuto
namespace Go.Proofs.Ytefocmcpeigfcaa
open Go Go.RowKit Go.Sort
set_option maxRecDepth 100000
set_option linter.unusedVariables false
def AiPost (B b : Nat) (w : World) (e : Ending) (w' : World) : Prop := ∃ x : Int, e = .returned (.int .u32 x) ∧ 0 ≤ x ∧ x < 4294967296 ∧ Cod B w' b ∧ Ex b w w'
theorem address_i {B : Nat} (b : Nat) (w : World) (h : Cod B w b) :
    Calls Try.prog 14 #[.pointer (some ⟨b, 0, none⟩)] w (AiPost B b w) := by
  refine (address_any b w h).mono ?_
  rintro e w' ⟨x, rfl, x1, hc, he⟩
  exact ⟨x, rfl, by omega, by omega, hc, he⟩
def PrPost (B b : Nat) (w : World) (e : Ending) (w' : World) : Prop := ∃ x n : Int, e = .returned (.agg #[.int .u32 x, .int .i64 n]) ∧ 0 ≤ x ∧ x < 4294967296 ∧ vld x n = true ∧ Cod B w' b ∧ Ex b w w'
theorem sz_32 : sz 32 = 1 := by decide +kernel
theorem shl_shr (x n : Int) (h0 : 0 ≤ n) (h1 : n ≤ 32) : x / 2 ^ (32 - n).toNat * 2 ^ (32 - n).toNat = x - x % sz n := by
  rw [← quo_sz]
  have : (2 : Int) ^ (32 - n).toNat = sz n := by rw [← size_eq n h0 h1, Int.one_mul]
  rw [this]
theorem quo_lit (z n S : Int) (h : sz n = S) : z / S * S = z - z % sz n := by rw [← h]; exact quo_sz z n
theorem quo_one (z : Int) : z - z % sz 32 = z := by rw [sz_32]; omega
theorem vld_cut (x n : Int) (h0 : 0 ≤ n) (h1 : n ≤ 32) : vld (x - x % sz n) n = true := by
  rw [vld_iff]; refine ⟨h0, h1, ?_⟩
  rw [← quo_sz]; exact Int.mul_emod_left _ _

theorem prefix_any {B : Nat} (b : Nat) (w : World) (h : Cod B w b) (hBw : B ≤ w.heap.size) :
    Calls Try.prog 26 #[.pointer (some ⟨b, 0, none⟩)] w (PrPost B b w) := by
  have hlt := h.lt
  go_enter Try.func26, Try.ntmps26
  go_wp2_with fail
  refine (next_any b 8 _ (by omega) (by omega) (h.gr (Gr.alloc (Gr.alloc (Gr.refl _) _) _))).mono ?_
  rintro e w1 ⟨x, rfl, p0, p1, hc1, he1⟩
  have hr0 : w1.cell? ⟨w.heap.size, 0, none⟩ = some (.int .u32 0) := by rw [he1.cell _ _ (by omega) (by go_size)]; first | (simp; done) | go_cell
  have hr1 : w1.cell? ⟨w.heap.size, 1, none⟩ = some (.int .i64 0) := by rw [he1.cell _ _ (by omega) (by go_size)]; first | (simp; done) | go_cell
  have hf0 : w1.frozen? ⟨w.heap.size, 0, none⟩ = false := by rw [he1.frozen _ _ (by omega) (by go_size)]; first | (simp; done) | (simp [go_sem]; done)
  have hf1 : w1.frozen? ⟨w.heap.size, 1, none⟩ = false := by rw [he1.frozen _ _ (by omega) (by go_size)]; first | (simp; done) | (simp [go_sem]; done)
  have hE : Ex b w w1 := (Ex.ofGr (Gr.alloc (Gr.alloc (Gr.refl _) _) _)).trans he1
  have hbn : w.heap.size ≠ b := by omega
  have hK : ∀ j v, (#[.int .i64 0, .int .i64 8, .int .i64 16, .int .i64 24, .int .i64 29, .int .i64 30, .int .i64 31, .int .i64 32] : Array Value)[j]? = some v → w1.cell? ⟨w.heap.size + 1, j, none⟩ = some v := by
    intro j v hj
    rw [he1.cell _ _ (by omega) (by go_size)]
    have := World.cell?_alloc_new (w.alloc (.cells #[.int .u32 0, .int .i64 0] 28)) #[.int .i64 0, .int .i64 8, .int .i64 16, .int .i64 24, .int .i64 29, .int .i64 30, .int .i64 31, .int .i64 32] 3 j
    simp only [World.size_alloc] at this
    rw [this]; exact hj
  have HE := Lib.hid hE
  clear he1 hE
  have hx : x = 0 ∨ x = 1 ∨ x = 2 ∨ x = 3 ∨ x = 4 ∨ x = 5 ∨ x = 6 ∨ x = 7 := by omega
  rcases hx with rfl | rfl | rfl | rfl | rfl | rfl | rfl | rfl
  · have hc := hK 0 (.int .i64 0) rfl
    clear hK
    go_wp2
    refine bodyPost_ret (v := .agg #[.int .u32 0, .int .i64 0]) (by simp [results, Try.results26, go_sem, hr0, hr1]) rfl ⟨0, 0, rfl, by omega, by omega, by decide +kernel, ?_, ?_⟩
    · exact (hc1.set _ _ hbn hBw _).set _ _ hbn hBw _
    · exact (HE.out.setNew (by simp) _).setNew (by simp) _
  · have hc := hK 1 (.int .i64 8) rfl
    clear hK
    go_wp2_with fail
    refine (address_i b _ hc1).mono ?_
    rintro e w2 ⟨z, rfl, z0, z1, hc2, he2⟩
    have hl0 : w.heap.size < w1.heap.size := World.block_lt_of_cell? w1 _ hr0
    have kr0 : w2.cell? ⟨w.heap.size, 0, none⟩ = some (.int .u32 0) := by rw [he2.cell _ _ hbn hl0]; exact hr0
    have kr1 : w2.cell? ⟨w.heap.size, 1, none⟩ = some (.int .i64 0) := by rw [he2.cell _ _ hbn hl0]; exact hr1
    have kf0 : w2.frozen? ⟨w.heap.size, 0, none⟩ = false := by rw [he2.frozen _ _ hbn hl0]; exact hf0
    have kf1 : w2.frozen? ⟨w.heap.size, 1, none⟩ = false := by rw [he2.frozen _ _ hbn hl0]; exact hf1
    have HE2 : Hid (Ex b w w2) := HE.out.trans he2
    clear hr0 hr1 hf0 hf1 hc he2 hl0
    go_wp2_with fail
    have hz : (z/16777216*16777216=z-z%sz 8) := (quo_lit z 8 16777216 (by decide +kernel))
    refine bodyPost_ret (v := .agg #[.int .u32 (z - z % sz 8), .int .i64 8]) (by simp [results, Try.results26, go_sem, kr0, kr1, hz]) rfl ⟨z - z % sz 8, 8, rfl, ?_, ?_, vld_cut z 8 (by omega) (by omega), ?_, ?_⟩
    · have := mod_sz z 8 z0; omega
    · have := mod_sz z 8 z0; omega
    · exact (hc2.set _ _ hbn hBw _).set _ _ hbn hBw _
    · exact (HE2.out.setNew (by simp) _).setNew (by simp) _
  · have hc := hK 2 (.int .i64 16) rfl
    clear hK
    go_wp2_with fail
    refine (address_i b _ hc1).mono ?_
    rintro e w2 ⟨z, rfl, z0, z1, hc2, he2⟩
    have hl0 : w.heap.size < w1.heap.size := World.block_lt_of_cell? w1 _ hr0
    have kr0 : w2.cell? ⟨w.heap.size, 0, none⟩ = some (.int .u32 0) := by rw [he2.cell _ _ hbn hl0]; exact hr0
    have kr1 : w2.cell? ⟨w.heap.size, 1, none⟩ = some (.int .i64 0) := by rw [he2.cell _ _ hbn hl0]; exact hr1
    have kf0 : w2.frozen? ⟨w.heap.size, 0, none⟩ = false := by rw [he2.frozen _ _ hbn hl0]; exact hf0
    have kf1 : w2.frozen? ⟨w.heap.size, 1, none⟩ = false := by rw [he2.frozen _ _ hbn hl0]; exact hf1
    have HE2 : Hid (Ex b w w2) := HE.out.trans he2
    clear hr0 hr1 hf0 hf1 hc he2 hl0
    go_wp2_with fail
    have hz : (z/65536*65536=z-z%sz 16) := (quo_lit z 16 65536 (by decide +kernel))
    refine bodyPost_ret (v := .agg #[.int .u32 (z - z % sz 16), .int .i64 16]) (by simp [results, Try.results26, go_sem, kr0, kr1, hz]) rfl ⟨z - z % sz 16, 16, rfl, ?_, ?_, vld_cut z 16 (by omega) (by omega), ?_, ?_⟩
    · have := mod_sz z 16 z0; omega
    · have := mod_sz z 16 z0; omega
    · exact (hc2.set _ _ hbn hBw _).set _ _ hbn hBw _
    · exact (HE2.out.setNew (by simp) _).setNew (by simp) _
  · have hc := hK 3 (.int .i64 24) rfl
    clear hK
    go_wp2_with fail
    refine (address_i b _ hc1).mono ?_
    rintro e w2 ⟨z, rfl, z0, z1, hc2, he2⟩
    have hl0 : w.heap.size < w1.heap.size := World.block_lt_of_cell? w1 _ hr0
    have kr0 : w2.cell? ⟨w.heap.size, 0, none⟩ = some (.int .u32 0) := by rw [he2.cell _ _ hbn hl0]; exact hr0
    have kr1 : w2.cell? ⟨w.heap.size, 1, none⟩ = some (.int .i64 0) := by rw [he2.cell _ _ hbn hl0]; exact hr1
    have kf0 : w2.frozen? ⟨w.heap.size, 0, none⟩ = false := by rw [he2.frozen _ _ hbn hl0]; exact hf0
    have kf1 : w2.frozen? ⟨w.heap.size, 1, none⟩ = false := by rw [he2.frozen _ _ hbn hl0]; exact hf1
    have HE2 : Hid (Ex b w w2) := HE.out.trans he2
    clear hr0 hr1 hf0 hf1 hc he2 hl0
    go_wp2_with fail
    have hz : (z/256*256=z-z%sz 24) := (quo_lit z 24 256 (by decide +kernel))
    refine bodyPost_ret (v := .agg #[.int .u32 (z - z % sz 24), .int .i64 24]) (by simp [results, Try.results26, go_sem, kr0, kr1, hz]) rfl ⟨z - z % sz 24, 24, rfl, ?_, ?_, vld_cut z 24 (by omega) (by omega), ?_, ?_⟩
    · have := mod_sz z 24 z0; omega
    · have := mod_sz z 24 z0; omega
    · exact (hc2.set _ _ hbn hBw _).set _ _ hbn hBw _
    · exact (HE2.out.setNew (by simp) _).setNew (by simp) _
  · have hc := hK 4 (.int .i64 29) rfl
    clear hK
    go_wp2_with fail
    refine (address_i b _ hc1).mono ?_
    rintro e w2 ⟨z, rfl, z0, z1, hc2, he2⟩
    have hl0 : w.heap.size < w1.heap.size := World.block_lt_of_cell? w1 _ hr0
    have kr0 : w2.cell? ⟨w.heap.size, 0, none⟩ = some (.int .u32 0) := by rw [he2.cell _ _ hbn hl0]; exact hr0
    have kr1 : w2.cell? ⟨w.heap.size, 1, none⟩ = some (.int .i64 0) := by rw [he2.cell _ _ hbn hl0]; exact hr1
    have kf0 : w2.frozen? ⟨w.heap.size, 0, none⟩ = false := by rw [he2.frozen _ _ hbn hl0]; exact hf0
    have kf1 : w2.frozen? ⟨w.heap.size, 1, none⟩ = false := by rw [he2.frozen _ _ hbn hl0]; exact hf1
    have HE2 : Hid (Ex b w w2) := HE.out.trans he2
    clear hr0 hr1 hf0 hf1 hc he2 hl0
    go_wp2_with fail
    have hz : (z/8*8=z-z%sz 29) := (quo_lit z 29 8 (by decide +kernel))
    refine bodyPost_ret (v := .agg #[.int .u32 (z - z % sz 29), .int .i64 29]) (by simp [results, Try.results26, go_sem, kr0, kr1, hz]) rfl ⟨z - z % sz 29, 29, rfl, ?_, ?_, vld_cut z 29 (by omega) (by omega), ?_, ?_⟩
    · have := mod_sz z 29 z0; omega
    · have := mod_sz z 29 z0; omega
    · exact (hc2.set _ _ hbn hBw _).set _ _ hbn hBw _
    · exact (HE2.out.setNew (by simp) _).setNew (by simp) _
  · have hc := hK 5 (.int .i64 30) rfl
    clear hK
    go_wp2_with fail
    refine (address_i b _ hc1).mono ?_
    rintro e w2 ⟨z, rfl, z0, z1, hc2, he2⟩
    have hl0 : w.heap.size < w1.heap.size := World.block_lt_of_cell? w1 _ hr0
    have kr0 : w2.cell? ⟨w.heap.size, 0, none⟩ = some (.int .u32 0) := by rw [he2.cell _ _ hbn hl0]; exact hr0
    have kr1 : w2.cell? ⟨w.heap.size, 1, none⟩ = some (.int .i64 0) := by rw [he2.cell _ _ hbn hl0]; exact hr1
    have kf0 : w2.frozen? ⟨w.heap.size, 0, none⟩ = false := by rw [he2.frozen _ _ hbn hl0]; exact hf0
    have kf1 : w2.frozen? ⟨w.heap.size, 1, none⟩ = false := by rw [he2.frozen _ _ hbn hl0]; exact hf1
    have HE2 : Hid (Ex b w w2) := HE.out.trans he2
    clear hr0 hr1 hf0 hf1 hc he2 hl0
    go_wp2_with fail
    have hz : (z/4*4=z-z%sz 30) := (quo_lit z 30 4 (by decide +kernel))
    refine bodyPost_ret (v := .agg #[.int .u32 (z - z % sz 30), .int .i64 30]) (by simp [results, Try.results26, go_sem, kr0, kr1, hz]) rfl ⟨z - z % sz 30, 30, rfl, ?_, ?_, vld_cut z 30 (by omega) (by omega), ?_, ?_⟩
    · have := mod_sz z 30 z0; omega
    · have := mod_sz z 30 z0; omega
    · exact (hc2.set _ _ hbn hBw _).set _ _ hbn hBw _
    · exact (HE2.out.setNew (by simp) _).setNew (by simp) _
  · have hc := hK 6 (.int .i64 31) rfl
    clear hK
    go_wp2_with fail
    refine (address_i b _ hc1).mono ?_
    rintro e w2 ⟨z, rfl, z0, z1, hc2, he2⟩
    have hl0 : w.heap.size < w1.heap.size := World.block_lt_of_cell? w1 _ hr0
    have kr0 : w2.cell? ⟨w.heap.size, 0, none⟩ = some (.int .u32 0) := by rw [he2.cell _ _ hbn hl0]; exact hr0
    have kr1 : w2.cell? ⟨w.heap.size, 1, none⟩ = some (.int .i64 0) := by rw [he2.cell _ _ hbn hl0]; exact hr1
    have kf0 : w2.frozen? ⟨w.heap.size, 0, none⟩ = false := by rw [he2.frozen _ _ hbn hl0]; exact hf0
    have kf1 : w2.frozen? ⟨w.heap.size, 1, none⟩ = false := by rw [he2.frozen _ _ hbn hl0]; exact hf1
    have HE2 : Hid (Ex b w w2) := HE.out.trans he2
    clear hr0 hr1 hf0 hf1 hc he2 hl0
    go_wp2_with fail
    have hz : (z/2*2=z-z%sz 31) := (quo_lit z 31 2 (by decide +kernel))
    refine bodyPost_ret (v := .agg #[.int .u32 (z - z % sz 31), .int .i64 31]) (by simp [results, Try.results26, go_sem, kr0, kr1, hz]) rfl ⟨z - z % sz 31, 31, rfl, ?_, ?_, vld_cut z 31 (by omega) (by omega), ?_, ?_⟩
    · have := mod_sz z 31 z0; omega
    · have := mod_sz z 31 z0; omega
    · exact (hc2.set _ _ hbn hBw _).set _ _ hbn hBw _
    · exact (HE2.out.setNew (by simp) _).setNew (by simp) _
  · have hc := hK 7 (.int .i64 32) rfl
    clear hK
    go_wp2_with fail
    refine (address_i b _ hc1).mono ?_
    rintro e w2 ⟨z, rfl, z0, z1, hc2, he2⟩
    have hl0 : w.heap.size < w1.heap.size := World.block_lt_of_cell? w1 _ hr0
    have kr0 : w2.cell? ⟨w.heap.size, 0, none⟩ = some (.int .u32 0) := by rw [he2.cell _ _ hbn hl0]; exact hr0
    have kr1 : w2.cell? ⟨w.heap.size, 1, none⟩ = some (.int .i64 0) := by rw [he2.cell _ _ hbn hl0]; exact hr1
    have kf0 : w2.frozen? ⟨w.heap.size, 0, none⟩ = false := by rw [he2.frozen _ _ hbn hl0]; exact hf0
    have kf1 : w2.frozen? ⟨w.heap.size, 1, none⟩ = false := by rw [he2.frozen _ _ hbn hl0]; exact hf1
    have HE2 : Hid (Ex b w w2) := HE.out.trans he2
    clear hr0 hr1 hf0 hf1 hc he2 hl0
    go_wp2_with fail
    have hz : (z-z%sz 32=z) := (quo_one z)
    refine bodyPost_ret (v := .agg #[.int .u32 (z - z % sz 32), .int .i64 32]) (by simp [results, Try.results26, go_sem, kr0, kr1, hz]) rfl ⟨z - z % sz 32, 32, rfl, ?_, ?_, vld_cut z 32 (by omega) (by omega), ?_, ?_⟩
    · have := mod_sz z 32 z0; omega
    · have := mod_sz z 32 z0; omega
    · exact (hc2.set _ _ hbn hBw _).set _ _ hbn hBw _
    · exact (HE2.out.setNew (by simp) _).setNew (by simp) _
theorem Cod.grown {B : Nat} {w w' : World} {b : Nat} {row : Option Nat} (h : Cod B w b) (g : w.grownBy w' row) (hr : ∀ k, row = some k → k ≠ b ∧ B ≤ k) : Cod B w' b := by
  have hl := h.lt
  obtain ⟨a, len, cap, k, h0, h1, h2, h3, h4, h5, h6⟩ := h.ex
  have hb : w'.heap[b]? = w.heap[b]? := g.block b hl (fun e => (hr b e.symm).1 rfl)
  refine ⟨h.base, a, len, cap, k, by rw [World.cell?_of_block hb]; exact h0, by rw [World.cell?_of_block hb]; exact h1, h2, h3, by rw [World.frozen?_of_block hb]; exact h4, fun i hi => ?_, h6⟩
  obtain ⟨ab, off, z, e, hc, hz⟩ := h5 i hi
  have hlt := h6 (by omega) _ e
  dsimp only at hlt
  refine ⟨ab, off, z, e, ?_, hz⟩
  rw [World.cell?_of_block (g.block ab (World.block_lt_of_cell? _ _ hc) (fun e => by have := (hr ab e.symm).2; omega))]
  exact hc
theorem Ex.grownNew {b : Nat} {u v w : World} {row : Option Nat} (h : Ex b u v) (g : v.grownBy w row) (hr : ∀ k, row = some k → u.heap.size ≤ k) : Ex b u w :=
  ⟨g.os.trans h.os, g.tape.trans h.tape, g.output.trans h.output, Nat.le_trans h.size g.size, fun k hk hs => (g.block k (Nat.lt_of_lt_of_le hs h.size) (fun e => by have := hr k e.symm; omega)).trans (h.block k hk hs)⟩
theorem Ex.grownBy {b : Nat} {w w' : World} (h : Ex b w w') : w.grownBy w' (some b) := ⟨h.os, h.tape, h.output, h.size, fun k hk hne => h.block k (fun e => hne (by rw [e])) hk⟩
theorem OwI.ex {base b : Nat} {w w' : World} {v : Value} {l : List Int} (h : OwI base w v l) (g : Ex b w w') (hb : b < base) : OwI base w' v l := by
  refine World.ownsRow.kept h (Ex.grownBy g) (.inr fun e => ?_)
  have := (World.ownsRow.lt h b e).1
  omega
theorem Ri.ex {r : Nat} {p : Nat → Prop} {w w' : World} {v : Value} {l : List Int} (h : Ri p w v l) (g : Ex r w w') (hr : ∀ b, p b → b ≠ r) : Ri p w' v l :=
  h.keep fun b hp hb => ⟨hp, fun o => g.cell b o (hr b hp) hb⟩
theorem Rv.ex {r : Nat} {p : Nat → Prop} {w w' : World} {v : Value} {x : Rt} (h : Rv p w v x) (g : Ex r w w') (hr : ∀ b, p b → b ≠ r) : Rv p w' v x := by
  obtain ⟨nv, e, ho, hn⟩ := h
  exact ⟨nv, e, ho, hn.ex g hr⟩
/-- next links out of the numbers below k, ascending -/
def NxOk (k : Int) (l : List Int) : Prop := l.Pairwise (fun x y => x < y) ∧ ∀ x ∈ l, 0 ≤ x ∧ x < k
theorem nxOk_mono {k m : Int} {l : List Int} (h : NxOk k l) (hk : k ≤ m) : NxOk m l := ⟨h.1, fun x hx => by have := h.2 x hx; omega⟩
theorem nxOk_snoc {k : Int} {l : List Int} (h : NxOk k l) (hk : 0 ≤ k) : NxOk (k + 1) (l ++ [k]) := by
  refine ⟨?_, fun x hx => ?_⟩
  · rw [List.pairwise_append]
    refine ⟨h.1, List.pairwise_singleton _ _, fun x hx y hy => ?_⟩
    rw [List.mem_singleton] at hy
    subst hy
    exact (h.2 x hx).2
  · rcases List.mem_append.1 hx with h1 | h1
    · have := h.2 x h1; omega
    · rw [List.mem_singleton] at h1; subst h1; omega
/-- a right route over the links 0 to 5 -/
def RtOk (r : Rt) : Prop := vld r.a r.n = true ∧ 1 ≤ r.bal ∧ r.bal ≤ 3 ∧ NxOk 6 r.nx ∧ r.nx.length ≤ 6
def RtPost (B b : Nat) (w : World) (e : Ending) (w' : World) : Prop := ∃ v r, e = .returned v ∧ Rv (fun k => w.heap.size ≤ k) w' v r ∧ RtOk r ∧ Cod B w' b ∧ Ex b w w'
set_option maxHeartbeats 1000000 in
theorem route_any {B : Nat} (b : Nat) (w : World) (h : Cod B w b) (hBw : B ≤ w.heap.size) :
    Calls Try.prog 10 #[.pointer (some ⟨b, 0, none⟩)] w (RtPost B b w) := by
  have hlt := h.lt
  go_enter Try.func10, Try.ntmps10
  go_wp2_with fail
  have gA : Gr w (w.alloc (.cells #[.int .u32 0, .int .i64 0, .slice none 0 0, .int .i64 0] 34)) := (Gr.refl _).alloc _
  have kA : CL (w.alloc (.cells #[.int .u32 0, .int .i64 0, .slice none 0 0, .int .i64 0] 34)) w.heap.size [.int .u32 0, .int .i64 0, .slice none 0 0, .int .i64 0] := CL.new _ _ _ _ rfl
  generalize w.alloc (.cells #[.int .u32 0, .int .i64 0, .slice none 0 0, .int .i64 0] 34) = wa at *
  refine (prefix_any b wa (h.gr gA) (Nat.le_trans hBw (Gr.size gA))).mono ?_
  rintro e w1 ⟨x, n, rfl, x0, x1, hv, hc1, he1⟩
  go_wp2_with fail
  refine (next_any b 3 w1 (by omega) (by omega) hc1).mono ?_
  rintro e w2 ⟨y, rfl, y0, y1, hc2, he2⟩
  have hE2 : Ex b w w2 := ((Ex.ofGr gA).trans he1).trans he2
  have k2 := (kA.ex he1 (by omega)).ex he2 (by omega)
  have hl2 := k2.lt
  have HV := Lib.hid hv
  clear hv kA
  go_wp2_with fail
  have kN : CL (w2.alloc (.cells #[.int .u32 x, .int .i64 n, .slice none 0 0, .int .i64 (1 + y)] 34)) w2.heap.size [.int .u32 x, .int .i64 n, .slice none 0 0, .int .i64 (1 + y)] := CL.new _ _ _ _ rfl
  have gN : Gr w2 (w2.alloc (.cells #[.int .u32 x, .int .i64 n, .slice none 0 0, .int .i64 (1 + y)] 34)) := (Gr.refl _).alloc _
  generalize w2.alloc (.cells #[.int .u32 x, .int .i64 n, .slice none 0 0, .int .i64 (1 + y)] 34) = w3 at *
  generalize hg : w2.heap.size = g at *
  have hE3 : Ex b w w3 := hE2.trans (Ex.ofGr gN)
  have hbg : b < g := by have := hE2.size; omega
  clear hE2 hg
  go_loopw [4] (fun i wr => ∃ (k : Nat) (nv : Value) (l : List Int), i = .int .i64 k ∧ k ≤ 6 ∧ CL wr g [.int .u32 x, .int .i64 n, nv, .int .i64 (1 + y)] ∧ OwI (g + 1) wr nv l ∧ NxOk k l ∧ l.length ≤ k ∧ Cod B wr b ∧ Ex b w wr ∧ CL wr w.heap.size [.int .u32 0, .int .i64 0, .slice none 0 0, .int .i64 0])
    (fun i _ => 6 - (intOf i).toNat)
  case atStart =>
    exact ⟨0, _, [], rfl, by omega, kN, OwI.nil _ _, ⟨List.Pairwise.nil, fun x hx => by cases hx⟩, by simp, hc2.gr gN, hE3, k2.gr gN⟩
  case round =>
    obtain ⟨k, nv, l, rfl, hk, hC, hO, hnx, hll, hcd, hE, hR⟩ := hrel
    obtain ⟨ad, cp, rfl⟩ := hO.ri.form
    have HNX := Lib.hid hnx
    have HLL := Lib.hid hll
    clear hnx hll
    by_cases hlt6 : k < 6
    · have k6 : (k : Int) < 6 := by omega
      go_wp2_with fail
      refine (next_any b 3 wr (by omega) (by omega) hcd).mono ?_
      rintro e w4 ⟨z, rfl, z0, z1, hc4, he4⟩
      have hC4 := hC.ex he4 (by omega)
      have hO4 := hO.ex he4 (by omega)
      have hR4 := hR.ex he4 (by omega)
      have hE4 := hE.trans he4
      have HC := Lib.hid hC4
      have HO := Lib.hid hO4
      have HR := Lib.hid hR4
      have HCD := Lib.hid hc4
      obtain ⟨⟨a0, a1, a2, a3⟩, f0, f1, f2, f3⟩ := hC4.four
      have hlg : g < w4.heap.size := hC4.lt
      clear hC hO hR hC4 hO4 hR4 hcd hc4 he4 hE
      by_cases hz : z = 0
      · have hd : (z == 0) = true := by simp [hz]
        have hri : Ri (fun _ => True) (w4.alloc (.cells #[.int .i64 k] 3)) (.slice (some ⟨w4.heap.size, 0, none⟩) 1 1) [(k : Int)] :=
          ⟨_, 1, rfl, by simp, by omega, (fun h => by cases h), fun i hi => ⟨w4.heap.size, 0, rfl, trivial, by simp at hi; subst hi; simp⟩⟩
        have HRI := Lib.hid hri
        have HO5 := Lib.hid (HO.out.gr ((Gr.refl _).alloc (.cells #[.int .i64 k] 3)))
        clear hri
        have hcA := HC.out.gr ((Gr.refl _).alloc (.cells #[.int .i64 k] 3))
        have hrA := HR.out.gr ((Gr.refl _).alloc (.cells #[.int .i64 k] 3))
        have hkA := HCD.out.gr ((Gr.refl _).alloc (.cells #[.int .i64 k] 3))
        have hEA := hE4.trans (Ex.ofGr ((Gr.refl _).alloc (.cells #[.int .i64 k] 3)))
        have HCA := Lib.hid hcA
        have HRA := Lib.hid hrA
        have HKA := Lib.hid hkA
        have HEA := Lib.hid hEA
        clear hcA hrA hkA hEA a0 a1 a2 a3 f0 f1 f2 f3
        obtain ⟨⟨a0, a1, a2, a3⟩, f0, f1, f2, f3⟩ := HC.out.four
        go_wp2_with (at_builtin; refine wpList_addI (base := g + 1) rfl (.tmp 19) (.tmp 21) rfl rfl HO5.out rfl HRI.out (by have := HLL.out; simp; omega) (by simp; omega) ?_; intro v5 w5 ho5 g5; have hc5 := HCA.out.grown g5 (fun e => by have := (World.ownsRow.lt HO5.out _ e).1; omega); have hr5 := HRA.out.grown g5 (fun e => by have := (World.ownsRow.lt HO5.out _ e).1; omega); have hk5 := HKA.out.grown g5 (fun k hk => by have := (World.ownsRow.lt HO5.out _ hk).1; exact ⟨by omega, by omega⟩); have hE5 := HEA.out.grownNew g5 (fun k hk => by have := (World.ownsRow.lt HO5.out _ hk).1; omega); clear g5; have HO6 := Lib.hid ho5; obtain ⟨ad5, cp5, rfl⟩ := ho5.ri.form; have HC5 := Lib.hid hc5; have HR5 := Lib.hid hr5; have HK5 := Lib.hid hk5; obtain ⟨⟨b0, b1, b2, b3⟩, q0, q1, q2, q3⟩ := hc5.four; clear ho5 hc5 hr5 hk5)
        case roundEnd =>
          refine ⟨⟨k + 1, _, l ++ [(k : Int)], rfl, by omega, HC5.out.set 2 _ (by simp), ?_, nxOk_snoc HNX.out (by omega), by have := HLL.out; simp; omega, HK5.out.set g 2 (by omega) (by omega) _, hE5.setNew (p := ⟨g, 2, none⟩) (by simp; omega) _, HR5.out.other _ (by omega)⟩, by simp only [intOf]; omega⟩
          have h6 := HO6.out
          rw [List.length_append, List.length_singleton] at h6
          refine World.ownsRow.kept h6 (Ex.grownBy (Ex.set (Ex.refl g _) 2 _)) (.inr fun e => ?_)
          have := (World.ownsRow.lt h6 _ e).1
          omega
      · have hd : (z == 0) = false := by simp [hz]
        go_wp2_with fail
        case roundEnd =>
          exact ⟨⟨k + 1, _, l, rfl, by omega, HC.out, HO.out, nxOk_mono HNX.out (by omega), by have := HLL.out; omega, HCD.out, hE4, HR.out⟩, by simp only [intOf]; omega⟩
    · obtain rfl : k = 6 := by omega
      obtain ⟨⟨a0, a1, a2, a3⟩, f0, f1, f2, f3⟩ := hC.four
      obtain ⟨⟨b0, b1, b2, b3⟩, q0, q1, q2, q3⟩ := hR.four
      have HC := Lib.hid hC
      have HO := Lib.hid hO
      have HR := Lib.hid hR
      have HCD := Lib.hid hcd
      clear hC hO hR hcd
      go_wp2_with fail
      refine bodyPost_ret (v := .agg #[.int .u32 x, .int .i64 n, .slice ad l.length cp, .int .i64 (1 + y)]) (by simp [results, Try.results10, go_sem, b0, b1, b2, b3]) rfl ?_
      refine ⟨_, ⟨x, n, l, 1 + y⟩, rfl, ⟨_, rfl, ⟨x0, x1⟩, ?_⟩, ⟨HV.out, by dsimp only; omega, by dsimp only; omega, HNX.out, HLL.out⟩, ?_, ?_⟩
      · refine HO.out.ri.keep fun k hk _ => ⟨by omega, fun o => ?_⟩
        simp only [far_cell (show k ≠ w.heap.size by omega)]
      · exact (((HCD.out.set w.heap.size 0 (by omega) hBw _).set w.heap.size 1 (by omega) hBw _).set w.heap.size 2 (by omega) hBw _).set w.heap.size 3 (by omega) hBw _
      · exact (((hE.setNew (p := ⟨w.heap.size, 0, none⟩) (by simp) _).setNew (p := ⟨w.heap.size, 1, none⟩) (by simp) _).setNew (p := ⟨w.heap.size, 2, none⟩) (by simp) _).setNew (p := ⟨w.heap.size, 3, none⟩) (by simp) _
end Go.Proofs.Ytefocmcpeigfcaa
