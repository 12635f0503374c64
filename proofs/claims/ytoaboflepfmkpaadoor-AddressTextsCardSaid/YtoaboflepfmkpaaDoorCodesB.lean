/- Choices: New, Prefix. -/
import Derived.Test.YtoaboflepfmkpaaDoorCodes
import Derived.WalkKit
import Derived.WalkSpells
import Derived.WalkLawsBesides
import Derived.WalkSmall
import Derived.Handy
import Derived.BigQuiet
import Derived.Deep.QuietTactic
import Derived.Deep.RegionHeld3
import Derived.Deep.DeepFit
import Derived.Below
import Derived.Lib.Hide
import Derived.Lib.QuietBelow
namespace Go.Proofs.YtoaboflepfmkpaaDoor
open Go Go.RowKit Go.Sort
set_option maxRecDepth 100000
set_option linter.unusedVariables false

/-- a slice of bytes that can be read, as a value -/
def BytesV (B : Nat) (w : World) (v : Value) (len : Nat) : Prop := ∃ (a : Option Addr) (cap : Nat), v = .slice a len cap ∧ len ≤ cap ∧ Bytes w a len ∧ B ≤ w.heap.size ∧ (0 < len → ∀ x, a = some x → x.block < B)
theorem BytesV.gr {B : Nat} {w w' : World} {v : Value} {len : Nat} (h : BytesV B w v len) (g : Gr w w') : BytesV B w' v len := by
  obtain ⟨a, cap, rfl, hc, hb, hB, hl⟩ := h
  refine ⟨a, cap, rfl, hc, ?_, Nat.le_trans hB (Gr.size g), hl⟩
  exact hb.ex (b := w.heap.size) (ne_lt hB hl) (Ex.ofGr g)

def NewPost (B : Nat) (w : World) (e : Ending) (w' : World) : Prop := ∃ b : Nat, e = .returned (.pointer (some ⟨b, 0, none⟩)) ∧ b = w.heap.size ∧ Cod B w' b ∧ Gr w w'
theorem new_any {B : Nat} (v : Value) (len : Nat) (w : World) (hl : len ≤ 9223372036854775807) (h : BytesV B w v len) :
    Calls Tryd.prog 13 #[v, .int .i64 40] w (NewPost B w) := by
  obtain ⟨a, cap, rfl, hcap, hb, hB, hlt⟩ := h
  by_cases h40 : 40 < len
  · have d1 : (40 : Int) < (len : Int) := by omega
    have d2 : (40 : Int) ≤ (cap : Int) := by omega
    have d3 : 40 ≤ cap := by omega
    have Hb := Lib.hid hb
    have Hl := Lib.hid hlt
    have Hc : Hid (Cod B (w.alloc (.cells #[.slice a 40 cap, .int .i64 0] 61)) w.heap.size) :=
      ⟨hB, a, 40, cap, 0, by simp, by simp, by omega, by omega, by simp, Bytes.ex (b := w.heap.size) (fun i hi => hb i (by omega)) (ne_lt (len := 40) hB (fun _ => hlt (by omega))) (Ex.ofGr (Gr.alloc (Gr.refl _) _)), fun _ => hlt (by omega)⟩
    clear hb hlt
    go_enter Tryd.func13, Tryd.ntmps13
    go_wp2
    go_ret
    exact ⟨w.heap.size, rfl, rfl, Hc.out, (by repeat' (first | (with_reducible exact Gr.refl _) | (with_reducible assumption) | (with_reducible refine Gr.drewN ?_ _) | (with_reducible refine Gr.drew ?_) | (with_reducible refine Gr.alloc ?_ _) | (with_reducible refine Gr.setCell ?_ ?_ _) | (with_reducible refine Gr.grow ?_ _ _) | (refine Gr.step ?_ (by with_reducible assumption)) | go_size))⟩
  · have d1 : ¬ (40 : Int) < (len : Int) := by omega
    have Hc : Hid (Cod B (w.alloc (.cells #[.slice a len cap, .int .i64 0] 61)) w.heap.size) :=
      ⟨hB, a, len, cap, 0, by simp, by simp, by omega, by omega, by simp, Bytes.ex (b := w.heap.size) hb (ne_lt hB hlt) (Ex.ofGr (Gr.alloc (Gr.refl _) _)), hlt⟩
    have Hl := Lib.hid hlt
    clear hb hlt
    go_enter Tryd.func13, Tryd.ntmps13
    go_wp2
    go_ret
    exact ⟨w.heap.size, rfl, rfl, Hc.out, (by repeat' (first | (with_reducible exact Gr.refl _) | (with_reducible assumption) | (with_reducible refine Gr.drewN ?_ _) | (with_reducible refine Gr.drew ?_) | (with_reducible refine Gr.alloc ?_ _) | (with_reducible refine Gr.setCell ?_ ?_ _) | (with_reducible refine Gr.grow ?_ _ _) | (refine Gr.step ?_ (by with_reducible assumption)) | go_size))⟩

def PrPost (B b : Nat) (w : World) (e : Ending) (w' : World) : Prop := ∃ x n : Int, e = .returned (.agg #[.int .u32 x, .int .i64 n]) ∧ 0 ≤ x ∧ x < 4294967296 ∧ vld x n = true ∧ Cod B w' b ∧ Ex b w w'
theorem Ex.setNew {b : Nat} {u v : World} (h : Ex b u v) {p : Addr} (hp : u.heap.size ≤ p.block) (x : Value) : Ex b u (v.setCell p x) :=
  ⟨h.os, h.tape, h.output, by simpa using h.size, fun k hk hs => (Below.heap_setCell v p x k (by omega)).trans (h.block k hk hs)⟩
theorem shl_shr (x n : Int) (h0 : 0 ≤ n) (h1 : n ≤ 32) : x / 2 ^ (32 - n).toNat * 2 ^ (32 - n).toNat = x - x % sz n := by
  rw [← quo_sz]
  have : (2 : Int) ^ (32 - n).toNat = sz n := by rw [← size_eq n h0 h1, Int.one_mul]
  rw [this]
theorem quo_lit (z n S : Int) (h : sz n = S) : z / S * S = z - z % sz n := by rw [← h]; exact quo_sz z n
theorem quo_one (z : Int) : z - z % sz 32 = z := by rw [sz_32]; omega
theorem vld_cut (x n : Int) (h0 : 0 ≤ n) (h1 : n ≤ 32) : vld (x - x % sz n) n = true := by
  rw [vld_iff]; refine ⟨h0, h1, ?_⟩
  rw [← quo_sz]; exact Int.mul_emod_left _ _

theorem prefix_any {B : Nat} (b : Nat) (w : World) (h : Cod B w b) (hBw : B ≤ w.heap.size) :
    Calls Tryd.prog 14 #[.pointer (some ⟨b, 0, none⟩)] w (PrPost B b w) := by
  have hlt := h.lt
  go_enter Tryd.func14, Tryd.ntmps14
  go_wp2_with fail
  refine (next_any b 8 _ (by omega) (by omega) (h.gr (Gr.alloc (Gr.alloc (Gr.refl _) _) _))).mono ?_
  rintro e w1 ⟨x, rfl, p0, p1, hc1, he1⟩
  have hr0 : w1.cell? ⟨w.heap.size, 0, none⟩ = some (.int .u32 0) := by rw [he1.cell _ _ (by omega) (by go_size)]; first | (simp; done) | go_cell
  have hr1 : w1.cell? ⟨w.heap.size, 1, none⟩ = some (.int .i64 0) := by rw [he1.cell _ _ (by omega) (by go_size)]; first | (simp; done) | go_cell
  have hf0 : w1.frozen? ⟨w.heap.size, 0, none⟩ = false := by rw [he1.frozen _ _ (by omega) (by go_size)]; first | (simp; done) | (simp [go_sem]; done)
  have hf1 : w1.frozen? ⟨w.heap.size, 1, none⟩ = false := by rw [he1.frozen _ _ (by omega) (by go_size)]; first | (simp; done) | (simp [go_sem]; done)
  have hE : Ex b w w1 := (Ex.ofGr (Gr.alloc (Gr.alloc (Gr.refl _) _) _)).trans he1
  have hbn : w.heap.size ≠ b := by omega
  have hK : ∀ j v, (#[.int .i64 0, .int .i64 8, .int .i64 16, .int .i64 24, .int .i64 29, .int .i64 30, .int .i64 31, .int .i64 32] : Array Value)[j]? = some v → w1.cell? ⟨w.heap.size + 1, j, none⟩ = some v := by
    intro j v hj
    rw [he1.cell _ _ (by omega) (by go_size)]
    have := World.cell?_alloc_new (w.alloc (.cells #[.int .u32 0, .int .i64 0] 36)) #[.int .i64 0, .int .i64 8, .int .i64 16, .int .i64 24, .int .i64 29, .int .i64 30, .int .i64 31, .int .i64 32] 3 j
    simp only [World.size_alloc] at this
    rw [this]; exact hj
  have HE := Lib.hid hE
  clear he1 hE
  have hx : x = 0 ∨ x = 1 ∨ x = 2 ∨ x = 3 ∨ x = 4 ∨ x = 5 ∨ x = 6 ∨ x = 7 := by omega
  rcases hx with rfl | rfl | rfl | rfl | rfl | rfl | rfl | rfl
  · have hc := hK 0 (.int .i64 0) rfl
    clear hK
    go_wp2
    refine bodyPost_ret (v := .agg #[.int .u32 0, .int .i64 0]) (by simp [results, Tryd.results14, go_sem, hr0, hr1]) rfl ⟨0, 0, rfl, by omega, by omega, by decide +kernel, ?_, ?_⟩
    · exact (hc1.set _ _ hbn hBw _).set _ _ hbn hBw _
    · exact (HE.out.setNew (by simp) _).setNew (by simp) _
  · have hc := hK 1 (.int .i64 8) rfl
    clear hK
    go_wp2_with fail
    refine (address_any b _ hc1).mono ?_
    rintro e w2 ⟨z, rfl, z0, z1, hc2, he2⟩
    have hl0 : w.heap.size < w1.heap.size := World.block_lt_of_cell? w1 _ hr0
    have kr0 : w2.cell? ⟨w.heap.size, 0, none⟩ = some (.int .u32 0) := by rw [he2.cell _ _ hbn hl0]; exact hr0
    have kr1 : w2.cell? ⟨w.heap.size, 1, none⟩ = some (.int .i64 0) := by rw [he2.cell _ _ hbn hl0]; exact hr1
    have kf0 : w2.frozen? ⟨w.heap.size, 0, none⟩ = false := by rw [he2.frozen _ _ hbn hl0]; exact hf0
    have kf1 : w2.frozen? ⟨w.heap.size, 1, none⟩ = false := by rw [he2.frozen _ _ hbn hl0]; exact hf1
    have HE2 : Hid (Ex b w w2) := HE.out.trans he2
    clear hr0 hr1 hf0 hf1 hc he2 hl0
    go_wp2_with fail
    have hz : (z/16777216*16777216=z-z%sz 8) := (quo_lit z 8 16777216 (by decide +kernel))
    refine bodyPost_ret (v := .agg #[.int .u32 (z - z % sz 8), .int .i64 8]) (by simp [results, Tryd.results14, go_sem, kr0, kr1, hz]) rfl ⟨z - z % sz 8, 8, rfl, ?_, ?_, vld_cut z 8 (by omega) (by omega), ?_, ?_⟩
    · have := mod_sz z 8 z0; omega
    · have := mod_sz z 8 z0; omega
    · exact (hc2.set _ _ hbn hBw _).set _ _ hbn hBw _
    · exact (HE2.out.setNew (by simp) _).setNew (by simp) _
  · have hc := hK 2 (.int .i64 16) rfl
    clear hK
    go_wp2_with fail
    refine (address_any b _ hc1).mono ?_
    rintro e w2 ⟨z, rfl, z0, z1, hc2, he2⟩
    have hl0 : w.heap.size < w1.heap.size := World.block_lt_of_cell? w1 _ hr0
    have kr0 : w2.cell? ⟨w.heap.size, 0, none⟩ = some (.int .u32 0) := by rw [he2.cell _ _ hbn hl0]; exact hr0
    have kr1 : w2.cell? ⟨w.heap.size, 1, none⟩ = some (.int .i64 0) := by rw [he2.cell _ _ hbn hl0]; exact hr1
    have kf0 : w2.frozen? ⟨w.heap.size, 0, none⟩ = false := by rw [he2.frozen _ _ hbn hl0]; exact hf0
    have kf1 : w2.frozen? ⟨w.heap.size, 1, none⟩ = false := by rw [he2.frozen _ _ hbn hl0]; exact hf1
    have HE2 : Hid (Ex b w w2) := HE.out.trans he2
    clear hr0 hr1 hf0 hf1 hc he2 hl0
    go_wp2_with fail
    have hz : (z/65536*65536=z-z%sz 16) := (quo_lit z 16 65536 (by decide +kernel))
    refine bodyPost_ret (v := .agg #[.int .u32 (z - z % sz 16), .int .i64 16]) (by simp [results, Tryd.results14, go_sem, kr0, kr1, hz]) rfl ⟨z - z % sz 16, 16, rfl, ?_, ?_, vld_cut z 16 (by omega) (by omega), ?_, ?_⟩
    · have := mod_sz z 16 z0; omega
    · have := mod_sz z 16 z0; omega
    · exact (hc2.set _ _ hbn hBw _).set _ _ hbn hBw _
    · exact (HE2.out.setNew (by simp) _).setNew (by simp) _
  · have hc := hK 3 (.int .i64 24) rfl
    clear hK
    go_wp2_with fail
    refine (address_any b _ hc1).mono ?_
    rintro e w2 ⟨z, rfl, z0, z1, hc2, he2⟩
    have hl0 : w.heap.size < w1.heap.size := World.block_lt_of_cell? w1 _ hr0
    have kr0 : w2.cell? ⟨w.heap.size, 0, none⟩ = some (.int .u32 0) := by rw [he2.cell _ _ hbn hl0]; exact hr0
    have kr1 : w2.cell? ⟨w.heap.size, 1, none⟩ = some (.int .i64 0) := by rw [he2.cell _ _ hbn hl0]; exact hr1
    have kf0 : w2.frozen? ⟨w.heap.size, 0, none⟩ = false := by rw [he2.frozen _ _ hbn hl0]; exact hf0
    have kf1 : w2.frozen? ⟨w.heap.size, 1, none⟩ = false := by rw [he2.frozen _ _ hbn hl0]; exact hf1
    have HE2 : Hid (Ex b w w2) := HE.out.trans he2
    clear hr0 hr1 hf0 hf1 hc he2 hl0
    go_wp2_with fail
    have hz : (z/256*256=z-z%sz 24) := (quo_lit z 24 256 (by decide +kernel))
    refine bodyPost_ret (v := .agg #[.int .u32 (z - z % sz 24), .int .i64 24]) (by simp [results, Tryd.results14, go_sem, kr0, kr1, hz]) rfl ⟨z - z % sz 24, 24, rfl, ?_, ?_, vld_cut z 24 (by omega) (by omega), ?_, ?_⟩
    · have := mod_sz z 24 z0; omega
    · have := mod_sz z 24 z0; omega
    · exact (hc2.set _ _ hbn hBw _).set _ _ hbn hBw _
    · exact (HE2.out.setNew (by simp) _).setNew (by simp) _
  · have hc := hK 4 (.int .i64 29) rfl
    clear hK
    go_wp2_with fail
    refine (address_any b _ hc1).mono ?_
    rintro e w2 ⟨z, rfl, z0, z1, hc2, he2⟩
    have hl0 : w.heap.size < w1.heap.size := World.block_lt_of_cell? w1 _ hr0
    have kr0 : w2.cell? ⟨w.heap.size, 0, none⟩ = some (.int .u32 0) := by rw [he2.cell _ _ hbn hl0]; exact hr0
    have kr1 : w2.cell? ⟨w.heap.size, 1, none⟩ = some (.int .i64 0) := by rw [he2.cell _ _ hbn hl0]; exact hr1
    have kf0 : w2.frozen? ⟨w.heap.size, 0, none⟩ = false := by rw [he2.frozen _ _ hbn hl0]; exact hf0
    have kf1 : w2.frozen? ⟨w.heap.size, 1, none⟩ = false := by rw [he2.frozen _ _ hbn hl0]; exact hf1
    have HE2 : Hid (Ex b w w2) := HE.out.trans he2
    clear hr0 hr1 hf0 hf1 hc he2 hl0
    go_wp2_with fail
    have hz : (z/8*8=z-z%sz 29) := (quo_lit z 29 8 (by decide +kernel))
    refine bodyPost_ret (v := .agg #[.int .u32 (z - z % sz 29), .int .i64 29]) (by simp [results, Tryd.results14, go_sem, kr0, kr1, hz]) rfl ⟨z - z % sz 29, 29, rfl, ?_, ?_, vld_cut z 29 (by omega) (by omega), ?_, ?_⟩
    · have := mod_sz z 29 z0; omega
    · have := mod_sz z 29 z0; omega
    · exact (hc2.set _ _ hbn hBw _).set _ _ hbn hBw _
    · exact (HE2.out.setNew (by simp) _).setNew (by simp) _
  · have hc := hK 5 (.int .i64 30) rfl
    clear hK
    go_wp2_with fail
    refine (address_any b _ hc1).mono ?_
    rintro e w2 ⟨z, rfl, z0, z1, hc2, he2⟩
    have hl0 : w.heap.size < w1.heap.size := World.block_lt_of_cell? w1 _ hr0
    have kr0 : w2.cell? ⟨w.heap.size, 0, none⟩ = some (.int .u32 0) := by rw [he2.cell _ _ hbn hl0]; exact hr0
    have kr1 : w2.cell? ⟨w.heap.size, 1, none⟩ = some (.int .i64 0) := by rw [he2.cell _ _ hbn hl0]; exact hr1
    have kf0 : w2.frozen? ⟨w.heap.size, 0, none⟩ = false := by rw [he2.frozen _ _ hbn hl0]; exact hf0
    have kf1 : w2.frozen? ⟨w.heap.size, 1, none⟩ = false := by rw [he2.frozen _ _ hbn hl0]; exact hf1
    have HE2 : Hid (Ex b w w2) := HE.out.trans he2
    clear hr0 hr1 hf0 hf1 hc he2 hl0
    go_wp2_with fail
    have hz : (z/4*4=z-z%sz 30) := (quo_lit z 30 4 (by decide +kernel))
    refine bodyPost_ret (v := .agg #[.int .u32 (z - z % sz 30), .int .i64 30]) (by simp [results, Tryd.results14, go_sem, kr0, kr1, hz]) rfl ⟨z - z % sz 30, 30, rfl, ?_, ?_, vld_cut z 30 (by omega) (by omega), ?_, ?_⟩
    · have := mod_sz z 30 z0; omega
    · have := mod_sz z 30 z0; omega
    · exact (hc2.set _ _ hbn hBw _).set _ _ hbn hBw _
    · exact (HE2.out.setNew (by simp) _).setNew (by simp) _
  · have hc := hK 6 (.int .i64 31) rfl
    clear hK
    go_wp2_with fail
    refine (address_any b _ hc1).mono ?_
    rintro e w2 ⟨z, rfl, z0, z1, hc2, he2⟩
    have hl0 : w.heap.size < w1.heap.size := World.block_lt_of_cell? w1 _ hr0
    have kr0 : w2.cell? ⟨w.heap.size, 0, none⟩ = some (.int .u32 0) := by rw [he2.cell _ _ hbn hl0]; exact hr0
    have kr1 : w2.cell? ⟨w.heap.size, 1, none⟩ = some (.int .i64 0) := by rw [he2.cell _ _ hbn hl0]; exact hr1
    have kf0 : w2.frozen? ⟨w.heap.size, 0, none⟩ = false := by rw [he2.frozen _ _ hbn hl0]; exact hf0
    have kf1 : w2.frozen? ⟨w.heap.size, 1, none⟩ = false := by rw [he2.frozen _ _ hbn hl0]; exact hf1
    have HE2 : Hid (Ex b w w2) := HE.out.trans he2
    clear hr0 hr1 hf0 hf1 hc he2 hl0
    go_wp2_with fail
    have hz : (z/2*2=z-z%sz 31) := (quo_lit z 31 2 (by decide +kernel))
    refine bodyPost_ret (v := .agg #[.int .u32 (z - z % sz 31), .int .i64 31]) (by simp [results, Tryd.results14, go_sem, kr0, kr1, hz]) rfl ⟨z - z % sz 31, 31, rfl, ?_, ?_, vld_cut z 31 (by omega) (by omega), ?_, ?_⟩
    · have := mod_sz z 31 z0; omega
    · have := mod_sz z 31 z0; omega
    · exact (hc2.set _ _ hbn hBw _).set _ _ hbn hBw _
    · exact (HE2.out.setNew (by simp) _).setNew (by simp) _
  · have hc := hK 7 (.int .i64 32) rfl
    clear hK
    go_wp2_with fail
    refine (address_any b _ hc1).mono ?_
    rintro e w2 ⟨z, rfl, z0, z1, hc2, he2⟩
    have hl0 : w.heap.size < w1.heap.size := World.block_lt_of_cell? w1 _ hr0
    have kr0 : w2.cell? ⟨w.heap.size, 0, none⟩ = some (.int .u32 0) := by rw [he2.cell _ _ hbn hl0]; exact hr0
    have kr1 : w2.cell? ⟨w.heap.size, 1, none⟩ = some (.int .i64 0) := by rw [he2.cell _ _ hbn hl0]; exact hr1
    have kf0 : w2.frozen? ⟨w.heap.size, 0, none⟩ = false := by rw [he2.frozen _ _ hbn hl0]; exact hf0
    have kf1 : w2.frozen? ⟨w.heap.size, 1, none⟩ = false := by rw [he2.frozen _ _ hbn hl0]; exact hf1
    have HE2 : Hid (Ex b w w2) := HE.out.trans he2
    clear hr0 hr1 hf0 hf1 hc he2 hl0
    go_wp2_with fail
    have hz : (z-z%sz 32=z) := (quo_one z)
    refine bodyPost_ret (v := .agg #[.int .u32 (z - z % sz 32), .int .i64 32]) (by simp [results, Tryd.results14, go_sem, kr0, kr1, hz]) rfl ⟨z - z % sz 32, 32, rfl, ?_, ?_, vld_cut z 32 (by omega) (by omega), ?_, ?_⟩
    · have := mod_sz z 32 z0; omega
    · have := mod_sz z 32 z0; omega
    · exact (hc2.set _ _ hbn hBw _).set _ _ hbn hBw _
    · exact (HE2.out.setNew (by simp) _).setNew (by simp) _
end Go.Proofs.YtoaboflepfmkpaaDoor
