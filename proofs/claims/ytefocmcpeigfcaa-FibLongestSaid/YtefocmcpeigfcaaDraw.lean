/- The source of draws: New, Next. -/
import Derived.Test.YtefocmcpeigfcaaGr
import Derived.WalkKit
import Derived.WalkSpells
import Derived.WalkLawsBesides
import Derived.WalkSmall
import Derived.Handy
import Derived.BigQuiet
import Derived.Deep.QuietTactic
import Derived.Deep.RegionHeld3
import Derived.Deep.DeepFit
import Derived.Below
import Derived.Lib.Hide
import Derived.Lib.QuietBelow
namespace Go.Proofs.Ytefocmcpeigfcaa
open Go Go.RowKit Go.Sort
set_option maxRecDepth 100000
set_option linter.unusedVariables false

/-- the bytes of a slice can be read -/
def Bytes (w : World) (a : Option Addr) (len : Nat) : Prop := ∀ i, i < len → ∃ (b off : Nat) (z : Int), a = some ⟨b, off, none⟩ ∧ w.cell? ⟨b, off + i, none⟩ = some (.int .u8 z) ∧ 0 ≤ z ∧ z < 256
/-- block b holds choices: k of len bytes have been used -/
structure Cod (B : Nat) (w : World) (b : Nat) : Prop where
  base : B ≤ b
  ex : ∃ (a : Option Addr) (len cap k : Nat), w.cell? ⟨b, 0, none⟩ = some (.slice a len cap) ∧ w.cell? ⟨b, 1, none⟩ = some (.int .i64 k) ∧ k ≤ len ∧ len ≤ 1000 ∧ w.frozen? ⟨b, 1, none⟩ = false ∧ Bytes w a len ∧ (0 < len → ∀ x, a = some x → x.block < B)
theorem Cod.lt {B : Nat} {w : World} {b : Nat} (h : Cod B w b) : b < w.heap.size := by
  obtain ⟨a, len, cap, k, h0, _⟩ := h.ex
  exact World.block_lt_of_cell? w _ h0
theorem Bytes.ex {w w' : World} {b : Nat} {a : Option Addr} {len : Nat} (h : Bytes w a len) (hab : 0 < len → ∀ x, a = some x → x.block ≠ b) (g : Ex b w w') : Bytes w' a len := by
  intro i hi
  have hab := hab (by omega)
  obtain ⟨ab, off, z, e, hc, hz⟩ := h i hi
  refine ⟨ab, off, z, e, ?_, hz⟩
  rw [g.cell ab _ (hab _ e) (World.block_lt_of_cell? w _ hc)]; exact hc
/-- what is made or written elsewhere does not change the choices -/
theorem Cod.gr {B : Nat} {w w' : World} {b : Nat} (h : Cod B w b) (g : Gr w w') : Cod B w' b := by
  have hl := h.lt
  obtain ⟨a, len, cap, k, h0, h1, h2, h3, h4, h5, h6⟩ := h.ex
  have ⟨hc, hf⟩ := Gr.cells g
  have hB := h.base
  exact ⟨hB, a, len, cap, k, by rw [hc _ _ hl]; exact h0, by rw [hc _ _ hl]; exact h1, h2, h3, by rw [hf _ _ hl]; exact h4, h5.ex (b := b) (fun hl x e => Nat.ne_of_lt (Nat.lt_of_lt_of_le (h6 hl x e) hB)) (Ex.ofGr g), h6⟩
theorem ne_lt {B b len : Nat} {a : Option Addr} (hB : B ≤ b) (h6 : 0 < len → ∀ x, a = some x → x.block < B) : 0 < len → ∀ x, a = some x → x.block ≠ b := fun hl x e => Nat.ne_of_lt (Nat.lt_of_lt_of_le (h6 hl x e) hB)
/-- a write elsewhere -/
theorem Cod.set {B : Nat} {w : World} {b : Nat} (h : Cod B w b) (c o : Nat) (hc : c ≠ b) (hcB : B ≤ c) (v : Value) : Cod B (w.setCell ⟨c, o, none⟩ v) b := by
  have hl := h.lt
  obtain ⟨a, len, cap, k, h0, h1, h2, h3, h4, h5, h6⟩ := h.ex
  have he : Ex c w (w.setCell ⟨c, o, none⟩ v) := Ex.set (Ex.refl _ _) _ _
  exact ⟨h.base, a, len, cap, k, by rw [he.cell b 0 (Ne.symm hc) hl]; exact h0, by rw [he.cell b 1 (Ne.symm hc) hl]; exact h1, h2, h3, by rw [he.frozen b 1 (Ne.symm hc) hl]; exact h4, h5.ex (ne_lt hcB h6) he, h6⟩

theorem cod_set {B : Nat} {w : World} {b : Nat} {a : Option Addr} {len cap k : Nat} (h0 : w.cell? ⟨b, 0, none⟩ = some (.slice a len cap)) (h1 : w.cell? ⟨b, 1, none⟩ = some (.int .i64 k)) (h3 : len ≤ 1000) (h4 : w.frozen? ⟨b, 1, none⟩ = false) (h5 : Bytes w a len) (hB : B ≤ b) (h6 : 0 < len → ∀ x, a = some x → x.block < B) (hk : k < len) : Cod B (w.setCell ⟨b, 1, none⟩ (.int .i64 ((k : Int) + 1))) b := by
  refine ⟨hB, a, len, cap, k + 1, ?_, ?_, hk, h3, ?_, h5.ex (ne_lt hB h6) (Ex.set (Ex.refl _ _) _ _), h6⟩
  · first | (simp [go_sem, h0]; done) | (rw [World.cell?_setCell_other]; exact h0; simp)
  · rw [World.cell?_setCell_same' _ _ _ (by rw [h1]; rfl)]; simp
  · simpa using h4

def Nx (B b : Nat) (n : Int) (w : World) (e : Ending) (w' : World) : Prop := ∃ x : Int, e = .returned (.int .i64 x) ∧ 0 ≤ x ∧ x < n ∧ Cod B w' b ∧ Ex b w w'

theorem next_done (b : Nat) (n : Int) (w : World) (a : Option Addr) (len cap k : Nat) (hs : w.cell? ⟨b, 0, none⟩ = some (.slice a len cap)) (hk : w.cell? ⟨b, 1, none⟩ = some (.int .i64 k)) (h : len ≤ k) :
    Calls Try.prog 11 #[.pointer (some ⟨b, 0, none⟩), .int .i64 n] w fun e w' => e = .returned (.int .i64 0) ∧ ∃ m, w' = w.drewN m := by
  have d1 : decide ((len : Int) ≤ (k : Int)) = true := by simpa using h
  have d2 : decide (len ≤ k) = true := by simpa using h
  go_enter Try.func11, Try.ntmps11
  go_wp2_with fail
  go_quiet (fail)
  go_wp2
  go_ret
  exact ⟨rfl, _, rfl⟩
theorem next_small {B : Nat} (b : Nat) (n : Int) (w : World) (n0 : 1 ≤ n) (n1 : n ≤ 256) (h : Cod B w b) :
    Calls Try.prog 11 #[.pointer (some ⟨b, 0, none⟩), .int .i64 n] w (Nx B b n w) := by
  obtain ⟨a, len, cap, k, h0, h1, h2, h3, h4, h5, h6⟩ := h.ex
  by_cases hk : k < len
  · obtain ⟨ab, off, z, rfl, hz, hz0, hz1⟩ := h5 k hk
    have hB := h.base
    have hne := ne_lt hB h6 (by omega) _ rfl
    have d1 : decide ((len : Int) ≤ (k : Int)) = false := by simp; omega
    have d2 : decide (len ≤ k) = false := by simp; omega
    have d3 : decide (n < 1) = false := by simp; omega
    have k1 : (k : Int) < (len : Int) := by omega
    have k2 : (0 : Int) ≤ (k : Int) := by omega
    have H5 := Lib.hid h5
    have H6 := Lib.hid h6
    clear h5 h6 h2
    go_enter Try.func11, Try.ntmps11
    go_wp2_with fail
    go_quiet (fail)
    go_wp2_with fail
    go_quiet (fail)
    go_wp2_with fail
    go_ret
    refine ⟨z % n, ?_, Int.emod_nonneg _ (by omega), Int.emod_lt_of_pos _ (by omega), ?_, ?_⟩
    · rfl
    · exact cod_set (w := w.drewN _) h0 h1 h3 h4 (H5.out.ex (ne_lt hB H6.out) (Ex.ofGr (Gr.drewN (Gr.refl _) _))) hB H6.out hk
    · exact Ex.set (Ex.drewN (Ex.refl _ _) _) _ _
  · refine (next_done b n w a len cap k h0 h1 (by omega)).mono fun e w' ⟨he, m, hw⟩ => ?_
    subst hw
    exact ⟨0, he, by omega, by omega, Cod.gr ⟨h.base, a, len, cap, k, h0, h1, h2, h3, h4, h5, h6⟩ (Gr.drewN (Gr.refl _) m), Ex.drewN (Ex.refl _ _) m⟩
theorem next_any {B : Nat} (b : Nat) (n : Int) (w : World) (n0 : 1 ≤ n) (n1 : n ≤ 1000000) (h : Cod B w b) :
    Calls Try.prog 11 #[.pointer (some ⟨b, 0, none⟩), .int .i64 n] w (Nx B b n w) := by
  by_cases n2 : n ≤ 256
  · exact next_small b n w n0 n2 h
  obtain ⟨a, len, cap, k, h0, h1, h2, h3, h4, h5, h6⟩ := h.ex
  by_cases hk : k < len
  · obtain ⟨ab, off, z, rfl, hz, hz0, hz1⟩ := h5 k hk
    have hB := h.base
    have hne := ne_lt hB h6 (by omega) _ rfl
    have d1 : decide ((len : Int) ≤ (k : Int)) = false := by simp; omega
    have d2 : decide (len ≤ k) = false := by simp; omega
    have d3 : decide (n < 1) = false := by simp; omega
    have k1 : (k : Int) < (len : Int) := by omega
    have k2 : (0 : Int) ≤ (k : Int) := by omega
    have k3 : 256 < n := by omega
    have H5 := Lib.hid h5
    have H6 := Lib.hid h6
    have HC : Hid (∀ m, Cod B ((w.drewN m).setCell ⟨b, 1, none⟩ (.int .i64 ((k : Int) + 1))) b) := fun m => cod_set (w := w.drewN m) h0 h1 h3 h4 (h5.ex (ne_lt hB h6) (Ex.ofGr (Gr.drewN (Gr.refl _) _))) hB h6 hk
    clear h5 h6 h2
    go_enter Try.func11, Try.ntmps11
    go_wp2_with fail
    go_quiet (fail)
    go_wp2_with fail
    go_quiet (fail)
    go_wp2_with fail
    refine (next_small b 256 _ (by omega) (by omega) (HC.out _)).mono ?_
    rintro e w2 ⟨y, rfl, y0, y1, hc2, he2⟩
    go_wp2_with fail
    go_ret
    refine ⟨(256 * z + y) % n, ?_, Int.emod_nonneg _ (by omega), Int.emod_lt_of_pos _ (by omega), hc2, Ex.trans (Ex.set (Ex.drewN (Ex.refl _ _) _) _ _) he2⟩
    rfl
  · refine (next_done b n w a len cap k h0 h1 (by omega)).mono fun e w' ⟨he, m, hw⟩ => ?_
    subst hw
    exact ⟨0, he, by omega, by omega, Cod.gr ⟨h.base, a, len, cap, k, h0, h1, h2, h3, h4, h5, h6⟩ (Gr.drewN (Gr.refl _) m), Ex.drewN (Ex.refl _ _) m⟩

/-- a slice of bytes that can be read, as a value -/
def BytesV (B : Nat) (w : World) (v : Value) (len : Nat) : Prop := ∃ (a : Option Addr) (cap : Nat), v = .slice a len cap ∧ len ≤ cap ∧ Bytes w a len ∧ B ≤ w.heap.size ∧ (0 < len → ∀ x, a = some x → x.block < B)
theorem BytesV.gr {B : Nat} {w w' : World} {v : Value} {len : Nat} (h : BytesV B w v len) (g : Gr w w') : BytesV B w' v len := by
  obtain ⟨a, cap, rfl, hc, hb, hB, hl⟩ := h
  refine ⟨a, cap, rfl, hc, ?_, Nat.le_trans hB (Gr.size g), hl⟩
  exact hb.ex (b := w.heap.size) (ne_lt hB hl) (Ex.ofGr g)

def NewPost (B : Nat) (w : World) (e : Ending) (w' : World) : Prop := ∃ b : Nat, e = .returned (.pointer (some ⟨b, 0, none⟩)) ∧ b = w.heap.size ∧ Cod B w' b ∧ Gr w w'
theorem new_any {B : Nat} (v : Value) (len m : Nat) (w : World) (hm : m ≤ 1000) (hl : len ≤ 9223372036854775807) (h : BytesV B w v len) :
    Calls Try.prog 8 #[v, .int .i64 m] w (NewPost B w) := by
  obtain ⟨a, cap, rfl, hcap, hb, hB, hlt⟩ := h
  by_cases h40 : m < len
  · have d1 : (m : Int) < (len : Int) := by omega
    have d2 : (m : Int) ≤ (cap : Int) := by omega
    have d3 : m ≤ cap := by omega
    have Hb := Lib.hid hb
    have Hl := Lib.hid hlt
    have Hc : Hid (Cod B (w.alloc (.cells #[.slice a m cap, .int .i64 0] 58)) w.heap.size) :=
      ⟨hB, a, m, cap, 0, by simp, by simp, by omega, by omega, by simp, Bytes.ex (b := w.heap.size) (fun i hi => hb i (by omega)) (ne_lt (len := m) hB (fun _ => hlt (by omega))) (Ex.ofGr (Gr.alloc (Gr.refl _) _)), fun _ => hlt (by omega)⟩
    clear hb hlt
    go_enter Try.func8, Try.ntmps8
    go_wp2
    go_ret
    exact ⟨w.heap.size, rfl, rfl, Hc.out, (by repeat' (first | (with_reducible exact Gr.refl _) | (with_reducible assumption) | (with_reducible refine Gr.drewN ?_ _) | (with_reducible refine Gr.drew ?_) | (with_reducible refine Gr.alloc ?_ _) | (with_reducible refine Gr.setCell ?_ ?_ _) | (with_reducible refine Gr.grow ?_ _ _) | (refine Gr.step ?_ (by with_reducible assumption)) | go_size))⟩
  · have d1 : ¬ (m : Int) < (len : Int) := by omega
    have Hc : Hid (Cod B (w.alloc (.cells #[.slice a len cap, .int .i64 0] 58)) w.heap.size) :=
      ⟨hB, a, len, cap, 0, by simp, by simp, by omega, by omega, by simp, Bytes.ex (b := w.heap.size) hb (ne_lt hB hlt) (Ex.ofGr (Gr.alloc (Gr.refl _) _)), hlt⟩
    have Hl := Lib.hid hlt
    clear hb hlt
    go_enter Try.func8, Try.ntmps8
    go_wp2
    go_ret
    exact ⟨w.heap.size, rfl, rfl, Hc.out, (by repeat' (first | (with_reducible exact Gr.refl _) | (with_reducible assumption) | (with_reducible refine Gr.drewN ?_ _) | (with_reducible refine Gr.drew ?_) | (with_reducible refine Gr.alloc ?_ _) | (with_reducible refine Gr.setCell ?_ ?_ _) | (with_reducible refine Gr.grow ?_ _ _) | (refine Gr.step ?_ (by with_reducible assumption)) | go_size))⟩
end Go.Proofs.Ytefocmcpeigfcaa
