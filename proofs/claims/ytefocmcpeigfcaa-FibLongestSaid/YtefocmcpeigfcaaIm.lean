/- Headers of packets as lists of bytes. -/
import Derived.Test.YtefocmcpeigfcaaWm
namespace Go.Proofs.Ytefocmcpeigfcaa
open Go
set_option maxRecDepth 100000
set_option linter.unusedVariables false
/-- a header as plain numbers -/
structure Hd where
  tos : Nat
  id : Nat
  ttl : Nat
  proto : Nat
  keep : Bool
  src : Nat
  dst : Nat
structure Hd.ok (h : Hd) : Prop where
  tos : h.tos ≤ 255
  id : h.id ≤ 65535
  ttl : h.ttl ≤ 255
  proto : h.proto ≤ 255
  src : h.src < 4294967296
  dst : h.dst < 4294967296
def Hd.fl (h : Hd) : Nat := if h.keep then 16384 else 0
theorem Hd.fl_le (h : Hd) : h.fl ≤ 16384 := by unfold Hd.fl; split <;> omega
/-- the bytes of a header with this number in the place of the checksum -/
def hraw (h : Hd) (n s : Nat) : List Nat :=
  [69, h.tos, n / 256 % 256, n % 256, h.id / 256 % 256, h.id % 256, h.fl / 256 % 256, h.fl % 256, h.ttl, h.proto, s / 256 % 256, s % 256,
   h.src / 16777216 % 256, h.src / 65536 % 256, h.src / 256 % 256, h.src % 256, h.dst / 16777216 % 256, h.dst / 65536 % 256, h.dst / 256 % 256, h.dst % 256]
def hsum (h : Hd) (n : Nat) : Nat := 65535 - oc (wsum false (hraw h n 0))
def hbytes (h : Hd) (n : Nat) : List Nat := hraw h n (hsum h n)
theorem hraw_len (h : Hd) (n s : Nat) : (hraw h n s).length = 20 := rfl
theorem hbytes_len (h : Hd) (n : Nat) : (hbytes h n).length = 20 := rfl
theorem hsum_le (h : Hd) (n : Nat) : hsum h n ≤ 65535 := by unfold hsum; omega
theorem hraw_lt {h : Hd} (k : h.ok) (n s : Nat) : ∀ x ∈ hraw h n s, x < 256 := by
  have := k.tos; have := k.ttl; have := k.proto
  intro x hx
  simp only [hraw, List.mem_cons, List.not_mem_nil, or_false] at hx
  rcases hx with rfl | rfl | rfl | rfl | rfl | rfl | rfl | rfl | rfl | rfl | rfl | rfl | rfl | rfl | rfl | rfl | rfl | rfl | rfl | rfl <;> omega
theorem hbytes_lt {h : Hd} (k : h.ok) (n : Nat) : ∀ x ∈ hbytes h n, x < 256 := hraw_lt k n _
/-- the numbers of a header and their widths, in the order of writing -/
def hfields (h : Hd) (n : Nat) : List (Nat × Nat) := [(69, 1), (h.tos, 1), (n, 2), (h.id, 2), (h.fl, 2), (h.ttl, 1), (h.proto, 1), (0, 2), (h.src, 4), (h.dst, 4)]
def fput (l : List (Nat × Nat)) : List Nat := l.flatMap fun x => bput x.1 x.2
theorem fput_snoc (l : List (Nat × Nat)) (x : Nat × Nat) : fput (l ++ [x]) = fput l ++ bput x.1 x.2 := by simp [fput]
theorem fput_take (l : List (Nat × Nat)) {t : Nat} (h : t < l.length) : fput (l.take (t + 1)) = fput (l.take t) ++ bput (l.getD t (0, 0)).1 (l.getD t (0, 0)).2 := by
  rw [List.take_succ_eq_append_getElem h, fput_snoc, List.getD_eq_getElem?_getD, List.getElem?_eq_getElem h]; rfl
theorem fput_len (l : List (Nat × Nat)) : (fput l).length = (l.map (·.2)).sum := by
  induction l with
  | nil => rfl
  | cons x t ih => simp [fput, bput_len] at ih ⊢; try omega
theorem hfields_raw {h : Hd} (k : h.ok) (n : Nat) : fput (hfields h n) = hraw h n 0 := by
  have := k.tos; have := k.ttl; have := k.proto
  simp only [hfields, fput, List.flatMap_cons, List.flatMap_nil, bput, hraw, List.cons_append, List.nil_append, List.append_nil, Nat.pow_zero, Nat.div_one, Nat.zero_div, Nat.zero_mod]
  rw [Nat.mod_eq_of_lt (show h.tos < 256 by omega), Nat.mod_eq_of_lt (show h.ttl < 256 by omega), Nat.mod_eq_of_lt (show h.proto < 256 by omega)]
/-- the checksum in its place -/
theorem hraw_splice (h : Hd) (n s : Nat) : (hraw h n 0).take 10 ++ bput s 2 ++ (hraw h n 0).drop 12 = hraw h n s := by
  simp [hraw, bput]
/-- the number of k bytes at i -/
def gN (l : List Nat) (i k : Nat) : Nat := bnum ((l.drop i).take k)
/-- what is read at the beginning of bytes -/
def hdAt (l : List Nat) : Hd := ⟨gN l 1 1, gN l 4 2, gN l 8 1, gN l 9 1, decide (gN l 6 2 = 16384), gN l 12 4, gN l 16 4⟩
theorem gN_lt {l : List Nat} (h : ∀ x ∈ l, x < 256) (i k : Nat) : gN l i k < 256 ^ k :=
  bnum_lt (fun x hx => h x (List.mem_of_mem_drop hx)) k
theorem hdAt_ok {l : List Nat} (h : ∀ x ∈ l, x < 256) : (hdAt l).ok := by
  have h1 := gN_lt h 1 1; have h2 := gN_lt h 4 2; have h3 := gN_lt h 8 1; have h4 := gN_lt h 9 1; have h5 := gN_lt h 12 4; have h6 := gN_lt h 16 4
  simp only [Nat.reducePow] at h1 h2 h3 h4 h5 h6
  constructor <;> simp only [hdAt] <;> omega
/-- what Peek answers: 3, 2, 4 or 0 -/
def formOk (l : List Nat) : Prop := gN l 0 1 = 69 ∧ (gN l 6 2 = 0 ∨ gN l 6 2 = 16384) ∧ 20 ≤ gN l 2 2
instance (l : List Nat) : Decidable (formOk l) := by unfold formOk; infer_instance
def pkE (l : List Nat) : Nat := if l.length < 20 then 3 else if ¬ formOk l then 2 else if l.take 20 = hbytes (hdAt l) (gN l 2 2) then 0 else 4
theorem hdAt_raw {h : Hd} (k : h.ok) {n s : Nat} (hn : n < 65536) (m : List Nat) : hdAt (hraw h n s ++ m) = h ∧ gN (hraw h n s ++ m) 2 2 = n ∧ gN (hraw h n s ++ m) 0 1 = 69 ∧ gN (hraw h n s ++ m) 6 2 = h.fl := by
  have hf := h.fl_le
  have k1 := k.id; have k2 := k.src; have k3 := k.dst
  have e1 : ∀ a b : Nat, bnum [a, b] = a * 256 + b := fun a b => by simp [bnum]
  have e2 : ∀ a b c d : Nat, bnum [a, b, c, d] = ((a * 256 + b) * 256 + c) * 256 + d := fun a b c d => by simp [bnum]
  have e0 : ∀ a : Nat, bnum [a] = a := fun a => by simp [bnum]
  have d2 : ∀ x : Nat, x < 65536 → x / 256 % 256 * 256 + x % 256 = x := fun x hx => by omega
  have d4 : ∀ x : Nat, x < 4294967296 → ((x / 16777216 % 256 * 256 + x / 65536 % 256) * 256 + x / 256 % 256) * 256 + x % 256 = x := fun x hx => by omega
  have hfl : gN (hraw h n s ++ m) 6 2 = h.fl := by
    show bnum [h.fl / 256 % 256, h.fl % 256] = _
    rw [e1, d2 _ (by omega)]
  refine ⟨?_, ?_, ?_, hfl⟩
  · have a1 : gN (hraw h n s ++ m) 1 1 = h.tos := e0 _
    have a2 : gN (hraw h n s ++ m) 4 2 = h.id := (e1 _ _).trans (d2 _ (by omega))
    have a3 : gN (hraw h n s ++ m) 8 1 = h.ttl := e0 _
    have a4 : gN (hraw h n s ++ m) 9 1 = h.proto := e0 _
    have a5 : gN (hraw h n s ++ m) 12 4 = h.src := (e2 _ _ _ _).trans (d4 _ k2)
    have a6 : gN (hraw h n s ++ m) 16 4 = h.dst := (e2 _ _ _ _).trans (d4 _ k3)
    unfold hdAt
    rw [a1, a2, a3, a4, a5, a6, hfl]
    cases h with
    | mk tos id ttl proto keep src dst => cases keep <;> simp [Hd.fl]
  · exact (e1 _ _).trans (d2 _ hn)
  · exact e0 _
theorem hdAt_bytes {h : Hd} (k : h.ok) {n : Nat} (hn : n < 65536) (m : List Nat) : hdAt (hbytes h n ++ m) = h ∧ gN (hbytes h n ++ m) 2 2 = n := ⟨(hdAt_raw k hn m).1, (hdAt_raw k hn m).2.1⟩
theorem pkE_bytes {h : Hd} (k : h.ok) {n : Nat} (hn : n < 65536) (h20 : 20 ≤ n) (m : List Nat) : pkE (hbytes h n ++ m) = 0 := by
  obtain ⟨e1, e2, e3, e4⟩ := hdAt_raw (s := hsum h n) k hn m
  unfold pkE
  rw [if_neg (by rw [List.length_append, hbytes_len]; omega), if_neg, if_pos]
  · show List.take 20 (hbytes h n ++ m) = hbytes (hdAt (hraw h n (hsum h n) ++ m)) (gN (hraw h n (hsum h n) ++ m) 2 2)
    rw [e1, e2, List.take_append_of_le_length (by rw [hbytes_len]; exact Nat.le_refl _), List.take_of_length_le (by rw [hbytes_len]; exact Nat.le_refl _)]
  · intro hc
    refine hc ⟨e3, ?_, by show 20 ≤ gN (hraw h n (hsum h n) ++ m) 2 2; omega⟩
    show gN (hraw h n (hsum h n) ++ m) 6 2 = 0 ∨ gN (hraw h n (hsum h n) ++ m) 6 2 = 16384
    rw [e4]; unfold Hd.fl; split <;> simp
/-- the TTL lowered by 1 -/
def Hd.low (h : Hd) : Hd := { h with ttl := h.ttl - 1 }
theorem Hd.low_ok {h : Hd} (k : h.ok) : h.low.ok := ⟨k.tos, k.id, by have := k.ttl; simp only [Hd.low]; omega, k.proto, k.src, k.dst⟩
end Go.Proofs.Ytefocmcpeigfcaa
