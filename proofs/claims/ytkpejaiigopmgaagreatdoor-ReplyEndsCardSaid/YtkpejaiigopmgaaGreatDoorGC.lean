/- Several texts in one. -/
import Derived.Test.YtkpejaiigopmgaaGreatDoorGr
import Derived.WalkKit
import Derived.WalkSpells
import Derived.WalkLawsBesides
import Derived.WalkSmall
import Derived.Handy
import Derived.BigQuiet
import Derived.Deep.QuietTactic
import Derived.Deep.RegionHeld3
import Derived.Deep.DeepFit
import Derived.Below
import Derived.Lib.Hide
import Derived.Lib.QuietBelow
import Derived.Test.YtkpejaiigopmgaaGreatDoorGB
import Derived.Test.YtkpejaiigopmgaaGreatDoorIhM
import Derived.Test.YtkpejaiigopmgaaGreatDoorGA
/- Blocks whose cells are known as a list. -/
namespace Go.Proofs.YtkpejaiigopmgaaGreatDoor
open Go Go.RowKit Go.Sort
set_option maxRecDepth 100000
set_option linter.unusedVariables false
/-- the first cells of a block, which can be written -/
structure CL (w : World) (g : Nat) (vs : List Value) : Prop where
  lt : g < w.heap.size
  at' : ∀ i v, vs[i]? = some v → w.cell? ⟨g, i, none⟩ = some v ∧ w.frozen? ⟨g, i, none⟩ = false
theorem CL.gr {w w' : World} {g : Nat} {vs : List Value} (h : CL w g vs) (k : Gr w w') : CL w' g vs :=
  ⟨Nat.lt_of_lt_of_le h.lt (Gr.size k), fun i v hi => by rw [(Gr.cells k).1 _ _ h.lt, (Gr.cells k).2 _ _ h.lt]; exact h.at' i v hi⟩
theorem CL.ex {w w' : World} {g r : Nat} {vs : List Value} (h : CL w g vs) (k : Ex r w w') (hr : g ≠ r) : CL w' g vs :=
  ⟨Nat.lt_of_lt_of_le h.lt k.size, fun i v hi => by rw [k.cell _ _ hr h.lt, k.frozen _ _ hr h.lt]; exact h.at' i v hi⟩
theorem CL.new (w : World) (vs : List Value) (T : TypeId) (g : Nat) (hg : g = w.heap.size) : CL (w.alloc (.cells vs.toArray T)) g vs := by
  subst hg
  exact ⟨by simp, fun i v hi => ⟨by simpa using hi, by simp⟩⟩
theorem CL.other {w : World} {g s o : Nat} {vs : List Value} (h : CL w g vs) (v : Value) (hs : g ≠ s) : CL (w.setCell ⟨s, o, none⟩ v) g vs :=
  ⟨by simpa using h.lt, fun i x hi => ⟨by rw [World.cell?_setCell_other _ _ _ _ (by intro e; cases e; exact hs rfl)]; exact (h.at' i x hi).1, by simpa using (h.at' i x hi).2⟩⟩
theorem CL.set {w : World} {g : Nat} {vs : List Value} (h : CL w g vs) (o : Nat) (v : Value) (ho : o < vs.length) : CL (w.setCell ⟨g, o, none⟩ v) g (vs.set o v) := by
  refine ⟨by simpa using h.lt, fun i x hi => ?_⟩
  by_cases e : o = i
  · subst e
    rw [List.getElem?_set_self ho] at hi
    cases hi
    have h1 := h.at' o (vs[o]) (List.getElem?_eq_getElem ho)
    exact ⟨World.cell?_setCell_same' _ _ _ (by rw [h1.1]; rfl), by simpa using h1.2⟩
  · rw [List.getElem?_set_ne e] at hi
    have h1 := h.at' i x hi
    exact ⟨by rw [World.cell?_setCell_other _ _ _ _ (by intro k; cases k; exact e rfl)]; exact h1.1, by simpa using h1.2⟩
theorem CL.one {w : World} {g : Nat} {a : Value} (h : CL w g [a]) : w.cell? ⟨g, 0, none⟩ = some a ∧ w.frozen? ⟨g, 0, none⟩ = false := h.at' 0 a rfl
theorem CL.seven {w : World} {g : Nat} {a b c d e f i : Value} (h : CL w g [a, b, c, d, e, f, i]) :
    (w.cell? ⟨g, 0, none⟩ = some a ∧ w.cell? ⟨g, 1, none⟩ = some b ∧ w.cell? ⟨g, 2, none⟩ = some c ∧ w.cell? ⟨g, 3, none⟩ = some d ∧ w.cell? ⟨g, 4, none⟩ = some e ∧ w.cell? ⟨g, 5, none⟩ = some f ∧ w.cell? ⟨g, 6, none⟩ = some i) ∧
    w.frozen? ⟨g, 0, none⟩ = false ∧ w.frozen? ⟨g, 1, none⟩ = false ∧ w.frozen? ⟨g, 2, none⟩ = false ∧ w.frozen? ⟨g, 3, none⟩ = false ∧ w.frozen? ⟨g, 4, none⟩ = false ∧ w.frozen? ⟨g, 5, none⟩ = false ∧ w.frozen? ⟨g, 6, none⟩ = false :=
  ⟨⟨(h.at' 0 a rfl).1, (h.at' 1 b rfl).1, (h.at' 2 c rfl).1, (h.at' 3 d rfl).1, (h.at' 4 e rfl).1, (h.at' 5 f rfl).1, (h.at' 6 i rfl).1⟩, (h.at' 0 a rfl).2, (h.at' 1 b rfl).2, (h.at' 2 c rfl).2, (h.at' 3 d rfl).2, (h.at' 4 e rfl).2, (h.at' 5 f rfl).2, (h.at' 6 i rfl).2⟩
theorem CL.eight {w : World} {g : Nat} {a b c d e f i j : Value} (h : CL w g [a, b, c, d, e, f, i, j]) :
    (w.cell? ⟨g, 0, none⟩ = some a ∧ w.cell? ⟨g, 1, none⟩ = some b ∧ w.cell? ⟨g, 2, none⟩ = some c ∧ w.cell? ⟨g, 3, none⟩ = some d ∧ w.cell? ⟨g, 4, none⟩ = some e ∧ w.cell? ⟨g, 5, none⟩ = some f ∧ w.cell? ⟨g, 6, none⟩ = some i ∧ w.cell? ⟨g, 7, none⟩ = some j) ∧
    w.frozen? ⟨g, 0, none⟩ = false ∧ w.frozen? ⟨g, 1, none⟩ = false ∧ w.frozen? ⟨g, 2, none⟩ = false ∧ w.frozen? ⟨g, 3, none⟩ = false ∧ w.frozen? ⟨g, 4, none⟩ = false ∧ w.frozen? ⟨g, 5, none⟩ = false ∧ w.frozen? ⟨g, 6, none⟩ = false ∧ w.frozen? ⟨g, 7, none⟩ = false :=
  ⟨⟨(h.at' 0 a rfl).1, (h.at' 1 b rfl).1, (h.at' 2 c rfl).1, (h.at' 3 d rfl).1, (h.at' 4 e rfl).1, (h.at' 5 f rfl).1, (h.at' 6 i rfl).1, (h.at' 7 j rfl).1⟩, (h.at' 0 a rfl).2, (h.at' 1 b rfl).2, (h.at' 2 c rfl).2, (h.at' 3 d rfl).2, (h.at' 4 e rfl).2, (h.at' 5 f rfl).2, (h.at' 6 i rfl).2, (h.at' 7 j rfl).2⟩
end Go.Proofs.YtkpejaiigopmgaaGreatDoor
/- Messages as lists of bytes: checksums in their places, fields, damage. -/
namespace Go.Proofs.YtkpejaiigopmgaaGreatDoor
open Go
set_option maxRecDepth 100000
set_option linter.unusedVariables false
theorem bput_snoc (n k : Nat) : bput n (k + 1) = bput (n / 256) k ++ [n % 256] := by
  induction k with
  | zero => simp [bput]
  | succ k ih =>
    rw [bput, ih, bput]
    rw [Nat.div_div_eq_div_mul, show 256 * 256 ^ k = 256 ^ (k + 1) by rw [Nat.pow_succ, Nat.mul_comm]]
    rfl
theorem bput_mod (n k : Nat) : bput (n % 256 ^ k) k = bput n k := by
  have key : ∀ m, k ≤ m → bput (n % 256 ^ m) k = bput n k := by
    induction k with
    | zero => intro m _; rfl
    | succ k ih =>
      intro m hm
      rw [bput, bput, ih m (by omega)]
      congr 1
      obtain ⟨j, rfl⟩ : ∃ j, m = k + 1 + j := ⟨m - (k + 1), by omega⟩
      rw [show 256 ^ (k + 1 + j) = 256 ^ k * (256 * 256 ^ j) by rw [Nat.pow_add, Nat.pow_succ, Nat.mul_assoc], Nat.mod_mul_right_div_self, Nat.mod_mul_right_mod]
  exact key k (Nat.le_refl _)
theorem bput_bnum {l : List Nat} (h : ∀ x ∈ l, x < 256) : bput (bnum l) l.length = l := by
  induction hn : l.length generalizing l with
  | zero =>
    have : l = [] := List.eq_nil_of_length_eq_zero hn
    subst this; rfl
  | succ n ih =>
    obtain ⟨m, x, rfl⟩ : ∃ m x, l = m ++ [x] := by
      have h0 : l ≠ [] := by intro h; rw [h] at hn; simp at hn
      exact ⟨l.dropLast, l.getLast h0, (List.dropLast_concat_getLast h0).symm⟩
    have hx := h x (by simp)
    have hm : m.length = n := by simpa using hn
    rw [bnum_snoc, bput_snoc, show (bnum m * 256 + x) / 256 = bnum m by omega, show (bnum m * 256 + x) % 256 = x by omega]
    rw [ih (fun y hy => h y (by simp [hy])) hm]
theorem bput_gN {l : List Nat} (h : ∀ x ∈ l, x < 256) {i k : Nat} (hk : i + k ≤ l.length) : bput (gN l i k) k = (l.drop i).take k := by
  have e : ((l.drop i).take k).length = k := by rw [List.length_take, List.length_drop]; omega
  have := bput_bnum (l := (l.drop i).take k) (fun x hx => h x (List.mem_of_mem_drop (List.mem_of_mem_take hx)))
  rw [e] at this
  exact this
theorem bnum_bput (n k : Nat) : bnum (bput n k) = n % 256 ^ k := by
  induction k generalizing n with
  | zero => simp [bput, bnum, Nat.mod_one]
  | succ k ih =>
    rw [bput_snoc, bnum_snoc, ih, Nat.pow_succ, Nat.mul_comm (256 ^ k) 256, Nat.mod_mul]
    omega
theorem gN_of {l a z : List Nat} {n i k : Nat} (h : l = a ++ (bput n k ++ z)) (hi : a.length = i) (hn : n < 256 ^ k) : gN l i k = n := by
  subst h; subst hi
  unfold gN
  rw [List.drop_left, List.take_left' (bput_len n k), bnum_bput, Nat.mod_eq_of_lt hn]
/-- a message with its checksum in its place -/
def msg (S : List Nat → Nat) (a z : List Nat) : List Nat := a ++ bput (S (a ++ bput 0 2 ++ z)) 2 ++ z
theorem msg_len (S : List Nat → Nat) (a z : List Nat) : (msg S a z).length = a.length + 2 + z.length := by simp [msg, bput_len, Nat.add_assoc]
theorem zmsg_len (a z : List Nat) : (a ++ bput 0 2 ++ z).length = a.length + 2 + z.length := by simp [bput_len, Nat.add_assoc]
theorem msg_set (S : List Nat → Nat) (a z : List Nat) : ((a ++ bput 0 2 ++ z).set a.length (S (a ++ bput 0 2 ++ z) / 256 % 256)).set (a.length + 1) (S (a ++ bput 0 2 ++ z) % 256) = msg S a z := by
  unfold msg
  generalize S (a ++ bput 0 2 ++ z) = s
  rw [List.append_assoc, List.append_assoc]
  rw [List.set_append_right a.length _ (Nat.le_refl _), List.set_append_right (a.length + 1) _ (Nat.le_succ _)]
  rw [Nat.sub_self, show a.length + 1 - a.length = 1 by omega]
  simp [bput]
theorem msg_take (S : List Nat → Nat) (a z : List Nat) : (msg S a z).take a.length = a := by unfold msg; rw [List.append_assoc, List.take_left']; rfl
theorem msg_drop (S : List Nat → Nat) (a z : List Nat) : (msg S a z).drop (a.length + 2) = z := by
  unfold msg
  rw [List.drop_left']
  rw [List.length_append, bput_len]
theorem msg_lt (S : List Nat → Nat) {a z : List Nat} (ha : ∀ x ∈ a, x < 256) (hz : ∀ x ∈ z, x < 256) : ∀ x ∈ msg S a z, x < 256 := by
  intro x hx
  unfold msg at hx
  rcases List.mem_append.1 hx with hx | hx
  · rcases List.mem_append.1 hx with hx | hx
    · exact ha x hx
    · exact bput_lt _ _ x hx
  · exact hz x hx
/-- the last errors of a decoding -/
def vE (S : List Nat → Nat) (i : Nat) (l : List Nat) : Nat := if 1480 < l.length then 5 else if l = msg S (l.take i) (l.drop (i + 2)) then 0 else 4
theorem vE_long {S : List Nat → Nat} {i : Nat} {l : List Nat} (h : 1480 < l.length) : vE S i l = 5 := if_pos h
theorem vE_ok {S : List Nat → Nat} {i : Nat} {l : List Nat} (h : ¬ 1480 < l.length) (k : l = msg S (l.take i) (l.drop (i + 2))) : vE S i l = 0 := by unfold vE; rw [if_neg h, if_pos k]
theorem vE_bad {S : List Nat → Nat} {i : Nat} {l : List Nat} (h : ¬ 1480 < l.length) (k : ¬ l = msg S (l.take i) (l.drop (i + 2))) : vE S i l = 4 := by unfold vE; rw [if_neg h, if_neg k]
theorem vE_msg {S : List Nat → Nat} {a z : List Nat} (h : a.length + 2 + z.length ≤ 1480) : vE S a.length (msg S a z) = 0 := by
  refine vE_ok (by rw [msg_len]; omega) ?_
  rw [msg_take, msg_drop]
theorem vE_zero {S : List Nat → Nat} {i : Nat} {l : List Nat} (h : vE S i l = 0) : l.length ≤ 1480 ∧ l = msg S (l.take i) (l.drop (i + 2)) := by
  unfold vE at h
  split at h
  · omega
  · split at h
    · next h1 h2 => exact ⟨by omega, h2⟩
    · omega
/-- the three sums -/
def s0 (l : List Nat) : Nat := 65535 - oc (wsum false l)
def psd (src dst proto n : Nat) : List Nat := bput src 4 ++ bput dst 4 ++ (bput 0 1 ++ bput proto 1) ++ bput n 2
def sP (src dst proto : Nat) (l : List Nat) : Nat := s0 (psd src dst proto l.length ++ l)
def sU (src dst : Nat) (l : List Nat) : Nat := if sP src dst 17 l = 0 then 65535 else sP src dst 17 l
theorem s0_le (l : List Nat) : s0 l ≤ 65535 := by unfold s0; omega
theorem sP_le (a b p : Nat) (l : List Nat) : sP a b p l ≤ 65535 := s0_le _
theorem sU_le (a b : Nat) (l : List Nat) : sU a b l ≤ 65535 := by have := sP_le a b 17 l; unfold sU; split <;> omega
theorem psd_len (a b p n : Nat) : (psd a b p n).length = 12 := by simp [psd, bput_len]
theorem psd_lt (a b p n : Nat) : ∀ x ∈ psd a b p n, x < 256 := by
  intro x hx
  unfold psd at hx
  simp only [List.mem_append] at hx
  rcases hx with ((hx | hx) | (hx | hx)) | hx <;> exact bput_lt _ _ x hx
/-- the checksum is, up to multiples of 65535, a constant without the sum of the bytes -/
def Lin (S : List Nat → Nat) : Prop := ∃ K : Nat → Nat, ∀ l, (S l + (K l.length + wsum false l)) % 65535 = 0
theorem s0_mod (l : List Nat) : (s0 l + wsum false l) % 65535 = 0 := by
  have h1 := oc_le (wsum false l)
  have h2 := oc_mod (wsum false l)
  unfold s0; omega
theorem lin0 : Lin s0 := ⟨fun _ => 0, fun l => by have := s0_mod l; show (s0 l + (0 + wsum false l)) % 65535 = 0; omega⟩
theorem sP_mod (a b p : Nat) (l : List Nat) : (sP a b p l + (wsum false (psd a b p l.length) + wsum false l)) % 65535 = 0 := by
  have := s0_mod (psd a b p l.length ++ l)
  rw [wsum_even (by rw [psd_len])] at this
  exact this
theorem linP (a b p : Nat) : Lin (sP a b p) := ⟨fun n => wsum false (psd a b p n), fun l => sP_mod a b p l⟩
theorem linU (a b : Nat) : Lin (sU a b) := ⟨fun n => wsum false (psd a b 17 n), fun l => by
  have := sP_mod a b 17 l
  show (sU a b l + (wsum false (psd a b 17 l.length) + wsum false l)) % 65535 = 0
  unfold sU; split <;> omega⟩
theorem wsum_psd (a b p n : Nat) : wsum false (psd a b p n) = wsum false (bput a 4) + wsum false (bput b 4) + wsum false (bput 0 1 ++ bput p 1) + wsum false (bput n 2) := by
  unfold psd
  rw [wsum_even (by simp [bput_len]), wsum_even (by simp [bput_len]), wsum_even (by simp [bput_len])]
theorem sP_swap (a b p : Nat) (l : List Nat) : sP a b p l = sP b a p l := by
  unfold sP s0
  rw [wsum_even (by rw [psd_len]), wsum_even (by rw [psd_len]), wsum_psd, wsum_psd]
  congr 3; omega
theorem sU_swap (a b : Nat) (l : List Nat) : sU a b l = sU b a l := by unfold sU; rw [sP_swap]
theorem vE_swapP (a b p i : Nat) (l : List Nat) : vE (sP a b p) i l = vE (sP b a p) i l := by
  rw [show sP a b p = sP b a p from funext fun l => sP_swap a b p l]
theorem vE_swapU (a b i : Nat) (l : List Nat) : vE (sU a b) i l = vE (sU b a) i l := by
  rw [show sU a b = sU b a from funext fun l => sU_swap a b l]
/-- the sum of a message whose checksum is right -/
theorem wsum_msg {S : List Nat → Nat} (hS : Lin S) (h16 : ∀ l, S l ≤ 65535) : ∃ K : Nat → Nat, ∀ a z : List Nat, a.length % 2 = 0 → (wsum false (msg S a z) + K (a.length + 2 + z.length)) % 65535 = 0 := by
  obtain ⟨K, hK⟩ := hS
  refine ⟨K, fun a z he => ?_⟩
  have h1 := hK (a ++ bput 0 2 ++ z)
  have h2 := h16 (a ++ bput 0 2 ++ z)
  rw [zmsg_len, wsum_even (by simp [bput_len, he]), wsum_even he] at h1
  unfold msg
  rw [wsum_even (by simp [bput_len, he]), wsum_even he]
  generalize S (a ++ bput 0 2 ++ z) = s at *
  have e1 : wsum false (bput s 2) = s := by simp only [bput, wsum, Nat.pow_one, Nat.pow_zero, Nat.div_one, Nat.add_zero]; omega
  have e0 : wsum false (bput 0 2) = 0 := rfl
  rw [e1]
  rw [e0] at h1
  omega
/-- one byte is replaced: the checksum is no longer right -/
theorem vE_damage {S : List Nat → Nat} (hS : Lin S) (h16 : ∀ l, S l ≤ 65535) {i j : Nat} {l : List Nat} (hi : i % 2 = 0) (hil : i + 2 ≤ l.length) (hb : ∀ x ∈ l, x < 256) (h : vE S i l = 0) (hj : j < l.length) {x : Nat} (hx : x < 256) (hne : x ≠ l.getD j 0) : vE S i (l.set j x) ≠ 0 := by
  intro hd
  obtain ⟨K, hK⟩ := wsum_msg hS h16
  have h1 := (vE_zero h).2
  have h2 := (vE_zero hd).2
  have k1 := hK (l.take i) (l.drop (i + 2)) (by rw [List.length_take]; omega)
  have k2 := hK ((l.set j x).take i) ((l.set j x).drop (i + 2)) (by rw [List.length_take, List.length_set]; omega)
  rw [← h1] at k1
  rw [← h2] at k2
  have e1 : (l.take i).length + 2 + (l.drop (i + 2)).length = l.length := by rw [List.length_take, List.length_drop]; omega
  have e2 : ((l.set j x).take i).length + 2 + ((l.set j x).drop (i + 2)).length = l.length := by rw [List.length_take, List.length_drop, List.length_set]; omega
  rw [e1] at k1
  rw [e2] at k2
  have hg := getD_lt hb j
  rcases Nat.mod_two_eq_zero_or_one j with he | he
  · have := wsum_set_even false hj x (by unfold par; rw [if_pos he])
    omega
  · have := wsum_set_odd false hj x (by unfold par; rw [if_neg (by omega)]; rfl)
    omega
end Go.Proofs.YtkpejaiigopmgaaGreatDoor
/- The package transport: numbers that fit, numbers put, a number got. -/
namespace Go.Proofs.YtkpejaiigopmgaaGreatDoor
open Go Go.RowKit Go.Sort
set_option maxRecDepth 100000
set_option linter.unusedVariables false
/-- numbers that are passed as further arguments -/
def ints (ns : List Int) : List Value := ns.map (Value.int .i64)
theorem ints_len (ns : List Int) : (ints ns).length = ns.length := by simp [ints]
theorem ints_at {ns : List Int} {i : Nat} (h : i < ns.length) : (ints ns)[i]? = some (.int .i64 (ns.getD i 0)) := by
  simp [ints, List.getD_eq_getElem?_getD, List.getElem?_eq_getElem h]
def fitB (k : Nat) (ns : List Int) : Prop := ∀ n ∈ ns, 0 ≤ n ∧ n < (256 ^ k : Nat)
instance (k : Nat) (ns : List Int) : Decidable (fitB k ns) := by unfold fitB; infer_instance
theorem mem_getD {ns : List Int} {i : Nat} (h : i < ns.length) : ns.getD i 0 ∈ ns := by
  rw [List.getD_eq_getElem?_getD, List.getElem?_eq_getElem h]; exact List.getElem_mem _
theorem take_snoc {ns : List Int} {i : Nat} (h : i < ns.length) : ns.take (i + 1) = ns.take i ++ [ns.getD i 0] := by
  rw [List.take_succ_eq_append_getElem h, List.getD_eq_getElem?_getD, List.getElem?_eq_getElem h]; rfl
set_option maxHeartbeats 2000000 in
theorem fit_any (g cap k : Nat) (ns : List Int) (w : World) (hC : CL w g (ints ns)) (hk0 : 1 ≤ k) (hk1 : k ≤ 7) (hn : ns.length ≤ 100) (c : Bool) (hc : c = decide (fitB k ns)) :
    Calls Tryz.prog 55 #[.int .i64 k, .slice (some ⟨g, 0, none⟩) ns.length cap] w fun e w' => e = .returned (.bool c) ∧ w = w' := by
  have hp7 := pow_256_le hk1
  have hsh := wrap_pow hk1
  have HC := Lib.hid hC
  have H := Lib.hid hc
  have HN := Lib.hid (show ∀ n ∈ ns, 0 ≤ n ∧ n < (256 ^ k : Nat) ↔ 0 ≤ n ∧ n < (256 ^ k : Nat) from fun _ _ => Iff.rfl)
  have HF : Hid (fitB k ns ↔ ∀ n ∈ ns, 0 ≤ n ∧ n < ((256 ^ k : Nat) : Int)) := Lib.hid Iff.rfl
  clear hC hc HN
  generalize 256 ^ k = P at *
  go_enter Tryz.func55, Tryz.ntmps55
  go_wp2
  go_loop [9] (fun i => ∃ t : Nat, t ≤ ns.length ∧ i = .int .i64 t ∧ ∀ n ∈ ns.take t, 0 ≤ n ∧ n < (P : Int)) (fun i => ns.length - (intOf i).toNat)
  case atStart => exact ⟨0, Nat.zero_le _, rfl, fun n h => by simp at h⟩
  case round =>
    obtain ⟨t, ht, rfl, hall⟩ := hrel
    have HA := Lib.hid hall
    clear hall
    by_cases hlt : t < ns.length
    · have d1 : (t : Int) < (ns.length : Int) := by omega
      have hcell := (HC.out.at' t _ (ints_at hlt)).1
      have HM := Lib.hid (mem_getD hlt)
      have HT := Lib.hid (take_snoc hlt)
      generalize ns.getD t 0 = x at *
      by_cases hx : x < 0
      · have d2 : decide (x < 0) = true := by simpa using hx
        have HX := Lib.hid (show c = false by rw [H.out, decide_eq_false_iff_not, HF.out]; intro h; have := h x HM.out; omega)
        clear hx
        go_wp2
        go_ret
        exact ⟨ret_bool HX.out.symm, rfl⟩
      · have d2 : decide (x < 0) = false := by simpa using hx
        by_cases hP : (P : Int) ≤ x
        · have d3 : decide ((P : Int) ≤ x) = true := by simpa using hP
          have HX := Lib.hid (show c = false by rw [H.out, decide_eq_false_iff_not, HF.out]; intro h; have := h x HM.out; omega)
          clear hx hP
          go_wp2
          go_ret
          exact ⟨ret_bool HX.out.symm, rfl⟩
        · have d3 : decide ((P : Int) ≤ x) = false := by simpa using hP
          have HX := Lib.hid (show 0 ≤ x ∧ x < (P : Int) by omega)
          clear hx hP
          go_wp2
          go_round
          case rel =>
            refine ⟨t + 1, by omega, by go_num, fun n hn => ?_⟩
            rw [HT.out] at hn
            rcases List.mem_append.1 hn with hn | hn
            · exact HA.out n hn
            · rw [List.mem_singleton] at hn
              subst hn
              exact HX.out
          case measure => simp [intOf]; omega
    · obtain rfl : t = ns.length := by omega
      have HX := Lib.hid (show c = true by rw [H.out, decide_eq_true_eq, HF.out]; have := HA.out; rw [List.take_length] at this; exact this)
      clear hlt
      go_wp2
      go_ret
      exact ⟨ret_bool HX.out.symm, rfl⟩
def bputs (k : Nat) (ns : List Nat) : List Nat := ns.flatMap fun n => bput n k
theorem bputs_len (k : Nat) (ns : List Nat) : (bputs k ns).length = k * ns.length := by
  induction ns with
  | nil => rfl
  | cons n t ih => simp only [bputs, List.flatMap_cons, List.length_append, bput_len, List.length_cons] at ih ⊢; rw [ih, Nat.mul_succ, Nat.add_comm]
def nats (ns : List Nat) : List Int := ns.map fun n : Nat => (n : Int)
theorem nats_len (ns : List Nat) : (nats ns).length = ns.length := by simp [nats]
theorem nats_at {ns : List Nat} {i : Nat} (h : i < ns.length) : (ints (nats ns))[i]? = some (.int .i64 (ns.getD i 0 : Nat)) := by
  simp [ints, nats, List.getD_eq_getElem?_getD, List.getElem?_eq_getElem h]
theorem bputs_take {k : Nat} {ns : List Nat} {i : Nat} (h : i < ns.length) : bputs k (ns.take (i + 1)) = bputs k (ns.take i) ++ bput (ns.getD i 0) k := by
  rw [List.take_succ_eq_append_getElem h, List.getD_eq_getElem?_getD, List.getElem?_eq_getElem h, bputs, List.flatMap_append, List.flatMap_singleton]; rfl
theorem mem_getDn {ns : List Nat} {i : Nat} (h : i < ns.length) : ns.getD i 0 ∈ ns := by
  rw [List.getD_eq_getElem?_getD, List.getElem?_eq_getElem h]; exact List.getElem_mem _
theorem bputs_short {k : Nat} {ns : List Nat} (t : Nat) : (bputs k (ns.take t)).length ≤ k * ns.length := by
  rw [bputs_len, List.length_take]; exact Nat.mul_le_mul_left _ (Nat.min_le_right _ _)
set_option maxHeartbeats 2000000 in
theorem tput_any {p : Nat → Prop} {v : Value} {l : List Nat} (g cap k : Nat) (ns : List Nat) (w : World) (h : Rb p w v l) (hl : l.length ≤ 50000) (hC : CL w g (ints (nats ns))) (hk0 : 1 ≤ k) (hk1 : k ≤ 7) (hn : ns.length ≤ 100) (h0 : 0 < ns.length) (hfit : ∀ n ∈ ns, n < 256 ^ k) :
    Calls Tryz.prog 57 #[v, .int .i64 k, .slice (some ⟨g, 0, none⟩) ns.length cap] w fun e w' => ∃ v', e = .returned v' ∧ OwB w.heap.size w' v' (l ++ bputs k ns) ∧ Gr w w' := by
  have HR := Lib.hid h
  have HC := Lib.hid hC
  have HK := Lib.hid (show k * ns.length ≤ 700 from Nat.le_trans (Nat.mul_le_mul hk1 hn) (Nat.le_refl _))
  have HF := Lib.hid hfit
  obtain ⟨a, c, rfl, -, -⟩ := h.form
  clear h hC hfit
  go_enter Tryz.func57, Tryz.ntmps57
  go_wp2
  go_loopw [0, 11] (fun bv i wr => ∃ (t : Nat) (u : Value), u = bv ∧ t ≤ ns.length ∧ i = .int .i64 t ∧ ((t = 0 ∧ u = .slice a l.length c) ∨ (0 < t ∧ OwB w.heap.size wr u (l ++ bputs k (ns.take t)))) ∧ Gr w wr) (fun _ i _ => ns.length - (intOf i).toNat)
  case atStart => exact ⟨0, _, rfl, Nat.zero_le _, rfl, .inl ⟨rfl, rfl⟩, Gr.refl _⟩
  case round =>
    obtain ⟨t, bv, rfl, ht, rfl, hb, hgr⟩ := hrel
    by_cases hlt : t < ns.length
    · have d1 : (t : Int) < (ns.length : Int) := by omega
      have hcell := ((HC.out.gr hgr).at' t _ (nats_at hlt)).1
      have HM := Lib.hid (HF.out _ (mem_getDn hlt))
      have HT := Lib.hid (bputs_take (k := k) hlt)
      generalize ns.getD t 0 = x at *
      have hpost : ∃ q : Nat → Prop, Rb q wr bv (l ++ bputs k (ns.take t)) := by
        rcases hb with ⟨rfl, rfl⟩ | ⟨_, hb⟩
        · exact ⟨p, by simp only [List.take_zero, bputs, List.flatMap_nil, List.append_nil]; exact HR.out.gr hgr⟩
        · exact ⟨_, hb.rb⟩
      obtain ⟨q, hq⟩ := hpost
      have HP := Lib.hid (put_own x k wr hq (by rw [List.length_append]; have := bputs_short (k := k) (ns := ns) t; have := HK.out; omega) hk0 hk1 HM.out)
      obtain ⟨a2, c2, rfl, -, -⟩ := hq.form
      have hsz := Gr.size hgr
      clear hb hq
      generalize (l ++ bputs k (ns.take t)).length = N at HP ⊢
      go_wp2_with fail
      refine HP.out.mono ?_
      rintro e w1 ⟨v1, rfl, ho, hg⟩
      have HO := Lib.hid (ho.base hsz)
      clear ho
      go_wp2_with fail
      case roundEnd =>
        refine ⟨⟨t + 1, _, rfl, by omega, by simp, .inr ⟨by omega, ?_⟩, hgr.step hg⟩, by simp [intOf]; omega⟩
        rw [HT.out, ← List.append_assoc]
        exact HO.out
    · obtain rfl : t = ns.length := by omega
      rcases hb with ⟨h0', -⟩ | ⟨-, hb⟩
      · omega
      · rw [List.take_length] at hb
        go_wp2_with fail
        go_ret
        exact ⟨_, rfl, hb, hgr⟩
theorem tget_any {p : Nat → Prop} {v : Value} {l : List Nat} (i k : Nat) (w : World) (h : Rb p w v l) (hk0 : 1 ≤ k) (hk1 : k ≤ 7) (hik : i + k ≤ l.length) :
    Calls Tryz.prog 48 #[v, .int .i64 i, .int .i64 k] w fun e w' => e = .returned (.int .i64 (gN l i k : Nat)) ∧ w = w' := by
  have HP := Lib.hid (get_yes i k w h hk0 hk1 hik)
  obtain ⟨a, cap, rfl, -, -⟩ := h.form
  clear h hik
  unfold gN
  go_enter Tryz.func48, Tryz.ntmps48
  go_wp2_with fail
  refine HP.out.mono ?_
  rintro e w1 ⟨rfl, rfl⟩
  go_wp2_with fail
  go_ret
  exact ⟨rfl, rfl⟩
end Go.Proofs.YtkpejaiigopmgaaGreatDoor
