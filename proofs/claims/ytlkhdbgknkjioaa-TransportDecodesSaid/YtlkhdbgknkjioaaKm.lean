/- Messages as lists of bytes: checksums in their places, fields, damage. -/
import Derived.Test.YtlkhdbgknkjioaaIm
namespace Go.Proofs.Ytlkhdbgknkjioaa
open Go
set_option maxRecDepth 100000
set_option linter.unusedVariables false
theorem bput_snoc (n k : Nat) : bput n (k + 1) = bput (n / 256) k ++ [n % 256] := by
  induction k with
  | zero => simp [bput]
  | succ k ih =>
    rw [bput, ih, bput]
    rw [Nat.div_div_eq_div_mul, show 256 * 256 ^ k = 256 ^ (k + 1) by rw [Nat.pow_succ, Nat.mul_comm]]
    rfl
theorem bput_mod (n k : Nat) : bput (n % 256 ^ k) k = bput n k := by
  have key : ∀ m, k ≤ m → bput (n % 256 ^ m) k = bput n k := by
    induction k with
    | zero => intro m _; rfl
    | succ k ih =>
      intro m hm
      rw [bput, bput, ih m (by omega)]
      congr 1
      obtain ⟨j, rfl⟩ : ∃ j, m = k + 1 + j := ⟨m - (k + 1), by omega⟩
      rw [show 256 ^ (k + 1 + j) = 256 ^ k * (256 * 256 ^ j) by rw [Nat.pow_add, Nat.pow_succ, Nat.mul_assoc], Nat.mod_mul_right_div_self, Nat.mod_mul_right_mod]
  exact key k (Nat.le_refl _)
theorem bput_bnum {l : List Nat} (h : ∀ x ∈ l, x < 256) : bput (bnum l) l.length = l := by
  induction hn : l.length generalizing l with
  | zero =>
    have : l = [] := List.eq_nil_of_length_eq_zero hn
    subst this; rfl
  | succ n ih =>
    obtain ⟨m, x, rfl⟩ : ∃ m x, l = m ++ [x] := by
      have h0 : l ≠ [] := by intro h; rw [h] at hn; simp at hn
      exact ⟨l.dropLast, l.getLast h0, (List.dropLast_concat_getLast h0).symm⟩
    have hx := h x (by simp)
    have hm : m.length = n := by simpa using hn
    rw [bnum_snoc, bput_snoc, show (bnum m * 256 + x) / 256 = bnum m by omega, show (bnum m * 256 + x) % 256 = x by omega]
    rw [ih (fun y hy => h y (by simp [hy])) hm]
theorem bput_gN {l : List Nat} (h : ∀ x ∈ l, x < 256) {i k : Nat} (hk : i + k ≤ l.length) : bput (gN l i k) k = (l.drop i).take k := by
  have e : ((l.drop i).take k).length = k := by rw [List.length_take, List.length_drop]; omega
  have := bput_bnum (l := (l.drop i).take k) (fun x hx => h x (List.mem_of_mem_drop (List.mem_of_mem_take hx)))
  rw [e] at this
  exact this
theorem bnum_bput (n k : Nat) : bnum (bput n k) = n % 256 ^ k := by
  induction k generalizing n with
  | zero => simp [bput, bnum, Nat.mod_one]
  | succ k ih =>
    rw [bput_snoc, bnum_snoc, ih, Nat.pow_succ, Nat.mul_comm (256 ^ k) 256, Nat.mod_mul]
    omega
theorem gN_of {l a z : List Nat} {n i k : Nat} (h : l = a ++ (bput n k ++ z)) (hi : a.length = i) (hn : n < 256 ^ k) : gN l i k = n := by
  subst h; subst hi
  unfold gN
  rw [List.drop_left, List.take_left' (bput_len n k), bnum_bput, Nat.mod_eq_of_lt hn]
/-- a message with its checksum in its place -/
def msg (S : List Nat → Nat) (a z : List Nat) : List Nat := a ++ bput (S (a ++ bput 0 2 ++ z)) 2 ++ z
theorem msg_len (S : List Nat → Nat) (a z : List Nat) : (msg S a z).length = a.length + 2 + z.length := by simp [msg, bput_len, Nat.add_assoc]
theorem zmsg_len (a z : List Nat) : (a ++ bput 0 2 ++ z).length = a.length + 2 + z.length := by simp [bput_len, Nat.add_assoc]
theorem msg_set (S : List Nat → Nat) (a z : List Nat) : ((a ++ bput 0 2 ++ z).set a.length (S (a ++ bput 0 2 ++ z) / 256 % 256)).set (a.length + 1) (S (a ++ bput 0 2 ++ z) % 256) = msg S a z := by
  unfold msg
  generalize S (a ++ bput 0 2 ++ z) = s
  rw [List.append_assoc, List.append_assoc]
  rw [List.set_append_right a.length _ (Nat.le_refl _), List.set_append_right (a.length + 1) _ (Nat.le_succ _)]
  rw [Nat.sub_self, show a.length + 1 - a.length = 1 by omega]
  simp [bput]
theorem msg_take (S : List Nat → Nat) (a z : List Nat) : (msg S a z).take a.length = a := by unfold msg; rw [List.append_assoc, List.take_left']; rfl
theorem msg_drop (S : List Nat → Nat) (a z : List Nat) : (msg S a z).drop (a.length + 2) = z := by
  unfold msg
  rw [List.drop_left']
  rw [List.length_append, bput_len]
theorem msg_lt (S : List Nat → Nat) {a z : List Nat} (ha : ∀ x ∈ a, x < 256) (hz : ∀ x ∈ z, x < 256) : ∀ x ∈ msg S a z, x < 256 := by
  intro x hx
  unfold msg at hx
  rcases List.mem_append.1 hx with hx | hx
  · rcases List.mem_append.1 hx with hx | hx
    · exact ha x hx
    · exact bput_lt _ _ x hx
  · exact hz x hx
/-- the last errors of a decoding -/
def vE (S : List Nat → Nat) (i : Nat) (l : List Nat) : Nat := if 1480 < l.length then 5 else if l = msg S (l.take i) (l.drop (i + 2)) then 0 else 4
theorem vE_long {S : List Nat → Nat} {i : Nat} {l : List Nat} (h : 1480 < l.length) : vE S i l = 5 := if_pos h
theorem vE_ok {S : List Nat → Nat} {i : Nat} {l : List Nat} (h : ¬ 1480 < l.length) (k : l = msg S (l.take i) (l.drop (i + 2))) : vE S i l = 0 := by unfold vE; rw [if_neg h, if_pos k]
theorem vE_bad {S : List Nat → Nat} {i : Nat} {l : List Nat} (h : ¬ 1480 < l.length) (k : ¬ l = msg S (l.take i) (l.drop (i + 2))) : vE S i l = 4 := by unfold vE; rw [if_neg h, if_neg k]
theorem vE_msg {S : List Nat → Nat} {a z : List Nat} (h : a.length + 2 + z.length ≤ 1480) : vE S a.length (msg S a z) = 0 := by
  refine vE_ok (by rw [msg_len]; omega) ?_
  rw [msg_take, msg_drop]
theorem vE_zero {S : List Nat → Nat} {i : Nat} {l : List Nat} (h : vE S i l = 0) : l.length ≤ 1480 ∧ l = msg S (l.take i) (l.drop (i + 2)) := by
  unfold vE at h
  split at h
  · omega
  · split at h
    · next h1 h2 => exact ⟨by omega, h2⟩
    · omega
/-- the three sums -/
def s0 (l : List Nat) : Nat := 65535 - oc (wsum false l)
def psd (src dst proto n : Nat) : List Nat := bput src 4 ++ bput dst 4 ++ (bput 0 1 ++ bput proto 1) ++ bput n 2
def sP (src dst proto : Nat) (l : List Nat) : Nat := s0 (psd src dst proto l.length ++ l)
def sU (src dst : Nat) (l : List Nat) : Nat := if sP src dst 17 l = 0 then 65535 else sP src dst 17 l
theorem s0_le (l : List Nat) : s0 l ≤ 65535 := by unfold s0; omega
theorem sP_le (a b p : Nat) (l : List Nat) : sP a b p l ≤ 65535 := s0_le _
theorem sU_le (a b : Nat) (l : List Nat) : sU a b l ≤ 65535 := by have := sP_le a b 17 l; unfold sU; split <;> omega
theorem psd_len (a b p n : Nat) : (psd a b p n).length = 12 := by simp [psd, bput_len]
theorem psd_lt (a b p n : Nat) : ∀ x ∈ psd a b p n, x < 256 := by
  intro x hx
  unfold psd at hx
  simp only [List.mem_append] at hx
  rcases hx with ((hx | hx) | (hx | hx)) | hx <;> exact bput_lt _ _ x hx
/-- the checksum is, up to multiples of 65535, a constant without the sum of the bytes -/
def Lin (S : List Nat → Nat) : Prop := ∃ K : Nat → Nat, ∀ l, (S l + (K l.length + wsum false l)) % 65535 = 0
theorem s0_mod (l : List Nat) : (s0 l + wsum false l) % 65535 = 0 := by
  have h1 := oc_le (wsum false l)
  have h2 := oc_mod (wsum false l)
  unfold s0; omega
theorem lin0 : Lin s0 := ⟨fun _ => 0, fun l => by have := s0_mod l; show (s0 l + (0 + wsum false l)) % 65535 = 0; omega⟩
theorem sP_mod (a b p : Nat) (l : List Nat) : (sP a b p l + (wsum false (psd a b p l.length) + wsum false l)) % 65535 = 0 := by
  have := s0_mod (psd a b p l.length ++ l)
  rw [wsum_even (by rw [psd_len])] at this
  exact this
theorem linP (a b p : Nat) : Lin (sP a b p) := ⟨fun n => wsum false (psd a b p n), fun l => sP_mod a b p l⟩
theorem linU (a b : Nat) : Lin (sU a b) := ⟨fun n => wsum false (psd a b 17 n), fun l => by
  have := sP_mod a b 17 l
  show (sU a b l + (wsum false (psd a b 17 l.length) + wsum false l)) % 65535 = 0
  unfold sU; split <;> omega⟩
theorem wsum_psd (a b p n : Nat) : wsum false (psd a b p n) = wsum false (bput a 4) + wsum false (bput b 4) + wsum false (bput 0 1 ++ bput p 1) + wsum false (bput n 2) := by
  unfold psd
  rw [wsum_even (by simp [bput_len]), wsum_even (by simp [bput_len]), wsum_even (by simp [bput_len])]
theorem sP_swap (a b p : Nat) (l : List Nat) : sP a b p l = sP b a p l := by
  unfold sP s0
  rw [wsum_even (by rw [psd_len]), wsum_even (by rw [psd_len]), wsum_psd, wsum_psd]
  congr 3; omega
theorem sU_swap (a b : Nat) (l : List Nat) : sU a b l = sU b a l := by unfold sU; rw [sP_swap]
theorem vE_swapP (a b p i : Nat) (l : List Nat) : vE (sP a b p) i l = vE (sP b a p) i l := by
  rw [show sP a b p = sP b a p from funext fun l => sP_swap a b p l]
theorem vE_swapU (a b i : Nat) (l : List Nat) : vE (sU a b) i l = vE (sU b a) i l := by
  rw [show sU a b = sU b a from funext fun l => sU_swap a b l]
/-- the sum of a message whose checksum is right -/
theorem wsum_msg {S : List Nat → Nat} (hS : Lin S) (h16 : ∀ l, S l ≤ 65535) : ∃ K : Nat → Nat, ∀ a z : List Nat, a.length % 2 = 0 → (wsum false (msg S a z) + K (a.length + 2 + z.length)) % 65535 = 0 := by
  obtain ⟨K, hK⟩ := hS
  refine ⟨K, fun a z he => ?_⟩
  have h1 := hK (a ++ bput 0 2 ++ z)
  have h2 := h16 (a ++ bput 0 2 ++ z)
  rw [zmsg_len, wsum_even (by simp [bput_len, he]), wsum_even he] at h1
  unfold msg
  rw [wsum_even (by simp [bput_len, he]), wsum_even he]
  generalize S (a ++ bput 0 2 ++ z) = s at *
  have e1 : wsum false (bput s 2) = s := by simp only [bput, wsum, Nat.pow_one, Nat.pow_zero, Nat.div_one, Nat.add_zero]; omega
  have e0 : wsum false (bput 0 2) = 0 := rfl
  rw [e1]
  rw [e0] at h1
  omega
/-- one byte is replaced: the checksum is no longer right -/
theorem vE_damage {S : List Nat → Nat} (hS : Lin S) (h16 : ∀ l, S l ≤ 65535) {i j : Nat} {l : List Nat} (hi : i % 2 = 0) (hil : i + 2 ≤ l.length) (hb : ∀ x ∈ l, x < 256) (h : vE S i l = 0) (hj : j < l.length) {x : Nat} (hx : x < 256) (hne : x ≠ l.getD j 0) : vE S i (l.set j x) ≠ 0 := by
  intro hd
  obtain ⟨K, hK⟩ := wsum_msg hS h16
  have h1 := (vE_zero h).2
  have h2 := (vE_zero hd).2
  have k1 := hK (l.take i) (l.drop (i + 2)) (by rw [List.length_take]; omega)
  have k2 := hK ((l.set j x).take i) ((l.set j x).drop (i + 2)) (by rw [List.length_take, List.length_set]; omega)
  rw [← h1] at k1
  rw [← h2] at k2
  have e1 : (l.take i).length + 2 + (l.drop (i + 2)).length = l.length := by rw [List.length_take, List.length_drop]; omega
  have e2 : ((l.set j x).take i).length + 2 + ((l.set j x).drop (i + 2)).length = l.length := by rw [List.length_take, List.length_drop, List.length_set]; omega
  rw [e1] at k1
  rw [e2] at k2
  have hg := getD_lt hb j
  rcases Nat.mod_two_eq_zero_or_one j with he | he
  · have := wsum_set_even false hj x (by unfold par; rw [if_pos he])
    omega
  · have := wsum_set_odd false hj x (by unfold par; rw [if_neg (by omega)]; rfl)
    omega
end Go.Proofs.Ytlkhdbgknkjioaa
