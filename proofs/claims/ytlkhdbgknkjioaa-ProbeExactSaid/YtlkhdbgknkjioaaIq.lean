/- The package ipv4 on encodings; the sanity check. -/
import Derived.Test.YtlkhdbgknkjioaaIl
import Derived.WalkKit
import Derived.WalkSpells
import Derived.WalkLawsBesides
import Derived.WalkSmall
import Derived.Handy
import Derived.BigQuiet
import Derived.Deep.QuietTactic
import Derived.Deep.RegionHeld3
import Derived.Deep.DeepFit
import Derived.Below
import Derived.Lib.Hide
import Derived.Lib.QuietBelow
namespace Go.Proofs.Ytlkhdbgknkjioaa
open Go Go.RowKit Go.Sort
set_option maxRecDepth 100000
set_option linter.unusedVariables false
/-- the bytes of a packet -/
def enc (h : Hd) (d : List Nat) : List Nat := hbytes h (20 + d.length) ++ d
theorem enc_len (h : Hd) (d : List Nat) : (enc h d).length = 20 + d.length := by unfold enc; rw [List.length_append, hbytes_len]
theorem enc_drop (h : Hd) (d : List Nat) : (enc h d).drop 20 = d := by
  unfold enc
  rw [List.drop_append_of_le_length (by rw [hbytes_len]; exact Nat.le_refl _), List.drop_of_length_le (by rw [hbytes_len]; exact Nat.le_refl _)]; rfl
theorem enc_hd {h : Hd} (k : h.ok) {d : List Nat} (hd : d.length ≤ 1480) (m : List Nat) : hdAt (enc h d ++ m) = h ∧ gN (enc h d ++ m) 2 2 = 20 + d.length := by
  unfold enc
  rw [List.append_assoc]
  exact hdAt_bytes k (by omega) _
theorem enc_pk {h : Hd} (k : h.ok) {d : List Nat} (hd : d.length ≤ 1480) (m : List Nat) : pkE (enc h d ++ m) = 0 := by
  unfold enc
  rw [List.append_assoc]
  exact pkE_bytes k (by omega) (by omega) _
theorem enc_dc {h : Hd} (k : h.ok) {d : List Nat} (hd : d.length ≤ 1480) : dcE (enc h d) = 0 ∧ hdAt (enc h d) = h := by
  have h1 := enc_pk k hd []
  have h2 := enc_hd k hd []
  rw [List.append_nil] at h1 h2
  exact ⟨dcE_ok h1 (by rw [h2.2, enc_len]) (by rw [h2.2]; omega), h2.1⟩
theorem encode_enc {p : Nat → Prop} {v : Value} {d : List Nat} (h : Hd) (k : h.ok) (w : World) (hr : Rb p w v d) (hl : d.length ≤ 1480) :
    Calls Try.prog 68 #[h.p v] w fun e w' => ∃ v', e = .returned (.tuple #[v', .int .i64 0]) ∧ OwB w.heap.size w' v' (enc h d) ∧ Gr w w' := encode_ok h k w hr hl
theorem decode_enc {p : Nat → Prop} {v : Value} {h : Hd} {d : List Nat} (k : h.ok) (w : World) (hr : Rb p w v (enc h d)) (hl : d.length ≤ 1480) :
    Calls Try.prog 44 #[v] w fun e w' => ∃ v', e = .returned (.tuple #[h.p v', .int .i64 0]) ∧ OwB w.heap.size w' v' d ∧ Gr w w' := by
  have := decode_ok w hr (by rw [enc_len]; omega) (enc_dc k hl).1
  rw [(enc_dc k hl).2, enc_drop] at this
  exact this
theorem peek_enc {p : Nat → Prop} {v : Value} {h : Hd} {d m : List Nat} (k : h.ok) (w : World) (hr : Rb p w v (enc h d ++ m)) (hl : d.length ≤ 1480) (hm : m.length ≤ 2000) :
    Calls Try.prog 78 #[v] w fun e w' => e = .returned (.tuple #[h.v, .int .i64 (20 + d.length : Nat), .int .i64 0]) ∧ Gr w w' := by
  have := peek_any w hr (by rw [List.length_append, enc_len]; omega)
  obtain ⟨pe1, pe2⟩ := pk_ok (enc_pk k hl m)
  rw [pe1, pe2, enc_pk k hl m, (enc_hd k hl m).1, (enc_hd k hl m).2] at this
  exact this
theorem lower_enc {p : Nat → Prop} {v : Value} {h : Hd} {d : List Nat} (k : h.ok) (w : World) (hr : Rb p w v (enc h d)) (hl : d.length ≤ 1480) (ht : ¬ h.ttl < 2) :
    Calls Try.prog 43 #[v] w fun e w' => ∃ v', e = .returned (.tuple #[v', .int .i64 0]) ∧ OwB w.heap.size w' v' (enc h.low d) ∧ Gr w w' := by
  obtain ⟨h1, h2⟩ := enc_dc k hl
  have := lower_ok w hr (by rw [enc_len]; omega) (lwE_ok h1 (by rw [h2]; exact ht))
  rw [h2, enc_drop, enc_len] at this
  exact this
theorem lower_low {p : Nat → Prop} {v : Value} {h : Hd} {d : List Nat} (k : h.ok) (w : World) (hr : Rb p w v (enc h d)) (hl : d.length ≤ 1480) (ht : h.ttl < 2) :
    Calls Try.prog 43 #[v] w fun e w' => e = .returned (.tuple #[.slice none 0 0, .int .i64 7]) ∧ Gr w w' := by
  obtain ⟨h1, h2⟩ := enc_dc k hl
  have hE := lwE_state h1 (by rw [h2]; exact ht)
  have := lower_err w hr (by rw [enc_len]; omega) (by rw [hE]; omega)
  rw [hE] at this
  exact this
end Go.Proofs.Ytlkhdbgknkjioaa
