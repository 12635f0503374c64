/- Decoding any bytes: both sides. -/
import Derived.Test.YtlkhdbgknkjioaaKk5
import Derived.WalkKit
import Derived.WalkSpells
import Derived.WalkLawsBesides
import Derived.WalkSmall
import Derived.Handy
import Derived.BigQuiet
import Derived.Deep.QuietTactic
import Derived.Deep.RegionHeld3
import Derived.Deep.DeepFit
import Derived.Below
import Derived.Lib.Hide
import Derived.Lib.QuietBelow
namespace Go.Proofs.Ytlkhdbgknkjioaa
open Go Go.RowKit Go.Sort
set_option maxRecDepth 100000
set_option linter.unusedVariables false
set_option linter.unusedSimpArgs false
set_option linter.unusedVariables false
theorem vE_cases (S : List Nat → Nat) (i : Nat) (l : List Nat) (h : ¬ 1480 < l.length) : vE S i l = 0 ∨ vE S i l = 4 := by
  by_cases k : l = msg S (l.take i) (l.drop (i + 2))
  · exact .inl (vE_ok h k)
  · exact .inr (vE_bad h k)
def echoD (w : World) (r : Bool) (a b : Nat) (d : List Nat) (E : Nat) (e : Ending) (w' : World) : Prop := ∃ v', e = .returned (.tuple #[.agg #[.bool r, .int .i64 a, .int .i64 b, v'], .int .i64 E]) ∧ OwB w.heap.size w' v' d ∧ Gr w w'
def noteD (w : World) (a b : Nat) (d : List Nat) (E : Nat) (e : Ending) (w' : World) : Prop := ∃ v', e = .returned (.tuple #[.agg #[.int .i64 a, .int .i64 b, v'], .int .i64 E]) ∧ OwB w.heap.size w' v' d ∧ Gr w w'
def udpD (w : World) (a b : Nat) (d : List Nat) (E : Nat) (e : Ending) (w' : World) : Prop := ∃ v', e = .returned (.tuple #[.agg #[.int .i64 a, .int .i64 b, v'], .int .i64 E]) ∧ OwB w.heap.size w' v' d ∧ Gr w w'
def tcpD (w : World) (a b c f g h : Nat) (d : List Nat) (E : Nat) (e : Ending) (w' : World) : Prop := ∃ v', e = .returned (.tuple #[.agg #[.int .i64 a, .int .i64 b, .int .i64 c, .int .i64 f, .int .i64 g, .int .i64 h, v'], .int .i64 E]) ∧ OwB w.heap.size w' v' d ∧ Gr w w'
theorem echo_both (l : List Nat) (hl : l.length ≤ 30000) : ∃ (r : Bool) (a b : Nat) (d : List Nat) (E : Nat), d.length ≤ 30000 ∧ (∀ w v, Rb (fun _ => True) w v l → Calls Try.prog 21 #[v] w (echoD w r a b d E)) ∧ (∀ w v, Rb (fun _ => True) w v l → Calls Try.prog 51 #[v] w (echoD w r a b d E)) := by
  by_cases h0 : dcEcho l = 0
  · refine ⟨decide (gN l 0 1 = 0), gN l 4 2, gN l 6 2, l.drop 8, 0, by rw [List.length_drop]; omega, fun w v hr => decho_ok w hr hl h0, fun w v hr => ?_⟩
    have hc : 8 ≤ l.length ∧ (gN l 0 1 = 8 ∨ gN l 0 1 = 0) ∧ gN l 1 1 = 0 ∧ vE s0 2 l = 0 := by
      unfold dcEcho at h0
      split at h0
      · omega
      · split at h0
        · omega
        · exact ⟨by omega, by omega, by omega, h0⟩
    obtain ⟨h8, hk, h1, hv⟩ := hc
    have hl8 := (vE_zero hv).1
    rcases hk with hk | hk
    · refine (rdecho_late false w hr h8 hl8 hk h1).mono ?_
      rintro e w' (⟨-, v', rfl, ho, hg⟩ | ⟨h4, -⟩)
      · rw [hk]; exact ⟨v', rfl, ho, hg⟩
      · omega
    · refine (rdecho_late true w hr h8 hl8 hk h1).mono ?_
      rintro e w' (⟨-, v', rfl, ho, hg⟩ | ⟨h4, -⟩)
      · rw [hk]; exact ⟨v', rfl, ho, hg⟩
      · omega
  · refine ⟨false, 0, 0, [], dcEcho l, by simp, fun w v hr => ?_, fun w v hr => ?_⟩
    · refine (decho_err w hr hl h0).mono ?_
      rintro e w' ⟨rfl, hg⟩
      exact ⟨_, rfl, OwB.nil _ _, hg⟩
    · have key : Calls Try.prog 51 #[v] w (DErr w echoZ0 (dcEcho l)) := by
        by_cases h8 : l.length < 8
        · rw [show dcEcho l = 3 from if_pos h8]; exact rdecho_short w hr h8 hl
        by_cases hf : (gN l 0 1 ≠ 8 ∧ gN l 0 1 ≠ 0) ∨ gN l 1 1 ≠ 0
        · rw [show dcEcho l = 2 by unfold dcEcho; rw [if_neg h8, if_pos hf]]
          by_cases ha : gN l 0 1 = 8
          · exact rdecho_form1 w hr (by omega) ha (by omega) hl
          · by_cases hb : gN l 0 1 = 0
            · exact rdecho_form2 w hr (by omega) hb (by omega) hl
            · exact rdecho_form0 w hr (by omega) ha hb hl
        · have e : dcEcho l = vE s0 2 l := by unfold dcEcho; rw [if_neg h8, if_neg hf]
          have h1 : gN l 1 1 = 0 := by omega
          by_cases hm : 1480 < l.length
          · rw [e, vE_long hm]
            by_cases ha : gN l 0 1 = 8
            · exact rdecho_limit1 w hr (by omega) ha h1 hm hl
            · exact rdecho_limit2 w hr (by omega) (by omega) h1 hm hl
          · have h4 : vE s0 2 l = 4 := by rcases vE_cases s0 2 l hm with h | h <;> omega
            rw [e, h4]
            by_cases ha : gN l 0 1 = 8
            · refine (rdecho_late false w hr (by omega) (by omega) ha h1).mono ?_
              rintro e w' (⟨hz, -⟩ | ⟨-, rfl, hg⟩)
              · omega
              · exact ⟨rfl, hg⟩
            · refine (rdecho_late true w hr (by omega) (by omega) (show gN l 0 1 = kind true by show gN l 0 1 = 0; omega) h1).mono ?_
              rintro e w' (⟨hz, -⟩ | ⟨-, rfl, hg⟩)
              · omega
              · exact ⟨rfl, hg⟩
      refine key.mono ?_
      rintro e w' ⟨rfl, hg⟩
      exact ⟨_, rfl, OwB.nil _ _, hg⟩
theorem note_both (l : List Nat) (hl : l.length ≤ 30000) : ∃ (a b : Nat) (d : List Nat) (E : Nat), d.length ≤ 30000 ∧ (∀ w v, Rb (fun _ => True) w v l → Calls Try.prog 22 #[v] w (noteD w a b d E)) ∧ (∀ w v, Rb (fun _ => True) w v l → Calls Try.prog 52 #[v] w (noteD w a b d E)) := by
  by_cases h0 : dcNote l = 0
  · refine ⟨gN l 0 1, gN l 1 1, l.drop 8, 0, by rw [List.length_drop]; omega, fun w v hr => dnote_ok w hr hl h0, fun w v hr => ?_⟩
    have hc : 36 ≤ l.length ∧ (gN l 0 1 = 3 ∨ gN l 0 1 = 11) ∧ gN l 4 4 = 0 ∧ vE s0 2 l = 0 := by
      unfold dcNote at h0
      split at h0
      · omega
      · split at h0
        · omega
        · exact ⟨by omega, by omega, by omega, h0⟩
    obtain ⟨h8, hk, h1, hv⟩ := hc
    have hl8 := (vE_zero hv).1
    rcases hk with hk | hk
    · refine (rdnote_late3 w hr h8 hl8 hk h1).mono ?_
      rintro e w' (⟨-, v', rfl, ho, hg⟩ | ⟨h4, -⟩)
      · rw [hk]; exact ⟨v', rfl, ho, hg⟩
      · omega
    · refine (rdnote_late11 w hr h8 hl8 hk h1).mono ?_
      rintro e w' (⟨-, v', rfl, ho, hg⟩ | ⟨h4, -⟩)
      · rw [hk]; exact ⟨v', rfl, ho, hg⟩
      · omega
  · refine ⟨0, 0, [], dcNote l, by simp, fun w v hr => ?_, fun w v hr => ?_⟩
    · refine (dnote_err w hr hl h0).mono ?_
      rintro e w' ⟨rfl, hg⟩
      exact ⟨_, rfl, OwB.nil _ _, hg⟩
    · have key : Calls Try.prog 52 #[v] w (DErr w noteZ0 (dcNote l)) := by
        by_cases h8 : l.length < 36
        · rw [show dcNote l = 3 from if_pos h8]; exact rdnote_short w hr h8 hl
        by_cases hf : (gN l 0 1 ≠ 3 ∧ gN l 0 1 ≠ 11) ∨ gN l 4 4 ≠ 0
        · rw [show dcNote l = 2 by unfold dcNote; rw [if_neg h8, if_pos hf]]
          by_cases ha : gN l 0 1 = 3
          · exact rdnote_form3 w hr (by omega) ha (by omega) hl
          · by_cases hb : gN l 0 1 = 11
            · exact rdnote_form11 w hr (by omega) hb (by omega) hl
            · exact rdnote_form0 w hr (by omega) ha hb hl
        · have e : dcNote l = vE s0 2 l := by unfold dcNote; rw [if_neg h8, if_neg hf]
          have h1 : gN l 4 4 = 0 := by omega
          by_cases hm : 1480 < l.length
          · rw [e, vE_long hm]
            by_cases ha : gN l 0 1 = 3
            · exact rdnote_limit3 w hr (by omega) ha h1 hm hl
            · exact rdnote_limit11 w hr (by omega) (by omega) h1 hm hl
          · have h4 : vE s0 2 l = 4 := by rcases vE_cases s0 2 l hm with h | h <;> omega
            rw [e, h4]
            by_cases ha : gN l 0 1 = 3
            · refine (rdnote_late3 w hr (by omega) (by omega) ha h1).mono ?_
              rintro e w' (⟨hz, -⟩ | ⟨-, rfl, hg⟩)
              · omega
              · exact ⟨rfl, hg⟩
            · refine (rdnote_late11 w hr (by omega) (by omega) (by omega) h1).mono ?_
              rintro e w' (⟨hz, -⟩ | ⟨-, rfl, hg⟩)
              · omega
              · exact ⟨rfl, hg⟩
      refine key.mono ?_
      rintro e w' ⟨rfl, hg⟩
      exact ⟨_, rfl, OwB.nil _ _, hg⟩
theorem udp_both (src dst : Nat) (hsr : src < 4294967296) (hds : dst < 4294967296) (l : List Nat) (hl : l.length ≤ 30000) : ∃ (a b : Nat) (d : List Nat) (E : Nat), d.length ≤ 30000 ∧ (∀ w v, Rb (fun _ => True) w v l → Calls Try.prog 23 #[.int .u32 src, .int .u32 dst, v] w (udpD w a b d E)) ∧ (∀ w v, Rb (fun _ => True) w v l → Calls Try.prog 53 #[.int .u32 src, .int .u32 dst, v] w (udpD w a b d E)) := by
  by_cases h0 : dcUDP src dst l = 0
  · refine ⟨gN l 0 2, gN l 2 2, l.drop 8, 0, by rw [List.length_drop]; omega, fun w v hr => dudp_ok src dst w hr hsr hds hl h0, fun w v hr => ?_⟩
    have hc : 8 ≤ l.length ∧ gN l 4 2 = l.length ∧ vE (sU src dst) 6 l = 0 := by
      unfold dcUDP at h0
      split at h0
      · omega
      · split at h0
        · omega
        · exact ⟨by omega, by omega, h0⟩
    obtain ⟨h8, hk, hv⟩ := hc
    refine (rdudp_late src dst w hr hsr hds h8 (vE_zero hv).1 hk).mono ?_
    rintro e w' (⟨-, v', rfl, ho, hg⟩ | ⟨h4, -⟩)
    · exact ⟨v', rfl, ho, hg⟩
    · omega
  · refine ⟨0, 0, [], dcUDP src dst l, by simp, fun w v hr => ?_, fun w v hr => ?_⟩
    · refine (dudp_err src dst w hr hsr hds hl h0).mono ?_
      rintro e w' ⟨rfl, hg⟩
      exact ⟨_, rfl, OwB.nil _ _, hg⟩
    · have key : Calls Try.prog 53 #[.int .u32 src, .int .u32 dst, v] w (DErr w udpZ0 (dcUDP src dst l)) := by
        by_cases h8 : l.length < 8
        · rw [show dcUDP src dst l = 3 from if_pos h8]; exact rdudp_short src dst w hr h8 hl
        by_cases hf : gN l 4 2 ≠ l.length
        · rw [show dcUDP src dst l = 2 by unfold dcUDP; rw [if_neg h8, if_pos hf]]
          exact rdudp_form src dst w hr (by omega) hf hl
        · have e : dcUDP src dst l = vE (sU src dst) 6 l := by unfold dcUDP; rw [if_neg h8, if_neg hf]
          have h1 : gN l 4 2 = l.length := by omega
          by_cases hm : 1480 < l.length
          · rw [e, vE_long hm]
            exact rdudp_limit src dst w hr (by omega) h1 hm hl
          · have h4 : vE (sU src dst) 6 l = 4 := by rcases vE_cases (sU src dst) 6 l hm with h | h <;> omega
            rw [e, h4]
            refine (rdudp_late src dst w hr hsr hds (by omega) (by omega) h1).mono ?_
            rintro e w' (⟨hz, -⟩ | ⟨-, rfl, hg⟩)
            · omega
            · exact ⟨rfl, hg⟩
      refine key.mono ?_
      rintro e w' ⟨rfl, hg⟩
      exact ⟨_, rfl, OwB.nil _ _, hg⟩
theorem tcp_both (src dst : Nat) (hsr : src < 4294967296) (hds : dst < 4294967296) (l : List Nat) (hl : l.length ≤ 30000) : ∃ (a b c f g h : Nat) (d : List Nat) (E : Nat), d.length ≤ 30000 ∧ (∀ w v, Rb (fun _ => True) w v l → Calls Try.prog 24 #[.int .u32 src, .int .u32 dst, v] w (tcpD w a b c f g h d E)) ∧ (∀ w v, Rb (fun _ => True) w v l → Calls Try.prog 54 #[.int .u32 src, .int .u32 dst, v] w (tcpD w a b c f g h d E)) := by
  by_cases h0 : dcTCP src dst l = 0
  · refine ⟨gN l 0 2, gN l 2 2, gN l 4 4, gN l 8 4, gN l 13 1, gN l 14 2, l.drop 20, 0, by rw [List.length_drop]; omega, fun w v hr => dtcp_ok src dst w hr hsr hds hl h0, fun w v hr => ?_⟩
    have hc : 20 ≤ l.length ∧ gN l 12 1 = 80 ∧ gN l 18 2 = 0 ∧ vE (sP src dst 6) 16 l = 0 := by
      unfold dcTCP at h0
      split at h0
      · omega
      · split at h0
        · omega
        · exact ⟨by omega, by omega, by omega, h0⟩
    obtain ⟨h8, hk, h18, hv⟩ := hc
    have h2 : gN l 18 2 = gN l 18 1 * 256 + gN l 19 1 := gN_twoK (by omega)
    refine (rdtcp_late src dst w hr hsr hds h8 (vE_zero hv).1 hk (by omega) (by omega) h18).mono ?_
    rintro e w' (⟨-, v', rfl, ho, hg⟩ | ⟨h4, -⟩)
    · exact ⟨v', rfl, ho, hg⟩
    · omega
  · refine ⟨0, 0, 0, 0, 0, 0, [], dcTCP src dst l, by simp, fun w v hr => ?_, fun w v hr => ?_⟩
    · refine (dtcp_err src dst w hr hsr hds hl h0).mono ?_
      rintro e w' ⟨rfl, hg⟩
      exact ⟨_, rfl, OwB.nil _ _, hg⟩
    · have key : Calls Try.prog 54 #[.int .u32 src, .int .u32 dst, v] w (DErr w tcpZ0 (dcTCP src dst l)) := by
        by_cases h8 : l.length < 20
        · rw [show dcTCP src dst l = 3 from if_pos h8]; exact rdtcp_short src dst w hr h8 hl
        have h2 : gN l 18 2 = gN l 18 1 * 256 + gN l 19 1 := gN_twoK (by omega)
        by_cases hf : gN l 12 1 ≠ 80 ∨ gN l 18 2 ≠ 0
        · rw [show dcTCP src dst l = 2 by unfold dcTCP; rw [if_neg h8, if_pos hf]]
          by_cases ha : gN l 12 1 = 80
          · by_cases hb : gN l 18 1 = 0
            · exact rdtcp_form19 src dst w hr (by omega) ha hb (by omega) hl
            · exact rdtcp_form18 src dst w hr (by omega) ha hb hl
          · exact rdtcp_form12 src dst w hr (by omega) ha hl
        · have e : dcTCP src dst l = vE (sP src dst 6) 16 l := by unfold dcTCP; rw [if_neg h8, if_neg hf]
          have h1 : gN l 12 1 = 80 := by omega
          have h18 : gN l 18 2 = 0 := by omega
          by_cases hm : 1480 < l.length
          · rw [e, vE_long hm]
            exact rdtcp_limit src dst w hr (by omega) h1 (by omega) (by omega) hm hl
          · have h4 : vE (sP src dst 6) 16 l = 4 := by rcases vE_cases (sP src dst 6) 16 l hm with h | h <;> omega
            rw [e, h4]
            refine (rdtcp_late src dst w hr hsr hds (by omega) (by omega) h1 (by omega) (by omega) h18).mono ?_
            rintro e w' (⟨hz, -⟩ | ⟨-, rfl, hg⟩)
            · omega
            · exact ⟨rfl, hg⟩
      refine key.mono ?_
      rintro e w' ⟨rfl, hg⟩
      exact ⟨_, rfl, OwB.nil _ _, hg⟩
end Go.Proofs.Ytlkhdbgknkjioaa
