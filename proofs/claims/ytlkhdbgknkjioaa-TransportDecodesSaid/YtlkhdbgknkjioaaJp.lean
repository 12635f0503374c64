/- The document's Push, At; Check of headers. -/
import Derived.Test.YtlkhdbgknkjioaaWz
import Derived.Test.YtlkhdbgknkjioaaIc
import Derived.Test.YtlkhdbgknkjioaaIm
import Derived.WalkKit
import Derived.WalkSpells
import Derived.WalkLawsBesides
import Derived.WalkSmall
import Derived.Handy
import Derived.BigQuiet
import Derived.Deep.QuietTactic
import Derived.Deep.RegionHeld3
import Derived.Deep.DeepFit
import Derived.Below
import Derived.Lib.Hide
import Derived.Lib.QuietBelow
namespace Go.Proofs.Ytlkhdbgknkjioaa
open Go Go.RowKit Go.Sort
set_option maxRecDepth 100000
set_option linter.unusedVariables false
theorem rpush_any {p : Nat → Prop} {v : Value} {l : List Nat} (n k : Nat) (w : World) (h : Rb p w v l) (hl : l.length ≤ 90000) (hk0 : 1 ≤ k) (hk1 : k ≤ 7) (hn : n < 256 ^ k) :
    Calls Try.prog 81 #[v, .int .i64 n, .int .i64 k] w fun e w' => ∃ v', e = .returned v' ∧ OwB w.heap.size w' v' (l ++ bput n k) ∧ Gr w w' := by
  have HP := Lib.hid (rput_own n k w h hl hk0 hk1 hn)
  obtain ⟨a, cap, rfl, -, -⟩ := h.form
  clear h hn
  go_enter Try.func81, Try.ntmps81
  go_wp2_with fail
  refine HP.out.mono ?_
  rintro e w1 ⟨v1, rfl, ho, hg⟩
  go_wp2_with fail
  go_ret
  exact ⟨_, rfl, ho, hg⟩
theorem rat_any {p : Nat → Prop} {v : Value} {l : List Nat} (i k : Nat) (w : World) (h : Rb p w v l) (hk0 : 1 ≤ k) (hk1 : k ≤ 7) (hik : i + k ≤ l.length) (hl : l.length ≤ 100000) :
    Calls Try.prog 76 #[v, .int .i64 i, .int .i64 k] w fun e w' => e = .returned (.int .i64 (gN l i k : Nat)) ∧ w = w' := by
  have HP := Lib.hid (rget_yes i k w h hk0 hk1 hik hl)
  obtain ⟨a, cap, rfl, -, -⟩ := h.form
  clear h hik
  unfold gN
  go_enter Try.func76, Try.ntmps76
  go_wp2_with fail
  refine HP.out.mono ?_
  rintro e w1 ⟨rfl, rfl⟩
  go_wp2_with fail
  go_ret
  exact ⟨rfl, rfl⟩
set_option maxHeartbeats 4000000 in
theorem rcheck_any (tos id ttl proto : Int) (keep : Bool) (src dst : Int) (w : World) :
    Calls Try.prog 98 #[hdV tos id ttl proto keep src dst] w fun e w' => e = .returned (.int .i64 (ckE tos id ttl proto)) ∧ Gr w w' := by
  by_cases a1 : tos < 0
  · have d1 : decide (tos < 0) = true := by simpa using a1
    have H := Lib.hid (ckE_no (a := tos) (b := id) (c := ttl) (d := proto) (fun h => by have h1 := h.1; have h2 := h.2.1; have h3 := h.2.2.1; have h4 := h.2.2.2; unfold inB at h1 h2 h3; omega))
    clear a1
    unfold hdV
    go_enter Try.func98, Try.ntmps98
    go_wp2_with fail
    go_ret
    exact ⟨ret_int H.out.symm, Gr.alloc (Gr.refl _) _⟩
  have d1 : decide (tos < 0) = false := by simpa using a1
  by_cases a2 : 255 < tos
  · have d2 : decide (255 < tos) = true := by simpa using a2
    have H := Lib.hid (ckE_no (a := tos) (b := id) (c := ttl) (d := proto) (fun h => by have h1 := h.1; have h2 := h.2.1; have h3 := h.2.2.1; have h4 := h.2.2.2; unfold inB at h1 h2 h3; omega))
    clear a1 a2
    unfold hdV
    go_enter Try.func98, Try.ntmps98
    go_wp2_with fail
    go_ret
    exact ⟨ret_int H.out.symm, Gr.alloc (Gr.refl _) _⟩
  have d2 : decide (255 < tos) = false := by simpa using a2
  by_cases a3 : ttl < 0
  · have d3 : decide (ttl < 0) = true := by simpa using a3
    have H := Lib.hid (ckE_no (a := tos) (b := id) (c := ttl) (d := proto) (fun h => by have h1 := h.1; have h2 := h.2.1; have h3 := h.2.2.1; have h4 := h.2.2.2; unfold inB at h1 h2 h3; omega))
    clear a1 a2 a3
    unfold hdV
    go_enter Try.func98, Try.ntmps98
    go_wp2_with fail
    go_ret
    exact ⟨ret_int H.out.symm, Gr.alloc (Gr.refl _) _⟩
  have d3 : decide (ttl < 0) = false := by simpa using a3
  by_cases a4 : 255 < ttl
  · have d4 : decide (255 < ttl) = true := by simpa using a4
    have H := Lib.hid (ckE_no (a := tos) (b := id) (c := ttl) (d := proto) (fun h => by have h1 := h.1; have h2 := h.2.1; have h3 := h.2.2.1; have h4 := h.2.2.2; unfold inB at h1 h2 h3; omega))
    clear a1 a2 a3 a4
    unfold hdV
    go_enter Try.func98, Try.ntmps98
    go_wp2_with fail
    go_ret
    exact ⟨ret_int H.out.symm, Gr.alloc (Gr.refl _) _⟩
  have d4 : decide (255 < ttl) = false := by simpa using a4
  by_cases a5 : proto < 0
  · have d5 : decide (proto < 0) = true := by simpa using a5
    have H := Lib.hid (ckE_no (a := tos) (b := id) (c := ttl) (d := proto) (fun h => by have h1 := h.1; have h2 := h.2.1; have h3 := h.2.2.1; have h4 := h.2.2.2; unfold inB at h1 h2 h3; omega))
    clear a1 a2 a3 a4 a5
    unfold hdV
    go_enter Try.func98, Try.ntmps98
    go_wp2_with fail
    go_ret
    exact ⟨ret_int H.out.symm, Gr.alloc (Gr.refl _) _⟩
  have d5 : decide (proto < 0) = false := by simpa using a5
  by_cases a6 : 255 < proto
  · have d6 : decide (255 < proto) = true := by simpa using a6
    have H := Lib.hid (ckE_no (a := tos) (b := id) (c := ttl) (d := proto) (fun h => by have h1 := h.1; have h2 := h.2.1; have h3 := h.2.2.1; have h4 := h.2.2.2; unfold inB at h1 h2 h3; omega))
    clear a1 a2 a3 a4 a5 a6
    unfold hdV
    go_enter Try.func98, Try.ntmps98
    go_wp2_with fail
    go_ret
    exact ⟨ret_int H.out.symm, Gr.alloc (Gr.refl _) _⟩
  have d6 : decide (255 < proto) = false := by simpa using a6
  by_cases a7 : id < 0
  · have d7 : decide (id < 0) = true := by simpa using a7
    have H := Lib.hid (ckE_no (a := tos) (b := id) (c := ttl) (d := proto) (fun h => by have h1 := h.1; have h2 := h.2.1; have h3 := h.2.2.1; have h4 := h.2.2.2; unfold inB at h1 h2 h3; omega))
    clear a1 a2 a3 a4 a5 a6 a7
    unfold hdV
    go_enter Try.func98, Try.ntmps98
    go_wp2_with fail
    go_ret
    exact ⟨ret_int H.out.symm, Gr.alloc (Gr.refl _) _⟩
  have d7 : decide (id < 0) = false := by simpa using a7
  by_cases a8 : 65535 < id
  · have d8 : decide (65535 < id) = true := by simpa using a8
    have H := Lib.hid (ckE_no (a := tos) (b := id) (c := ttl) (d := proto) (fun h => by have h1 := h.1; have h2 := h.2.1; have h3 := h.2.2.1; have h4 := h.2.2.2; unfold inB at h1 h2 h3; omega))
    clear a1 a2 a3 a4 a5 a6 a7 a8
    unfold hdV
    go_enter Try.func98, Try.ntmps98
    go_wp2_with fail
    go_ret
    exact ⟨ret_int H.out.symm, Gr.alloc (Gr.refl _) _⟩
  have d8 : decide (65535 < id) = false := by simpa using a8
  have H := Lib.hid (ckE_yes (a := tos) (b := id) (c := ttl) (d := proto) ⟨⟨by omega, by omega⟩, ⟨by omega, by omega⟩, ⟨by omega, by omega⟩, by omega, by omega⟩)
  clear a1 a2 a3 a4 a5 a6 a7 a8
  unfold hdV
  go_enter Try.func98, Try.ntmps98
  go_wp2_with fail
  go_ret
  exact ⟨ret_int H.out.symm, Gr.alloc (Gr.refl _) _⟩
end Go.Proofs.Ytlkhdbgknkjioaa
