/- Clone. -/
import Derived.Test.YtikkobmccagdlaaGreatDoorNo
import Derived.WalkKit
import Derived.WalkSpells
import Derived.WalkLawsBesides
import Derived.WalkSmall
import Derived.Handy
import Derived.BigQuiet
import Derived.Deep.QuietTactic
import Derived.Deep.RegionHeld3
import Derived.Deep.DeepFit
import Derived.Below
import Derived.Lib.Hide
import Derived.Lib.QuietBelow
import Derived.Deep.DeepCutAuto
namespace Go.Proofs.YtikkobmccagdlaaGreatDoor
open Go Go.RowKit Go.Sort
set_option maxRecDepth 100000
set_option linter.unusedVariables false
theorem nd_mono {A B : Nat} (h : A ≤ B) : (nd A).length ≤ (nd B).length := (nd_len A _).2 (Nat.lt_of_le_of_lt h (nd_hi B))
theorem clone_any {p : Nat → Prop} (v : Value) (l : List Nat) (w : World) (h : Rd p w v l) (hl : l.length ≤ 1000000) :
    Calls Tryz.prog 71 #[v] w fun e w' => ∃ v', e = .returned v' ∧ Own w' w.heap.size v' l ∧ Gr w w' := by
  obtain ⟨a, cap, rfl, hcap, hcap2, H⟩ := h
  have HH := Lib.hid H
  clear H
  obtain ⟨ti, hi1, hi2, hi3, hi4⟩ := intInfo
  have hnil := fun (w : World) (a : Option Addr) (n c : Nat) => Lib.run_eql_slice_nil (P := Tryz.prog) w 24 3 a n c 0 0 Tryz.underlying24
  cases a with
  | none =>
    obtain rfl : l = [] := by
      apply Decidable.byContradiction; intro hc
      have h0 : 0 < l.length := List.length_pos_iff.2 hc
      obtain ⟨b, off, e, -⟩ := HH.out 0 h0
      cases e
    go_enter Tryz.func71, Tryz.ntmps71
    go_wp2
    go_ret
    exact ⟨_, rfl, Own.nil _ _, Gr.refl _⟩
  | some ad =>
    go_enter Tryz.func71, Tryz.ntmps71
    have hown := World.ownsRow_lit (base := w.heap.size) (e := 3) (size := 1) w #[] 0 (Nat.le_refl _) (by unfold maxLen; omega) rfl
    have hnews : ∀ j u, (l.map lv)[j]? = some u → (w.alloc (.cells #[] 3)).cell? (ad.add j) = some u := by
      intro j u hj
      rw [List.getElem?_map] at hj
      by_cases hjl : j < l.length
      · rw [List.getElem?_eq_getElem hjl] at hj
        obtain ⟨b, off, e, -, hc⟩ := HH.out j hjl
        obtain rfl := Option.some.inj e
        rw [show (⟨b, off, none⟩ : Addr).add j = ⟨b, off + j, none⟩ by simp [Addr.add], World.cell?_alloc_lt _ _ _ (World.block_lt_of_cell? _ _ hc), hc, List.getD_eq_getElem?_getD, List.getElem?_eq_getElem hjl]
        simpa [lv] using hj
      · rw [List.getElem?_eq_none (by omega)] at hj; cases hj
    have HW := Lib.hid hnews
    clear hnews
    go_wp2_with (at_builtin; refine wpList_append_own_at _ rfl _ _ 24 rfl w.heap.size 3 ti (.int .i64 0) 1 8 Tryz.underlying24 hi1 hi2 hi3 hi4 rfl (by decide) _ _ _ rfl hown ad l.length cap (l.map lv) rfl (by simp) HW.out (by intro u hu; rw [List.mem_map] at hu; obtain ⟨n, -, rfl⟩ := hu; rfl) (by unfold maxLen; omega) (by omega) (by simp) ?_; intro v' w2 hown2 hgrow hnil hloc)
    go_ret
    refine ⟨_, rfl, ?_, ?_⟩
    · unfold Own
      rw [Nat.zero_add] at hown2
      exact hown2
    · exact Gr.grown ((Gr.refl _).alloc _) hgrow (fun k hk => (hown.lt k hk).1)
end Go.Proofs.YtikkobmccagdlaaGreatDoor
