/- scale. -/
import Derived.Test.YtikkobmccagdlaaGreatDoorNcl
import Derived.WalkKit
import Derived.WalkSpells
import Derived.WalkLawsBesides
import Derived.WalkSmall
import Derived.Handy
import Derived.BigQuiet
import Derived.Deep.QuietTactic
import Derived.Deep.RegionHeld3
import Derived.Deep.DeepFit
import Derived.Below
import Derived.Lib.Hide
import Derived.Lib.QuietBelow
import Derived.Deep.DeepCutAuto
namespace Go.Proofs.YtikkobmccagdlaaGreatDoor
open Go Go.RowKit Go.Sort
set_option maxRecDepth 100000
set_option linter.unusedVariables false

/-- a number in a block of the call's own, that can be written -/
def NumW (w : World) (base : Nat) (v : Value) (N : Nat) : Prop := ∃ g cap : Nat, v = .slice (some ⟨g, 0, none⟩) (nd N).length cap ∧ base ≤ g ∧ (nd N).length ≤ cap ∧ cap ≤ 9223372036854775807 ∧ Arr w g 0 (nd N)
theorem NumW.num {w : World} {base : Nat} {v : Value} {N : Nat} (h : NumW w base v N) : Num w v N := by
  obtain ⟨g, cap, rfl, -, hc, hm, ha⟩ := h
  exact ha.rd hc hm trivial
theorem NumW.rd {w : World} {base : Nat} {v : Value} {N : Nat} (h : NumW w base v N) : Rd (fun b => base ≤ b) w v (nd N) := by
  obtain ⟨g, cap, rfl, hb, hc, hm, ha⟩ := h
  exact ha.rd hc hm hb
theorem NumW.gr {w w' : World} {base : Nat} {v : Value} {N : Nat} (h : NumW w base v N) (g : Gr w w') : NumW w' base v N := by
  obtain ⟨k, cap, rfl, hb, hc, hm, ha⟩ := h
  exact ⟨k, cap, rfl, hb, hc, hm, ha.gr g⟩
def ScPost (w : World) (N : Nat) (e : Ending) (w' : World) : Prop := ∃ v, e = .returned v ∧ NumW w' w.heap.size v N ∧ Gr w w'
def ScRel (w : World) (l : List Nat) (f c0 : Nat) (s cv v : Value) (wr : World) : Prop :=
  ∃ (k c : Nat) (o : List Nat), s = .int .i64 k ∧ k ≤ l.length ∧ cv = .int .i64 c ∧ c < 1073741824 ∧ o.length = k ∧ Lim o ∧ nv o + c * 1073741824 ^ k = c0 + f * nv (l.take k) ∧ Own wr w.heap.size v o ∧ v ≠ .slice none 0 0 ∧ Gr w wr
set_option maxHeartbeats 1000000 in
theorem scale_any {p : Nat → Prop} (v : Value) (l : List Nat) (f c0 : Nat) (w : World) (h : Rd p w v l) (hL : Lim l) (hl : l.length ≤ 100000) (hf : f < 1073741824) (hc : c0 < 1073741824) :
    Calls Tryz.prog 90 #[v, .int .i64 f, .int .i64 c0] w (ScPost w (c0 + f * nv l)) := by
  obtain ⟨a, cap, rfl, hcap, hcap2, H⟩ := h
  have HH := Lib.hid H
  have HL := Lib.hid hL
  clear H hL
  obtain ⟨ti, hi1, hi2, hi3, hi4⟩ := intInfo
  go_enter Tryz.func90, Tryz.ntmps90
  go_wp2_with (refine wpList_make_own _ rfl _ _ 24 rfl w.heap.size 3 ti (.int .i64 0) 1 Tryz.underlying24 hi1 hi2 hi3 .i64 .i64 _ (l.length + 1) rfl rfl (by simp) (by rw [hi4]; omega) (by unfold maxLen; omega) (Nat.le_refl _) ?_; intro w1 hown1 hgrow1)
  have hG1 : Gr w w1 := Gr.grown (Gr.refl _) hgrow1 (fun k hk => by cases hk)
  have HO : Own w1 w.heap.size (.slice (some ⟨w.heap.size, 0, none⟩) 0 (l.length + 1)) [] := hown1
  have HO := Lib.hid HO
  clear hown1 hgrow1
  go_wp2_with fail
  go_loopw [15, 2, 7] (fun s cv v wr => ScRel w l f c0 s cv v wr) (fun s _ _ _ => l.length - (intOf s).toNat)
  case atStart => exact ⟨0, c0, [], rfl, Nat.zero_le _, rfl, hc, rfl, lim_nil, by simp [nv], HO.out, (fun h => by cases h), hG1⟩
  case round =>
    obtain ⟨k, c, o, rfl, hk, rfl, hc1, ho, hoL, hv, hown, hne, hgr⟩ := hrel
    have HV := Lib.hid hv
    have HO2 := Lib.hid ho
    have HNE := Lib.hid hne
    clear hv ho hne
    have hown0 := hown
    unfold Own at hown
    have kz : o.length ≤ 100000 := by rw [HO2.out]; omega
    by_cases hlt : k < l.length
    · obtain ⟨b, off, rfl, -, hcell⟩ := HH.out k hlt
      have hcell2 : wr.cell? ⟨b, off + k, none⟩ = some (.int .i64 (l.getD k 0 : Nat)) := by rw [(Gr.cells hgr).1 _ _ (World.block_lt_of_cell? _ _ hcell)]; exact hcell
      have hx := lim_getD HL.out k
      obtain ⟨b1, b2⟩ := scale_bound hc1 hf hx
      have HS := Lib.hid (scale_step (x := l.getD k 0) HV.out)
      have HT := Lib.hid (take_split' l k)
      generalize l.getD k 0 = x at *
      clear hcell
      obtain ⟨z, hz⟩ : ∃ z : Nat, z = f * x := ⟨_, rfl⟩
      rw [← hz] at b1 b2
      have m1 : IntKind.i64.wrap ((f : Int) * (x : Int)) = (z : Int) := by
        rw [hz, Int.natCast_mul]; refine IntWalk.i64_in _ ?_
        rw [show (f : Int) * (x : Int) = ((f * x : Nat) : Int) by simp, ← hz]; omega
      have z1 : (z : Int) ≤ 1152921502459363329 := by omega
      have c1 : (c : Int) < 1073741824 := by omega
      have HZ := Lib.hid hz
      obtain ⟨d, hd⟩ : ∃ d : Nat, d = (c + z) % 1073741824 := ⟨_, rfl⟩
      have ha : bits .and .i64 ((c : Int) + (z : Int)) 1073741823 = (d : Int) := by rw [and30]; omega
      have HD := Lib.hid hd
      clear hz hd
      go_wp2_with (at_builtin; refine wpList_append_own_at _ rfl _ _ 24 rfl w.heap.size 3 ti (.int .i64 0) 1 8 Tryz.underlying24 hi1 hi2 hi3 hi4 rfl (by decide) _ _ _ rfl (hown.alloc _) ⟨wr.heap.size, 0, none⟩ 1 1 [.int .i64 d] rfl rfl (cell_one_new _ _ _) (by simp [Value.oneCell']) (by unfold maxLen; omega) (by omega) (by have := Gr.size hgr; simp; omega) ?_; intro v' w2 hown2 hgrow hnil hloc)
      refine ⟨⟨k + 1, (c + z) / 1073741824, o ++ [d], by go_num, by omega, by first | rfl | (congr 1), by omega, by simp [HO2.out], lim_append.2 ⟨hoL, lim_cons.2 ⟨by rw [HD.out]; omega, lim_nil⟩⟩, ?_, ?_, (fun h => by have := (hnil.1 h).2; omega), ?_⟩, by simp only [intOf]; omega⟩
      · have hs := HS.out
        rw [← HZ.out, ← HD.out] at hs
        rw [nv_append, HO2.out, HT.out, bp_succ]
        simpa [nv] using hs
      · unfold Own
        rw [List.length_append, List.map_append]
        exact hown2
      · exact Gr.grown (by repeat' (first | (with_reducible exact Gr.refl _) | (with_reducible assumption) | (with_reducible refine Gr.drewN ?_ _) | (with_reducible refine Gr.drew ?_) | (with_reducible refine Gr.alloc ?_ _) | (with_reducible refine Gr.setCell ?_ ?_ _) | (with_reducible refine Gr.grow ?_ _ _) | (refine Gr.step ?_ (by with_reducible assumption)) | go_size)) hgrow (fun k hk => (hown.lt k hk).1)
    · obtain rfl : k = l.length := by omega
      have hN : nv o + 1073741824 ^ l.length * c = c0 + f * nv l := by
        have := HV.out
        rw [List.take_of_length_le (Nat.le_refl _), Nat.mul_comm c] at this; exact this
      have HN := Lib.hid hN
      clear hN
      go_wp2_with (at_builtin; refine wpList_append_own_at _ rfl _ _ 24 rfl w.heap.size 3 ti (.int .i64 0) 1 8 Tryz.underlying24 hi1 hi2 hi3 hi4 rfl (by decide) _ _ _ rfl (hown.alloc _) ⟨wr.heap.size, 0, none⟩ 1 1 [.int .i64 c] rfl rfl (cell_one_new _ _ _) (by simp [Value.oneCell']) (by unfold maxLen; omega) (by omega) (by have := Gr.size hgr; simp; omega) ?_; intro v' w2 hown2 hgrow hnil hloc)
      have hG2 : Gr w w2 := Gr.grown (by repeat' (first | (with_reducible exact Gr.refl _) | (with_reducible assumption) | (with_reducible refine Gr.drewN ?_ _) | (with_reducible refine Gr.drew ?_) | (with_reducible refine Gr.alloc ?_ _) | (with_reducible refine Gr.setCell ?_ ?_ _) | (with_reducible refine Gr.grow ?_ _ _) | (refine Gr.step ?_ (by with_reducible assumption)) | go_size)) hgrow (fun k hk => (hown.lt k hk).1)
      have hown3 : Own w2 w.heap.size v' (o ++ [c]) := by
        unfold Own
        rw [List.length_append, List.map_append]
        exact hown2
      have hLn : Lim (o ++ [c]) := lim_append.2 ⟨hoL, lim_cons.2 ⟨hc1, lim_nil⟩⟩
      have hnv : nv (o ++ [c]) = c0 + f * nv l := by rw [nv_append, HO2.out, ← HN.out]; simp [nv]
      clear hown2 hgrow hnil hloc
      rcases hown3.is with ⟨rfl, hz⟩ | ⟨g, cap', rfl, hb, hcap3, hcap4, harr, -⟩
      · simp at hz
      · have HT := Lib.hid (trim_at w2 (harr.rd (p := fun _ => True) hcap3 hcap4 trivial) hLn)
        have hle := nd_nv_le hLn
        have htk := nd_take hLn
        have harr2 := harr.take (nd (nv (o ++ [c]))).length
        rw [← htk] at harr2
        rw [hnv] at harr2 hle
        have HA := Lib.hid harr2
        have HE := Lib.hid hnv
        clear harr harr2 htk hnv hown3
        refine HT.out.mono ?_
        rintro e w' ⟨rfl, rfl⟩
        rw [HE.out]
        go_wp2_with fail
        go_ret
        exact ⟨_, rfl, ⟨g, cap', rfl, hb, by omega, hcap4, HA.out⟩, hG2⟩
end Go.Proofs.YtikkobmccagdlaaGreatDoor
