/- From of two ints; the sanity check. -/
import Derived.Test.YtoaboflepfmkpaaDoorFf
import Derived.Test.YtoaboflepfmkpaaDoorFt
import Derived.WalkKit
import Derived.WalkSpells
import Derived.WalkLawsBesides
import Derived.WalkSmall
import Derived.Handy
import Derived.BigQuiet
import Derived.Deep.QuietTactic
import Derived.Deep.RegionHeld3
import Derived.Deep.DeepFit
import Derived.Below
import Derived.Lib.Hide
import Derived.Lib.QuietBelow
namespace Go.Proofs.YtoaboflepfmkpaaDoor
open Go Go.RowKit Go.Sort
set_option maxRecDepth 100000
set_option maxHeartbeats 1000000 in
theorem ffrom_any (n d : Int) (w : World) (n0 : -9223372036854775808 ≤ n) (n1 : n ≤ 9223372036854775807) (d0 : -9223372036854775808 ≤ d) (d1 : d ≤ 9223372036854775807) (hd : d ≠ 0) :
    Calls Tryd.prog 24 #[.int .i64 n, .int .i64 d] w (FRes w (quot n d)) := by
  unfold quot
  rw [bne_bool]
  have dz : (d == 0) = false := by rw [beq_eq_false_iff_ne]; exact hd
  have lN : (nd n.natAbs).length ≤ 256 := by have := (nd_len n.natAbs 3).2 (by omega); omega
  have lD : (nd d.natAbs).length ≤ 256 := by have := (nd_len d.natAbs 3).2 (by omega); omega
  have hD : 0 < d.natAbs := by omega
  have HD := Lib.hid hD
  clear hD hd
  have hR0 := C3.new w (.bool false) (.slice none 0 0) (.slice none 0 0) 27 w.heap.size rfl
  have hG0 : Gr w (w.alloc (.cells #[.bool false, .slice none 0 0, .slice none 0 0] 27)) := Gr.alloc (Gr.refl _) _
  go_enter Tryd.func24, Tryd.ntmps24
  go_wp2_with fail
  generalize w.alloc (.cells #[.bool false, .slice none 0 0, .slice none 0 0] 27) = W0 at *
  refine (magnitude_any n _ n0 n1).mono ?_
  rintro e w1 ⟨v, rfl, hv, hg⟩
  have hR := hR0.gr hg
  have hG := hG0.step hg
  clear hR0 hG0 hg
  go_wp2_with fail
  refine (magnitude_any d _ d0 d1).mono ?_
  rintro e w2 ⟨u, rfl, hu, hg⟩
  replace hv := hv.gr hg
  replace hR := hR.gr hg
  replace hG := hG.step hg
  clear hg
  go_wp2_with fail
  refine (lowest_any _ _ _ _ hv hu HD.out lN lD).mono ?_
  intro e w3 hres
  obtain ⟨b, a1, a2, n1, n2, c1, c2, er, rfl, hres, hg⟩ := hres.form
  have HRES := Lib.hid hres
  replace hR := hR.gr hg
  replace hG := hG.step hg
  have hfl := hR.fill b a1 a2 n1 n2 c1 c2
  obtain ⟨sc0, sc1, sc2, -, -, -, -, -⟩ := hfl.1
  obtain ⟨rc0, rc1, rc2, rf0, rf1, rf2, rlt, -⟩ := id hR
  clear hres hg
  go_wp2_with fail
  refine bodyPost_ret (v := .tuple #[.agg #[.bool b, .slice a1 n1 c1, .slice a2 n2 c2], .int .i64 er]) (by simp [results, Tryd.results24, go_sem, sc0, sc1, sc2]) rfl ?_
  exact ⟨_, er, rfl, HRES.out.imp (fun h => ⟨h.1, h.2.1, hR.red b a1 a2 n1 n2 c1 c2 h.2.2⟩) id, C3.three hG (by omega) _ _ _⟩
theorem quot_64 : (quot (-6) (-4)).num = 3 ∧ (quot (-6) (-4)).den = 2 := by decide +kernel
theorem ftext_32 : ftext (quot (-6) (-4)) = [51, 47, 50] := by
  unfold ftext
  rw [quot_64.1, quot_64.2, dd_one (by omega), dd_one (by omega)]
  rfl
theorem bd_64 : Bd 64 (quot (-6) (-4)) := by
  unfold Bd
  rw [quot_64.1, quot_64.2]
  rw [nd_one (by omega) (by omega), nd_one (by omega) (by omega)]
  simp
set_option maxHeartbeats 1000000 in
theorem fawake_any (w : World) (ht : Tab w) : Calls Tryd.prog 5 #[] w fun e w' => e = .returned (.bool true) ∧ Gr w w' := by
  go_enter Tryd.func5, Tryd.ntmps5
  go_wp2_with fail
  refine (ffrom_any (-6) (-4) w (by omega) (by omega) (by omega) (by omega) (by omega)).mono ?_
  intro e w1 hres
  obtain ⟨b, a1, a2, n1, n2, c1, c2, er, rfl, hres, hg⟩ := hres.form
  obtain ⟨-, rfl, hred⟩ := hres.resolve_right (fun h => h.1 bd_64)
  have HF := Lib.hid ((hred.gr (Gr.alloc (Gr.refl w1) (.cells #[.bool b, .slice a1 n1 c1, .slice a2 n2 c2] 27))).fra bd_64)
  have hG := hg.alloc (.cells #[.bool b, .slice a1 n1 c1, .slice a2 n2 c2] 27)
  have HTX := Lib.hid (ftext_any _ _ HF.out (ht.gr hG))
  clear hres hred hg ht
  go_wp2_with fail
  refine HTX.out.mono ?_
  rintro e w2 ⟨rfl, hg⟩
  rw [ftext_32]
  go_wp2_with fail
  go_ret
  exact ⟨ret_bool (by rw [Lib.toList_data, str_data]; rfl), hG.step hg⟩
end Go.Proofs.YtoaboflepfmkpaaDoor
