/- The walk of the statement on updated checksums. -/
import Derived.Test.YtikkobmccagdlaaWk
import Derived.Test.YtikkobmccagdlaaWg
import Derived.WalkKit
import Derived.WalkSpells
import Derived.WalkLawsBesides
import Derived.WalkSmall
import Derived.Handy
import Derived.BigQuiet
import Derived.Deep.QuietTactic
import Derived.Deep.RegionHeld3
import Derived.Deep.DeepFit
import Derived.Below
import Derived.Lib.Hide
import Derived.Lib.QuietBelow
namespace Go.Proofs.Ytikkobmccagdlaa
open Go Go.RowKit Go.Sort
set_option maxRecDepth 100000
set_option linter.unusedVariables false
theorem upd_same {lb lx : List Nat} {now k i : Nat} (hk : k + 1 < lb.length) (he : k % 2 = 0) (hb : ∀ x ∈ lb, x < 256) (hn : now < 65536) (hx : lx = (lb.set k (now / 256)).set (k + 1) (now % 256)) (hi : lx.getD i 0 ≠ 0) :
    upR (65535 - (oc (wsum false lb) : Nat)) ((256 * lb.getD k 0 + lb.getD (k + 1) 0 : Nat)) now = 65535 - (oc (wsum false lx) : Nat) := by
  have h1 := wsum_pair hk he (now / 256) (now % 256)
  rw [← hx] at h1
  have h2 := getD_lt hb k
  have h3 := getD_lt hb (k + 1)
  have h4 := oc_le (wsum false lb)
  have h5 := update_oc (W := wsum false lb) (old := 256 * lb.getD k 0 + lb.getD (k + 1) 0) (now := now) (X := wsum false lx) (by omega) (wsum_pos hi) (by omega)
  rw [upR_yes (by omega) (by omega) (by omega), ← h5]
  congr 3
  omega
theorem two_bytes {l : List Nat} {k : Nat} (h : k + 1 < l.length) : bnum ((l.drop k).take 2) = 256 * l.getD k 0 + l.getD (k + 1) 0 := by
  have e : l.drop k = l[k] :: l[k + 1] :: l.drop (k + 2) := by rw [List.drop_eq_getElem_cons (i := k) (by omega), List.drop_eq_getElem_cons (i := k + 1) (by omega)]
  have h1 : l.getD k 0 = l[k] := by rw [List.getD_eq_getElem?_getD, List.getElem?_eq_getElem (show k < l.length by omega)]; rfl
  have h2 : l.getD (k + 1) 0 = l[k + 1] := by rw [List.getD_eq_getElem?_getD, List.getElem?_eq_getElem h]; rfl
  rw [e, h1, h2]
  unfold bnum
  simp only [List.take_succ_cons, List.take_zero, List.foldl_cons, List.foldl_nil]
  omega
theorem owb_lit (w : World) (l : List Nat) (cs : Array Value) (hc : cs.toList = cellsB l) (hl : l.length ≤ 1000) (hx : ∀ x ∈ l, x < 256) : OwB w.heap.size (w.alloc (.cells cs 5)) (.slice (some ⟨w.heap.size, 0, none⟩) l.length l.length) l := by
  have h := World.ownsRow_lit (base := w.heap.size) (e := 5) (size := 1) w cs l.length (Nat.le_refl _) (by unfold maxLen; omega) (by rw [← Array.length_toList, hc, cellsB_len]; omega)
  rw [hc] at h
  exact ⟨h, hx⟩
set_option maxHeartbeats 2000000 in
theorem update_walk {p : Nat → Prop} (v : Value) (l : List Nat) (at' now : Nat) (w : World) (h : Rb p w v l) (ha : at' < 65536) (hn : now < 65536) :
    Calls Try.prog 5 #[v, .int .u16 at', .int .u16 now] w fun e w' => e = .returned (.bool true) ∧ Gr w w' := by
  obtain ⟨a, cap, rfl, hcap, hmx⟩ := h.form
  by_cases h1 : 3000 < l.length
  · have d1 : decide ((3000 : Int) < (l.length : Int)) = true := by rw [decide_eq_true_eq]; omega
    clear h
    go_enter Try.func5, Try.ntmps5
    go_wp2_with fail
    refine (wawake_any _).mono ?_
    rintro e w1 ⟨rfl, hg⟩
    go_wp2_with fail
    go_ret
    exact ⟨rfl, hg⟩
  have d1 : decide ((3000 : Int) < (l.length : Int)) = false := by rw [decide_eq_false_iff_not]; omega
  have HT := Lib.hid (h.take (k := l.length / 2 * 2) (by omega))
  have hlt : (l.take (l.length / 2 * 2)).length = l.length / 2 * 2 := by rw [List.length_take]; omega
  clear h
  generalize l.take (l.length / 2 * 2) = m at *
  obtain ⟨j, hj⟩ : ∃ j, j = l.length / 2 := ⟨_, rfl⟩
  rw [← hj] at HT hlt
  have e1 : (l.length : Int) / 2 * 2 = ((j * 2 : Nat) : Int) := by omega
  have u1 : j * 2 ≤ cap := by omega
  have HM := Lib.hid hlt
  have hj3 : j ≤ 1500 := by omega
  clear hlt hj
  go_enter Try.func5, Try.ntmps5
  go_wp2_with fail
  refine (wawake_any _).mono ?_
  rintro e w1 ⟨rfl, hg⟩
  go_wp2_with (
    at_builtin
    refine wpList_app (base := w1.heap.size) rfl (.tmp 23) (.tmp 29) rfl rfl (owb_lit w1 [69, 0] _ rfl (by decide) (by decide)) rfl ((HT.out.gr hg).gr (Gr.alloc (Gr.refl _) _)) (by have := HM.out; simp; omega) (by simp) ?_
    intro v2 w2 ho2 g2
    have hG2 : Gr w1 w2 := (Gr.alloc (Gr.refl w1) _).grownNew g2 (fun k hk => by cases hk; exact Nat.le_refl _)
    clear g2
    have hlb : ([69, 0] ++ m).length = 2 * (j + 1) := by have := HM.out; simp; omega
    generalize [69, 0] ++ m = lb at *
    obtain ⟨g, c2, rfl, hgb, hgl, hc2⟩ := ho2.form (by omega)
    obtain ⟨n, hnn⟩ : ∃ n, n = lb.length := ⟨_, rfl⟩
    rw [← hnn] at hlb hc2
    have HN := Lib.hid hnn
    obtain ⟨q, hq⟩ : ∃ q, q = j + 1 := ⟨_, rfl⟩
    rw [← hq] at hlb
    have q0 : 0 < q := by omega
    have hq2 : q ≤ 1501 := by omega
    obtain ⟨r, hr⟩ : ∃ r, r = at' % q := ⟨_, rfl⟩
    have hrq : r < q := by rw [hr]; exact Nat.mod_lt _ q0
    obtain ⟨k, hk⟩ : ∃ k, k = 2 * r := ⟨_, rfl⟩
    have e2 : (n : Int) / 2 = (q : Int) := by omega
    have e3 : (at' : Int) % (q : Int) = (r : Int) := by rw [hr]; omega
    have e4 : 2 * (r : Int) = (k : Int) := by omega
    have hkn : k + 1 < n := by omega
    have hke := Lib.hid (show k % 2 = 0 by omega)
    have hn3 : n ≤ 3002 := by omega
    have q1 : ¬ ((q : Int) = 0) := by omega
    have q3 : (((q : Int) == 0) = false) := by rw [beq_eq_false_iff_ne]; omega
    have hb2 := ho2.rb
    have hbytes := Lib.hid ho2.2
    rw [← hnn] at hb2 ⊢
    have B2 := Lib.hid hb2
    clear hb2
    replace hg := hg.step hG2
    clear hnn hq hr hk hlb ho2 hG2)
  refine (get_yes k 2 _ B2.out (by omega) (by omega) (by have := HN.out; omega)).mono ?_
  rintro e w3 ⟨rfl, rfl⟩
  have TB := Lib.hid (two_bytes (l := lb) (k := k) (by have := HN.out; omega))
  rw [TB.out]
  clear TB
  obtain ⟨old, hold⟩ : ∃ o, o = 256 * lb.getD k 0 + lb.getD (k + 1) 0 := ⟨_, rfl⟩
  rw [← hold]
  have HO := Lib.hid hold
  clear hold
  go_wp2_with fail
  refine (wchk_any _ B2.out (by have := HN.out; omega)).mono ?_
  rintro e w3 ⟨rfl, rfl⟩
  obtain ⟨sum, hsum⟩ : ∃ o : Int, o = 65535 - (oc (wsum false lb) : Nat) := ⟨_, rfl⟩
  rw [← hsum]
  have HS := Lib.hid hsum
  clear hsum
  have c0 : IntKind.u8.wrap ((now : Int) / 256) = ((now / 256 : Nat) : Int) := by rw [IntWalk.u8_in _ (by omega)]; omega
  have c1 : IntKind.u8.wrap (now : Int) = ((now % 256 : Nat) : Int) := by rw [IntKind.wrap_u8]; omega
  have n256 : now / 256 < 256 := by omega
  have c3 : IntKind.i64.wrap ((k : Int) + 1) = ((k + 1 : Nat) : Int) := by rw [IntWalk.i64_in _ (by omega)]; omega
  go_wp2_with (
    at_builtin
    refine wpList_app (base := w2.heap.size) rfl (.const (.slice none 0 0)) (.tmp 46) rfl rfl (OwB.nil _ _) rfl B2.out (by have := HN.out; simp; omega) (Nat.le_refl _) ?_
    intro v3 w3 ho3 g3
    have hG3 : Gr w2 w3 := Gr.grownNew (Gr.refl _) g3 (fun _ h => by cases h)
    rw [List.nil_append] at ho3
    obtain ⟨gx, cx, rfl, hgx, hgl3, hcx⟩ := ho3.form (by have := HN.out; omega)
    have ho4 := ho3.1
    rw [← HN.out] at ho4 hcx ⊢
    have f0 := ho4.cellAt k (by omega)
    have f1 := ho4.cellAt (k + 1) (by omega)
    have z0 := ho4.frozenAt k
    have z1 := ho4.frozenAt (k + 1)
    rw [cellsB_at lb (by rw [← HN.out]; omega)] at f0 f1
    have O4 := Lib.hid ho4
    have hsz := Gr.size hg
    replace hg := hg.step hG3
    clear ho3 g3 ho4)
  obtain ⟨lx, hlx⟩ : ∃ lx, lx = (lb.set k (now / 256)).set (k + 1) (now % 256) := ⟨_, rfl⟩
  have hlen : lx.length = n := by rw [hlx, List.length_set, List.length_set]; exact HN.out.symm
  have hbx : ∀ x ∈ lx, x < 256 := by
    intro x hx
    rw [hlx] at hx
    rcases List.mem_or_eq_of_mem_set hx with hx | rfl
    · rcases List.mem_or_eq_of_mem_set hx with hx | rfl
      · exact hbytes.out x hx
      · exact n256
    · omega
  have st := O4.out.stored k (.int .u8 ((now : Int) / 256))
  have st2 := st.1.stored (k + 1) (.int .u8 ((now : Int) % 256))
  have hgx2 : w.heap.size ≤ gx := by omega
  have hown : ((w3.setCell ⟨gx, k, none⟩ (.int .u8 ((now : Int) / 256))).setCell ⟨gx, k + 1, none⟩ (.int .u8 ((now : Int) % 256))).ownsRow w2.heap.size 5 1 (.slice (some ⟨gx, 0, none⟩) n cx) lx.length (cellsB lx) := by
    have h2 := st2.1
    rw [cellsB_set lb k (now / 256) _ (by omega), cellsB_set _ (k + 1) (now % 256) _ (by omega), ← hlx] at h2
    rw [hlen]
    exact h2
  have X := Lib.hid (OwB.rb (l := lx) ⟨hown, hbx⟩)
  replace hg := (hg.setCell (p := ⟨gx, k, none⟩) hgx2 (.int .u8 ((now : Int) / 256))).setCell (p := ⟨gx, k + 1, none⟩) hgx2 (.int .u8 ((now : Int) % 256))
  have HX := Lib.hid hlx
  have HL := Lib.hid hlen
  clear hown st st2 hbx hlx hlen f0 f1 z0 z1 O4
  generalize (w3.setCell ⟨gx, k, none⟩ (.int .u8 ((now : Int) / 256))).setCell ⟨gx, k + 1, none⟩ (.int .u8 ((now : Int) % 256)) = wx at *
  go_loop [12] (fun i => ∃ t : Nat, t ≤ n ∧ i = .int .i64 t) (fun i => n - (intOf i).toNat)
  case atStart => exact ⟨0, Nat.zero_le _, rfl⟩
  case round =>
    obtain ⟨t, ht, rfl⟩ := hrel
    by_cases hlt : t < n
    · have d3 : (t : Int) < (n : Int) := by omega
      obtain ⟨b', off', eb, -, hc⟩ := X.out.at' (i := t) (by rw [HL.out]; exact hlt)
      cases eb
      rw [Nat.zero_add] at hc
      by_cases hz : lx.getD t 0 = 0
      · rw [hz] at hc
        go_wp2_with fail
        go_round
        case rel => exact ⟨t + 1, by omega, by go_num⟩
        case measure => simp [intOf]; omega
      · have HU := Lib.hid (upd_same (lb := lb) (lx := lx) (now := now) (k := k) (i := t) (by rw [← HN.out]; exact hkn) hke.out hbytes.out hn HX.out hz)
        have hz2 : (((lx.getD t 0 : Nat) : Int) == 0) = false := by rw [beq_eq_false_iff_ne]; omega
        have HZ := Lib.hid hz
        clear hz
        generalize lx.getD t 0 = x at *
        rw [← HS.out, ← HO.out] at HU
        have HC := Lib.hid (wchk_any wx X.out (by rw [HL.out]; omega))
        have hcs : 65535 - (oc (wsum false lx) : Int) ≤ 65535 ∧ 0 ≤ 65535 - (oc (wsum false lx) : Int) := by have := oc_le (wsum false lx); omega
        go_wp2_with fail
        refine (wupd_any _ _ _ _).mono ?_
        rintro e w9 ⟨rfl, rfl⟩
        rw [HU.out]
        go_wp2_with fail
        refine HC.out.mono ?_
        rintro e w9 ⟨rfl, rfl⟩
        go_wp2_with fail
        go_ret
        exact ⟨rfl, hg⟩
    · obtain rfl : t = n := by omega
      go_wp2_with fail
      go_ret
      exact ⟨rfl, hg⟩
end Go.Proofs.Ytikkobmccagdlaa
