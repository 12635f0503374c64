/- Several texts in one. -/
import Derived.Test.YtjpjnbgfodlkcaaGreatDoorGAI
import Derived.WalkKit
import Derived.WalkSpells
import Derived.WalkLawsBesides
import Derived.WalkSmall
import Derived.Handy
import Derived.BigQuiet
import Derived.Deep.QuietTactic
import Derived.Deep.RegionHeld3
import Derived.Deep.DeepFit
import Derived.Below
import Derived.Lib.Hide
import Derived.Lib.QuietBelow
import Derived.Deep.DeepCutAuto
import Derived.Laws.AppendOwnNone
/- The document's numbers: Split. -/
namespace Go.Proofs.YtjpjnbgfodlkcaaGreatDoor
open Go Go.RowKit Go.Sort
set_option maxRecDepth 100000
set_option linter.unusedVariables false
/-- quotient and remainder -/
def SpPost (w : World) (A B : Nat) (e : Ending) (w' : World) : Prop := ∃ vq vr : Value, e = .returned (.tuple #[vq, vr]) ∧ Rd (fun c => w.heap.size ≤ c) w' vq (nd (A / B)) ∧ Num w' vr (A % B) ∧ Gr w w'
/-- what the loop of Split keeps -/
def SpRel (A B q : Nat) (w1 : World) (rv s : Value) (wr : World) : Prop :=
  ∃ (k : Nat) (Q : List Nat) (R : Nat), s = .int .i64 ((k : Int) - 1) ∧ k ≤ (nd A).length ∧ Q.length = (nd A).length ∧ Lim Q ∧ nv ((nd A).drop k) = nv (Q.drop k) * B + R ∧ R < B ∧ (∀ j, j < k → Q.getD j 0 = 0) ∧
    Rd (· ≠ q) wr rv (nd R) ∧ Hd rv ∧ Arr wr q 0 Q ∧ Ex q w1 wr
/-- what the search of a digit keeps -/
def BsRel (B T : Nat) (W : World) (lo hi : Value) (wr : World) : Prop :=
  ∃ l h : Nat, lo = .int .i64 l ∧ hi = .int .i64 h ∧ 1 ≤ l ∧ l ≤ h ∧ h ≤ 1073741823 ∧ l * B ≤ T ∧ T < (h + 1) * B ∧ Gr W wr
theorem nd_le_len'' {A B k : Nat} (hA : (nd A).length ≤ k) (h : B ≤ A) : (nd B).length ≤ k := by
  rw [nd_len] at *; omega
theorem nd_mul'' {A B i j : Nat} (hA : (nd A).length ≤ i) (hB : (nd B).length ≤ j) : (nd (A * B)).length ≤ i + j := by
  rw [nd_len] at *
  rw [Nat.pow_add]
  exact Nat.mul_lt_mul_of_lt_of_le hA (Nat.le_of_lt hB) (bp_pos j)
theorem rd_nil {p : Nat → Prop} {w : World} {l : List Nat} (h : Rd p w (.slice none 0 0) l) : l = [] := by
  obtain ⟨a, c, e, -⟩ := h
  simp only [Value.slice.injEq] at e
  exact List.length_eq_zero_iff.1 e.2.1.symm
theorem num_cons {x R : Nat} (hx : x < 1073741824) : x + 1073741824 * R = nv (x :: nd R) := by rw [nv, nv_nd]
theorem own_trim {w : World} {base : Nat} {v : Value} {x : Nat} {l : List Nat} (h : Own w base v (x :: l)) (hL : Lim (x :: l)) : ∃ g cap : Nat, v = .slice (some ⟨g, 0, none⟩) (l.length + 1) cap ∧
    (Calls Tryz.prog 70 #[v] w fun e w' => e = .returned (.slice (some ⟨g, 0, none⟩) (nd (nv (x :: l))).length cap) ∧ w = w') ∧
    Rd (fun b => base ≤ b) w (.slice (some ⟨g, 0, none⟩) (nd (nv (x :: l))).length cap) (nd (nv (x :: l))) := by
  rcases h.is with ⟨-, e⟩ | ⟨g, cap, rfl, hb, hcap, hcap2, harr, hlt⟩
  · cases e
  · have hrd : Rd (fun b => base ≤ b) w (.slice (some ⟨g, 0, none⟩) (x :: l).length cap) (x :: l) := harr.rd hcap hcap2 hb
    refine ⟨g, cap, rfl, rtrim_at w hrd hL, ?_⟩
    have := hrd.take (k := (nd (nv (x :: l))).length) (nd_nv_le hL)
    rw [← nd_take hL] at this
    exact this
set_option maxHeartbeats 4000000 in
theorem split_any {A B : Nat} (va vb : Value) (w : World) (hA : Num w va A) (hB : Num w vb B) (hB0 : 0 < B) (lA : (nd A).length ≤ 4000) (lB : (nd B).length ≤ 4000) :
    Calls Tryz.prog 50 #[va, vb] w (SpPost w A B) := by
  have hA0 := hA
  have hB1 := hB
  obtain ⟨aa, acap, rfl, -, -, -⟩ := hA
  obtain ⟨ab, bcap, rfl, -, -, -⟩ := hB
  have hA := Lib.hid hA0
  have hB := Lib.hid hB1
  have HB0 := Lib.hid hB0
  clear hA0 hB1 hB0
  obtain ⟨ti, hi1, hi2, hi3, hi4⟩ := intInfo
  go_enter Tryz.func50, Tryz.ntmps50
  go_wp2_with (refine wpList_make_full _ rfl _ _ 24 rfl w.heap.size 3 ti (.int .i64 0) 1 Tryz.underlying24 hi1 hi2 hi3 .i64 .i64 _ _ ((nd A).length) rfl rfl (by simp) (by simp) (by rw [hi4]; omega) (by unfold maxLen; omega) (Nat.le_refl _) ?_; intro w1 hown1 hgrow1)
  obtain ⟨hn, harr, hlt, hcap, hcap2⟩ := (own_made hown1).arr
  have hG1 : Gr w w1 := Gr.grown (Gr.refl _) hgrow1 (fun k hk => by cases hk)
  have hGr := Lib.hid hG1
  obtain ⟨q, hr⟩ : ∃ q, q = w.heap.size := ⟨_, rfl⟩
  have hA1 : Rd (· ≠ q) w1 (.slice aa (nd A).length acap) (nd A) := Rd.gr (hA.out.off (by omega)) hG1
  have hB1 : Rd (· ≠ q) w1 (.slice ab (nd B).length bcap) (nd B) := Rd.gr (hB.out.off (by omega)) hG1
  rw [← hr] at harr hlt ⊢
  have HR := Lib.hid hr
  have HA1 := Lib.hid hA1
  have HB1 := Lib.hid hB1
  have HBL := Lib.hid lB
  clear hA1 hB1 hr hG1 hown1 hgrow1 hn
  go_loopw [7, 8] (fun rv s wr => SpRel A B q w1 rv s wr) (fun _ s _ => (intOf s + 1).toNat)
  case atStart => exact ⟨(nd A).length, _, 0, rfl, Nat.le_refl _, List.length_replicate, lim_replicate _, by rw [List.drop_of_length_le (Nat.le_refl _), List.drop_of_length_le (by rw [List.length_replicate]; exact Nat.le_refl _)]; simp [nv], HB0.out, fun j _ => by rw [List.getD_eq_getElem?_getD, List.getElem?_replicate]; split <;> rfl, by rw [nd_zero]; exact Rd.nil _ _, .inl rfl, harr, Ex.refl _ _⟩
  case round =>
    obtain ⟨k, Q, R, rfl, hk, hQl, hQL, hQv, hRB, hQz, hrv, hhd, hQa, hex⟩ := hrel
    have HQL := Lib.hid hQl
    have HLQ := Lib.hid hQL
    have HQV := Lib.hid hQv
    have HQA := Lib.hid hQa
    have HQZ := Lib.hid hQz
    have HRB := Lib.hid hRB
    clear hQl hQL hQv hQa hQz hRB
    by_cases hk0 : 0 < k
    · obtain ⟨k, rfl⟩ : ∃ j, k = j + 1 := ⟨k - 1, by omega⟩
      have e1 : ((k + 1 : Nat) : Int) - 1 = (k : Int) := by omega
      rw [e1]
      have hRl : (nd R).length ≤ 4000 := nd_le_len'' HBL.out (Nat.le_of_lt HRB.out)
      have hxl := lim_getD (lim_nd A) k
      obtain ⟨ba, oa, rfl, hba, hca⟩ := (HA1.out.ex hex).at' (i := k) (by omega)
      have HDN := Lib.hid (nv_drop (l := nd A) (i := k) (by omega))
      have HDQ := Lib.hid (nv_drop (l := Q) (i := k) (by rw [HQL.out]; omega))
      generalize hxx : (nd A).getD k 0 = x at *
      have HXL := Lib.hid hxl
      have x1 : (x : Int) < 1073741824 := by omega
      have k0 : (0 : Int) ≤ (k : Int) := by omega
      have k1 : (k : Int) < ((nd A).length : Int) := by omega
      have hlit : (wr.alloc (.cells #[.int .i64 (x : Nat)] 3)).ownsRow wr.heap.size 3 1 (.slice (some ⟨wr.heap.size, 0, none⟩) 1 1) 1 [.int .i64 (x : Nat)] := World.ownsRow_lit wr #[.int .i64 (x : Nat)] 1 (Nat.le_refl _) (by unfold maxLen; omega) rfl
      have HEX := Lib.hid hex
      have HRV := Lib.hid hrv
      clear hxx hex e1 hxl
      rcases hhd with rfl | ⟨ad, rn, rc, rfl⟩
      · have hR0 : nd R = [] := rd_nil HRV.out
        have hown : Own (wr.alloc (.cells #[.int .i64 (x : Nat)] 3)) wr.heap.size (.slice (some ⟨wr.heap.size, 0, none⟩) 1 1) (x :: nd R) := by
          unfold Own
          rw [hR0]
          exact hlit
        obtain ⟨g, cap, hv4, hcall, hrd⟩ := own_trim hown (lim_cons.2 ⟨HXL.out, lim_nd _⟩)
        have hG4 : Gr wr (wr.alloc (.cells #[.int .i64 (x : Nat)] 3)) := Gr.alloc (Gr.refl _) _
        rw [hv4] at hcall
        have HV4 := Lib.hid hv4
        have HCL := Lib.hid hcall
        have HRDD := Lib.hid hrd
        clear hR0 hown hv4 hcall hrd
        go_wp2_with fail
        have hv4 := HV4.out
        have hcall := HCL.out
        have hrd := HRDD.out
        clear HV4 HCL HRDD
        rw [hv4]
        generalize hw4 : wr.alloc (.cells #[.int .i64 (x : Nat)] 3) = w4 at *
        clear hw4 hv4
        obtain ⟨T, hT⟩ : ∃ T, T = nv (x :: nd R) := ⟨_, rfl⟩
        rw [← hT] at hcall hrd
        have hTl : (nd T).length ≤ 4001 := by
          rw [hT]
          refine Nat.le_trans (nd_nv_le ?_) (by rw [List.length_cons]; omega)
          exact lim_cons.2 ⟨HXL.out, lim_nd _⟩
        have HTX : Hid (x + 1073741824 * R = T) := Lib.hid (by rw [hT, ← num_cons HXL.out])
        have hqs : q < w4.heap.size := by have := Gr.size hG4; have := HEX.out.size; omega
        have hrd4 : Rd (· ≠ q) w4 (.slice (some ⟨g, 0, none⟩) (nd T).length cap) (nd T) := hrd.imp fun b _ hb => by have := HEX.out.size; omega
        have HRD := Lib.hid hrd4
        have HB4 := Lib.hid ((HB1.out.ex HEX.out).gr hG4)
        have HEX4 := Lib.hid (HEX.out.trans (Ex.ofGr hG4))
        have HQA4 := Lib.hid (HQA.out.gr hG4)
        have HCALL := Lib.hid hcall
        clear hT hcall hrd hrd4 hG4 hlit hca
        skip
        refine HCALL.out.mono ?_
        rintro e w' ⟨rfl, rfl⟩
        go_wp2_with fail
        refine (rcmp_nat _ _ _ HRD.out.any HB4.out.any (by omega) (by omega)).mono ?_
        rintro e w5 ⟨rfl, hg5⟩
        have HRD := Lib.hid (HRD.out.gr hg5)
        have HB4 := Lib.hid (HB4.out.gr hg5)
        have HEX4 := Lib.hid (HEX4.out.trans (Ex.ofGr hg5))
        have HQA4 := Lib.hid (HQA4.out.gr hg5)
        have hqs5 : q < w5.heap.size := by have := Gr.size hg5; omega
        clear hg5 hqs
        by_cases hTB : T < B
        · have HC1 : Hid (ncmp T B = -1) := Lib.hid (ncmp_lt hTB)
          have HTB := Lib.hid hTB
          clear hTB
          rw [HC1.out]
          go_wp2_with fail
          refine ⟨⟨k, Q, T, rfl, by omega, HQL.out, HLQ.out, ?_, HTB.out, fun j hj => HQZ.out j (by omega), HRD.out, .inr ⟨_, _, _, rfl⟩, HQA4.out, HEX4.out⟩, by simp only [intOf]; omega⟩
          rw [HDN.out, HDQ.out, HQZ.out k (by omega)]
          exact split_step (dr := 0) HQV.out HTX.out (by omega)
        · have HC1 : Hid (0 ≤ ncmp T B) := Lib.hid (by rcases Nat.eq_or_lt_of_le (show B ≤ T by omega) with h | h; rw [h, ncmp_eq]; omega; rw [ncmp_gt h]; omega)
          have dC : decide (ncmp T B < 0) = false := by have := HC1.out; simpa using this
          have HHI : Hid (T < (1073741823 + 1) * B) := Lib.hid (by
            have h1 := HRB.out
            have h2 := HTX.out
            have h3 := HXL.out
            have h4 : 1073741824 * (R + 1) ≤ 1073741824 * B := Nat.mul_le_mul_left _ h1
            omega)
          have HLO : Hid (1 * B ≤ T) := Lib.hid (by omega)
          clear hTB
          go_wp2_with fail
          go_loopw [9, 10] (fun lo hi wr => BsRel B T w5 lo hi wr) (fun lo hi _ => (intOf hi - intOf lo).toNat)
          case atStart => exact ⟨1, 1073741823, rfl, rfl, by omega, by omega, by omega, HLO.out, HHI.out, Gr.refl _⟩
          case round =>
            obtain ⟨l, h, rfl, rfl, hl1, hlh, hh, hlo, hhi, hg⟩ := hrel
            have HL1 := Lib.hid hlo
            have HH1 := Lib.hid hhi
            clear hlo hhi
            by_cases hlt2 : l < h
            · have dl : decide (l < h) = true := by simpa using hlt2
              obtain ⟨m, hm⟩ : ∃ m : Nat, m = (l + h + 1) / 2 := ⟨_, rfl⟩
              have hm0 : ((l : Int) + (h : Int) + 1) / 2 = (m : Int) := by omega
              have m1 : l < m := by omega
              have m2 : m ≤ h := by omega
              have h2 : (h : Int) ≤ 1073741823 := by omega
              have l2 : (l : Int) < (h : Int) := by omega
              have HM := Lib.hid (num_lit wr m (m : Int) rfl (by omega) (by omega))
              have lm : (nd m).length ≤ 1 := (nd_len m 1).2 (by omega)
              have lp : (nd (B * m)).length ≤ 4001 := nd_mul'' HBL.out lm
              clear hm
              go_wp2_with fail
              refine (times_any _ _ _ ((HB4.out.gr hg).gr (Gr.alloc (Gr.refl _) _)).any HM.out (by omega) (by omega)).mono ?_
              rintro e w6 ⟨vp, rfl, hp, hg6⟩
              have hgA : Gr w5 w6 := (hg.alloc _).step hg6
              go_wp2_with fail
              refine (rcmp_nat _ _ _ hp (HRD.out.gr hgA).any (by omega) (by omega)).mono ?_
              rintro e w7 ⟨rfl, hg7⟩
              have hgB : Gr w5 w7 := hgA.step hg7
              clear hp hg6 hg7 hgA
              by_cases hle : B * m ≤ T
              · have HC2 : Hid (ncmp (B * m) T ≤ 0) := Lib.hid (by rcases Nat.eq_or_lt_of_le hle with h | h; rw [h, ncmp_eq]; omega; rw [ncmp_lt h]; omega)
                have d2 : decide (ncmp (B * m) T ≤ 0) = true := by have := HC2.out; simpa using this
                have HLE : Hid (m * B ≤ T) := Lib.hid (by rw [Nat.mul_comm]; exact hle)
                clear hle
                go_wp2_with fail
                go_roundw
                case rel => exact ⟨m, h, rfl, rfl, by omega, m2, hh, HLE.out, HH1.out, hgB⟩
                case measure => simp only [intOf]; omega
              · have HC2 : Hid (ncmp (B * m) T = 1) := Lib.hid (ncmp_gt (by omega))
                have HLE : Hid (T < m * B) := Lib.hid (by rw [Nat.mul_comm]; omega)
                have em : (m : Int) - 1 = ((m - 1 : Nat) : Int) := by omega
                rw [HC2.out]
                clear hle
                go_wp2_with fail
                go_roundw
                case rel => exact ⟨l, m - 1, rfl, rfl, hl1, by omega, by omega, HL1.out, by rw [show m - 1 + 1 = m by omega]; exact HLE.out, hgB⟩
                case measure => simp only [intOf]; omega
            · obtain rfl : l = h := by omega
              have dl : decide (l < l) = false := by simp
              obtain ⟨hcl, hfr⟩ := (HQA4.out.gr hg) k (by rw [HQL.out]; omega)
              rw [Nat.zero_add] at hcl hfr
              have hqs6 : q < wr.heap.size := Nat.lt_of_lt_of_le hqs5 (Gr.size hg)
              have HB6 := Lib.hid ((HB4.out.gr hg).ex (Ex.set (Ex.refl q wr) k (.int .i64 (l : Nat))))
              have HR6 := Lib.hid ((HRD.out.gr hg).ex (Ex.set (Ex.refl q wr) k (.int .i64 (l : Nat))))
              have HQ6 := Lib.hid ((HQA4.out.gr hg).set (i := k) (by rw [HQL.out]; omega) l)
              have HE6 := Lib.hid ((HEX4.out.trans (Ex.ofGr hg)).trans (Ex.set (Ex.refl q wr) k (.int .i64 (l : Nat))))
              have hs6 : (wr.setCell ⟨q, k, none⟩ (.int .i64 (l : Nat))).heap.size = wr.heap.size := by simp
              have HM := Lib.hid (num_lit (wr.setCell ⟨q, k, none⟩ (.int .i64 (l : Nat))) l (l : Int) rfl (by omega) (by omega))
              have lm : (nd l).length ≤ 1 := (nd_len l 1).2 (by omega)
              have lp : (nd (B * l)).length ≤ 4001 := nd_mul'' HBL.out lm
              go_wp2_with fail
              rw [Nat.zero_add] at HQ6
              rw [hs6] at HM
              generalize wr.setCell ⟨q, k, none⟩ (.int .i64 (l : Nat)) = w6 at *
              clear hcl hfr hg
              refine (times_any _ _ _ (HB6.out.gr (Gr.alloc (Gr.refl _) _)).any HM.out (by omega) (by omega)).mono ?_
              rintro e w7 ⟨vp, rfl, hp, hg7⟩
              have hgA : Gr w6 w7 := (Gr.alloc (Gr.refl _) _).step hg7
              go_wp2_with fail
              refine (less_own _ _ _ (HR6.out.gr hgA).any hp (by rw [Nat.mul_comm]; exact HL1.out) (by omega)).mono ?_
              rintro e w8 ⟨v8, rfl, h8, hd8, hg8⟩
              have h9 : Rd (· ≠ q) w8 v8 (nd (T - B * l)) := h8.imp fun b _ hb => by have := Gr.size hgA; omega
              have hgB : Gr w6 w8 := hgA.step hg8
              have HV8 := Lib.hid h9
              clear h8 h9 hp
              go_wp2_with fail
              refine ⟨⟨k, Q.set k l, T - B * l, rfl, by omega, by rw [List.length_set]; exact HQL.out, lim_set HLQ.out _ (by omega), ?_, ?_, fun j hj => ?_, HV8.out, hd8, HQ6.out.gr hgB, HE6.out.trans (Ex.ofGr hgB)⟩, by simp only [intOf]; omega⟩
              · rw [HDN.out, drop_set (by rw [HQL.out]; omega), nv]
                exact split_step (dr := l) HQV.out HTX.out (by have := HL1.out; rw [Nat.mul_comm B l]; omega)
              · have h1 := HH1.out
                have h2 := HL1.out
                rw [Nat.add_mul, Nat.one_mul] at h1
                rw [Nat.mul_comm B l]
                omega
              · rw [getD_set_ne (by omega)]
                exact HQZ.out j (by omega)
      · have hrl : rn = (nd R).length := by
          obtain ⟨a, c, e, -⟩ := HRV.out
          simp only [Value.slice.injEq] at e
          exact e.2.1
        have hnews : ∀ j u, ((nd R).map lv)[j]? = some u → (wr.alloc (.cells #[.int .i64 (x : Nat)] 3)).cell? (ad.add j) = some u := by
          intro j u hj
          rw [List.getElem?_map] at hj
          obtain ⟨a, c, e, -, -, H⟩ := HRV.out
          have hjl : j < (nd R).length := by
            rcases Nat.lt_or_ge j (nd R).length with h | h
            · exact h
            · rw [List.getElem?_eq_none h] at hj; cases hj
          obtain ⟨b, off, ea, -, hc⟩ := H j hjl
          simp only [Value.slice.injEq] at e
          have e0 := e.1
          rw [ea] at e0
          obtain rfl := Option.some.inj e0
          rw [List.getElem?_eq_getElem hjl] at hj
          simp only [Option.map_some, Option.some.injEq] at hj
          subst hj
          rw [List.getD_eq_getElem?_getD, List.getElem?_eq_getElem hjl] at hc
          have hlt := World.block_lt_of_cell? _ _ hc
          rw [show (⟨b, off, none⟩ : Addr).add j = ⟨b, off + j, none⟩ by simp [Addr.add]]
          rw [World.cell?_alloc_lt _ _ _ hlt]
          exact hc
        have HNW := Lib.hid hnews
        have h1c : ∀ u ∈ (nd R).map lv, u.oneCell' = true := by
          intro u hu
          obtain ⟨y, -, rfl⟩ := List.mem_map.1 hu
          rfl
        have H1C := Lib.hid h1c
        have hlm : ((nd R).map lv).length = rn * 1 := by rw [List.length_map, hrl, Nat.mul_one]
        have HLM := Lib.hid hlm
        have hrn : rn ≤ 4000 := by omega
        have HRL := Lib.hid hrl
        clear hnews h1c hlm hrl
        go_wp2_with (at_builtin; refine wpList_append_own_at _ rfl _ _ 24 rfl wr.heap.size 3 ti (.int .i64 0) 1 8 Tryz.underlying24 hi1 hi2 hi3 hi4 rfl (by decide) _ _ _ rfl hlit ad rn rc ((nd R).map lv) rfl HLM.out HNW.out H1C.out (by unfold maxLen; omega) (by omega) (by simp) ?_; intro v4 w4 hown4 hgrow hnil hloc)
        clear hnil hloc
        have hown5 : Own w4 wr.heap.size v4 (x :: nd R) := by
          unfold Own
          rw [List.length_cons, List.map_cons, Nat.add_comm, ← HRL.out]
          exact hown4
        have hG4 : Gr wr w4 := Gr.grown (Gr.alloc (Gr.refl _) _) hgrow (fun k hk => (World.ownsRow.lt hlit k hk).1)
        obtain ⟨g, cap, rfl, hcall, hrd⟩ := own_trim hown5 (lim_cons.2 ⟨HXL.out, lim_nd _⟩)
        clear hown4 hown5 hgrow
        obtain ⟨T, hT⟩ : ∃ T, T = nv (x :: nd R) := ⟨_, rfl⟩
        rw [← hT] at hcall hrd
        have hTl : (nd T).length ≤ 4001 := by
          rw [hT]
          refine Nat.le_trans (nd_nv_le ?_) (by rw [List.length_cons]; omega)
          exact lim_cons.2 ⟨HXL.out, lim_nd _⟩
        have HTX : Hid (x + 1073741824 * R = T) := Lib.hid (by rw [hT, ← num_cons HXL.out])
        have hqs : q < w4.heap.size := by have := Gr.size hG4; have := HEX.out.size; omega
        have hrd4 : Rd (· ≠ q) w4 (.slice (some ⟨g, 0, none⟩) (nd T).length cap) (nd T) := hrd.imp fun b _ hb => by have := HEX.out.size; omega
        have HRD := Lib.hid hrd4
        have HB4 := Lib.hid ((HB1.out.ex HEX.out).gr hG4)
        have HEX4 := Lib.hid (HEX.out.trans (Ex.ofGr hG4))
        have HQA4 := Lib.hid (HQA.out.gr hG4)
        have HCALL := Lib.hid hcall
        clear hT hcall hrd hrd4 hG4 hlit hca
        (go_wp2_with fail)
        refine HCALL.out.mono ?_
        rintro e w' ⟨rfl, rfl⟩
        go_wp2_with fail
        refine (rcmp_nat _ _ _ HRD.out.any HB4.out.any (by omega) (by omega)).mono ?_
        rintro e w5 ⟨rfl, hg5⟩
        have HRD := Lib.hid (HRD.out.gr hg5)
        have HB4 := Lib.hid (HB4.out.gr hg5)
        have HEX4 := Lib.hid (HEX4.out.trans (Ex.ofGr hg5))
        have HQA4 := Lib.hid (HQA4.out.gr hg5)
        have hqs5 : q < w5.heap.size := by have := Gr.size hg5; omega
        clear hg5 hqs
        by_cases hTB : T < B
        · have HC1 : Hid (ncmp T B = -1) := Lib.hid (ncmp_lt hTB)
          have HTB := Lib.hid hTB
          clear hTB
          rw [HC1.out]
          go_wp2_with fail
          refine ⟨⟨k, Q, T, rfl, by omega, HQL.out, HLQ.out, ?_, HTB.out, fun j hj => HQZ.out j (by omega), HRD.out, .inr ⟨_, _, _, rfl⟩, HQA4.out, HEX4.out⟩, by simp only [intOf]; omega⟩
          rw [HDN.out, HDQ.out, HQZ.out k (by omega)]
          exact split_step (dr := 0) HQV.out HTX.out (by omega)
        · have HC1 : Hid (0 ≤ ncmp T B) := Lib.hid (by rcases Nat.eq_or_lt_of_le (show B ≤ T by omega) with h | h; rw [h, ncmp_eq]; omega; rw [ncmp_gt h]; omega)
          have dC : decide (ncmp T B < 0) = false := by have := HC1.out; simpa using this
          have HHI : Hid (T < (1073741823 + 1) * B) := Lib.hid (by
            have h1 := HRB.out
            have h2 := HTX.out
            have h3 := HXL.out
            have h4 : 1073741824 * (R + 1) ≤ 1073741824 * B := Nat.mul_le_mul_left _ h1
            omega)
          have HLO : Hid (1 * B ≤ T) := Lib.hid (by omega)
          clear hTB
          go_wp2_with fail
          go_loopw [9, 10] (fun lo hi wr => BsRel B T w5 lo hi wr) (fun lo hi _ => (intOf hi - intOf lo).toNat)
          case atStart => exact ⟨1, 1073741823, rfl, rfl, by omega, by omega, by omega, HLO.out, HHI.out, Gr.refl _⟩
          case round =>
            obtain ⟨l, h, rfl, rfl, hl1, hlh, hh, hlo, hhi, hg⟩ := hrel
            have HL1 := Lib.hid hlo
            have HH1 := Lib.hid hhi
            clear hlo hhi
            by_cases hlt2 : l < h
            · have dl : decide (l < h) = true := by simpa using hlt2
              obtain ⟨m, hm⟩ : ∃ m : Nat, m = (l + h + 1) / 2 := ⟨_, rfl⟩
              have hm0 : ((l : Int) + (h : Int) + 1) / 2 = (m : Int) := by omega
              have m1 : l < m := by omega
              have m2 : m ≤ h := by omega
              have h2 : (h : Int) ≤ 1073741823 := by omega
              have l2 : (l : Int) < (h : Int) := by omega
              have HM := Lib.hid (num_lit wr m (m : Int) rfl (by omega) (by omega))
              have lm : (nd m).length ≤ 1 := (nd_len m 1).2 (by omega)
              have lp : (nd (B * m)).length ≤ 4001 := nd_mul'' HBL.out lm
              clear hm
              go_wp2_with fail
              refine (times_any _ _ _ ((HB4.out.gr hg).gr (Gr.alloc (Gr.refl _) _)).any HM.out (by omega) (by omega)).mono ?_
              rintro e w6 ⟨vp, rfl, hp, hg6⟩
              have hgA : Gr w5 w6 := (hg.alloc _).step hg6
              go_wp2_with fail
              refine (rcmp_nat _ _ _ hp (HRD.out.gr hgA).any (by omega) (by omega)).mono ?_
              rintro e w7 ⟨rfl, hg7⟩
              have hgB : Gr w5 w7 := hgA.step hg7
              clear hp hg6 hg7 hgA
              by_cases hle : B * m ≤ T
              · have HC2 : Hid (ncmp (B * m) T ≤ 0) := Lib.hid (by rcases Nat.eq_or_lt_of_le hle with h | h; rw [h, ncmp_eq]; omega; rw [ncmp_lt h]; omega)
                have d2 : decide (ncmp (B * m) T ≤ 0) = true := by have := HC2.out; simpa using this
                have HLE : Hid (m * B ≤ T) := Lib.hid (by rw [Nat.mul_comm]; exact hle)
                clear hle
                go_wp2_with fail
                go_roundw
                case rel => exact ⟨m, h, rfl, rfl, by omega, m2, hh, HLE.out, HH1.out, hgB⟩
                case measure => simp only [intOf]; omega
              · have HC2 : Hid (ncmp (B * m) T = 1) := Lib.hid (ncmp_gt (by omega))
                have HLE : Hid (T < m * B) := Lib.hid (by rw [Nat.mul_comm]; omega)
                have em : (m : Int) - 1 = ((m - 1 : Nat) : Int) := by omega
                rw [HC2.out]
                clear hle
                go_wp2_with fail
                go_roundw
                case rel => exact ⟨l, m - 1, rfl, rfl, hl1, by omega, by omega, HL1.out, by rw [show m - 1 + 1 = m by omega]; exact HLE.out, hgB⟩
                case measure => simp only [intOf]; omega
            · obtain rfl : l = h := by omega
              have dl : decide (l < l) = false := by simp
              obtain ⟨hcl, hfr⟩ := (HQA4.out.gr hg) k (by rw [HQL.out]; omega)
              rw [Nat.zero_add] at hcl hfr
              have hqs6 : q < wr.heap.size := Nat.lt_of_lt_of_le hqs5 (Gr.size hg)
              have HB6 := Lib.hid ((HB4.out.gr hg).ex (Ex.set (Ex.refl q wr) k (.int .i64 (l : Nat))))
              have HR6 := Lib.hid ((HRD.out.gr hg).ex (Ex.set (Ex.refl q wr) k (.int .i64 (l : Nat))))
              have HQ6 := Lib.hid ((HQA4.out.gr hg).set (i := k) (by rw [HQL.out]; omega) l)
              have HE6 := Lib.hid ((HEX4.out.trans (Ex.ofGr hg)).trans (Ex.set (Ex.refl q wr) k (.int .i64 (l : Nat))))
              have hs6 : (wr.setCell ⟨q, k, none⟩ (.int .i64 (l : Nat))).heap.size = wr.heap.size := by simp
              have HM := Lib.hid (num_lit (wr.setCell ⟨q, k, none⟩ (.int .i64 (l : Nat))) l (l : Int) rfl (by omega) (by omega))
              have lm : (nd l).length ≤ 1 := (nd_len l 1).2 (by omega)
              have lp : (nd (B * l)).length ≤ 4001 := nd_mul'' HBL.out lm
              go_wp2_with fail
              rw [Nat.zero_add] at HQ6
              rw [hs6] at HM
              generalize wr.setCell ⟨q, k, none⟩ (.int .i64 (l : Nat)) = w6 at *
              clear hcl hfr hg
              refine (times_any _ _ _ (HB6.out.gr (Gr.alloc (Gr.refl _) _)).any HM.out (by omega) (by omega)).mono ?_
              rintro e w7 ⟨vp, rfl, hp, hg7⟩
              have hgA : Gr w6 w7 := (Gr.alloc (Gr.refl _) _).step hg7
              go_wp2_with fail
              refine (less_own _ _ _ (HR6.out.gr hgA).any hp (by rw [Nat.mul_comm]; exact HL1.out) (by omega)).mono ?_
              rintro e w8 ⟨v8, rfl, h8, hd8, hg8⟩
              have h9 : Rd (· ≠ q) w8 v8 (nd (T - B * l)) := h8.imp fun b _ hb => by have := Gr.size hgA; omega
              have hgB : Gr w6 w8 := hgA.step hg8
              have HV8 := Lib.hid h9
              clear h8 h9 hp
              go_wp2_with fail
              refine ⟨⟨k, Q.set k l, T - B * l, rfl, by omega, by rw [List.length_set]; exact HQL.out, lim_set HLQ.out _ (by omega), ?_, ?_, fun j hj => ?_, HV8.out, hd8, HQ6.out.gr hgB, HE6.out.trans (Ex.ofGr hgB)⟩, by simp only [intOf]; omega⟩
              · rw [HDN.out, drop_set (by rw [HQL.out]; omega), nv]
                exact split_step (dr := l) HQV.out HTX.out (by have := HL1.out; rw [Nat.mul_comm B l]; omega)
              · have h1 := HH1.out
                have h2 := HL1.out
                rw [Nat.add_mul, Nat.one_mul] at h1
                rw [Nat.mul_comm B l]
                omega
              · rw [getD_set_ne (by omega)]
                exact HQZ.out j (by omega)
    · obtain rfl : k = 0 := by omega
      have hrd : Rd (fun c => w.heap.size ≤ c) wr (.slice (some ⟨q, 0, none⟩) (nd A).length (nd A).length) Q := by
        have := HQA.out.rd (p := fun c => w.heap.size ≤ c) (cap := (nd A).length) (by rw [HQL.out]; exact Nat.le_refl _) (by omega) (by rw [HR.out]; exact Nat.le_refl _)
        rwa [HQL.out] at this
      have hdm : nv Q = A / B ∧ R = A % B := by
        have h := HQV.out
        rw [List.drop_zero, List.drop_zero, nv_nd] at h
        have h2 := HRB.out
        have h3 := HB0.out
        have e1 : A / B = nv Q := by
          rw [h, Nat.add_comm, Nat.add_mul_div_right _ _ h3, Nat.div_eq_of_lt h2, Nat.zero_add]
        have e2 : A % B = R := by
          rw [h, Nat.add_comm, Nat.add_mul_mod_self_right, Nat.mod_eq_of_lt h2]
        exact ⟨e1.symm, e2.symm⟩
      have HT := Lib.hid (rtrim_any wr hrd HLQ.out)
      have HN := Lib.hid hdm
      have HRV := Lib.hid hrv
      have hG : Gr w wr := Ex.gr hGr.out (by rw [← HR.out]; exact Nat.le_refl _) hex
      have e0 : ((0 : Nat) : Int) - 1 = -1 := by omega
      rw [e0]
      clear hdm hrd hrv
      go_wp2_with fail
      refine HT.out.mono ?_
      rintro e w' ⟨v, rfl, hv, rfl⟩
      rw [HN.out.1] at hv
      have HF := Lib.hid hv
      clear hv
      go_wp2_with fail
      go_ret2
      exact ⟨v, _, rfl, HF.out, by rw [← HN.out.2]; exact HRV.out.any, hG⟩
end Go.Proofs.YtjpjnbgfodlkcaaGreatDoor
/- The document's numbers: half. -/
namespace Go.Proofs.YtjpjnbgfodlkcaaGreatDoor
open Go Go.RowKit Go.Sort
set_option maxRecDepth 100000
set_option linter.unusedVariables false
/-- what the loop of half keeps -/
def HfRel (N r : Nat) (w1 : World) (cv s : Value) (wr : World) : Prop :=
  ∃ (k c : Nat) (Q : List Nat), s = .int .i64 ((k : Int) - 1) ∧ cv = .int .i64 c ∧ c ≤ 1 ∧ k ≤ (nd N).length ∧ Q.length = (nd N).length ∧ Lim Q ∧ nv ((nd N).drop k) = nv (Q.drop k) * 2 + c ∧ Arr wr r 0 Q ∧ Ex r w1 wr
set_option maxHeartbeats 2000000 in
theorem half_any {N : Nat} (v : Value) (w : World) (h : Num w v N) (lN : (nd N).length ≤ 10000) :
    Calls Tryz.prog 98 #[v] w (OneNum w (N / 2)) := by
  have hN0 := h
  obtain ⟨aa, acap, rfl, -, -, -⟩ := h
  have hN := Lib.hid hN0
  clear hN0
  obtain ⟨ti, hi1, hi2, hi3, hi4⟩ := intInfo
  go_enter Tryz.func98, Tryz.ntmps98
  go_wp2_with (refine wpList_make_full _ rfl _ _ 24 rfl w.heap.size 3 ti (.int .i64 0) 1 Tryz.underlying24 hi1 hi2 hi3 .i64 .i64 _ _ ((nd N).length) rfl rfl (by simp) (by simp) (by rw [hi4]; omega) (by unfold maxLen; omega) (Nat.le_refl _) ?_; intro w1 hown1 hgrow1)
  obtain ⟨hn, harr, hlt, hcap, hcap2⟩ := (own_made hown1).arr
  have hG1 : Gr w w1 := Gr.grown (Gr.refl _) hgrow1 (fun k hk => by cases hk)
  have hGr := Lib.hid hG1
  obtain ⟨r, hr⟩ : ∃ r, r = w.heap.size := ⟨_, rfl⟩
  have hA1 : Rd (· ≠ r) w1 (.slice aa (nd N).length acap) (nd N) := Rd.gr (hN.out.off (by omega)) hG1
  rw [← hr] at harr hlt ⊢
  have HR := Lib.hid hr
  have HA1 := Lib.hid hA1
  clear hA1 hr hG1 hown1 hgrow1 hn hi1 hi2 hi3 hi4
  go_loopw [4, 5] (fun cv s wr => HfRel N r w1 cv s wr) (fun _ s _ => (intOf s + 1).toNat)
  case atStart => exact ⟨(nd N).length, 0, _, rfl, rfl, by omega, Nat.le_refl _, List.length_replicate, lim_replicate _, by rw [List.drop_of_length_le (Nat.le_refl _), List.drop_of_length_le (by rw [List.length_replicate]; exact Nat.le_refl _)]; rfl, harr, Ex.refl _ _⟩
  case round =>
    obtain ⟨k, c, Q, rfl, rfl, hc, hk, hQl, hQL, hQv, hQa, hex⟩ := hrel
    have HQL := Lib.hid hQl
    have HLQ := Lib.hid hQL
    have HQV := Lib.hid hQv
    have HQA := Lib.hid hQa
    clear hQl hQL hQv hQa
    by_cases hk0 : 0 < k
    · obtain ⟨k, rfl⟩ : ∃ j, k = j + 1 := ⟨k - 1, by omega⟩
      have e1 : ((k + 1 : Nat) : Int) - 1 = (k : Int) := by omega
      rw [e1]
      obtain ⟨ba, oa, rfl, hba, hca⟩ := (HA1.out.ex hex).at' (i := k) (by omega)
      obtain ⟨hcl, hfr⟩ := HQA.out k (by rw [HQL.out]; omega)
      rw [Nat.zero_add] at hcl hfr
      have hxl := lim_getD (lim_nd N) k
      have HDN := Lib.hid (nv_drop (l := nd N) (i := k) (by omega))
      generalize hxx : (nd N).getD k 0 = x at *
      obtain ⟨h, hh⟩ : ∃ h : Nat, h = (x + c * 1073741824) / 2 := ⟨_, rfl⟩
      obtain ⟨r', hr'⟩ : ∃ r' : Nat, r' = (x + c * 1073741824) % 2 := ⟨_, rfl⟩
      have hh0 : ((x : Int) + (c : Int) * 1073741824) / 2 = (h : Int) := by omega
      have hr0 : ((x : Int) + (c : Int) * 1073741824) % 2 = (r' : Int) := by omega
      have HST := Lib.hid (half_step (h := h) (r := r') (x := x) HQV.out (by omega))
      have HH : Hid (h < 1073741824) := Lib.hid (by omega)
      have x1 : (x : Int) < 1073741824 := by omega
      have c1 : (c : Int) ≤ 1 := by omega
      have k0 : (0 : Int) ≤ (k : Int) := by omega
      have k1 : (k : Int) < ((nd N).length : Int) := by omega
      have HEX := Lib.hid hex
      have hrr : r' ≤ 1 := by omega
      clear hxx hh hr' e1 hex
      go_wp2_with fail
      refine ⟨⟨k, r', Q.set k h, rfl, iv hr0, hrr, by omega, by rw [List.length_set]; exact HQL.out, lim_set HLQ.out _ HH.out, ?_, ?_, HEX.out.trans (Ex.set (Ex.refl _ _) _ _)⟩, ?_⟩
      · rw [HDN.out, drop_set (by rw [HQL.out]; omega), nv]
        exact HST.out
      · have := HQA.out.set (i := k) (by rw [HQL.out]; omega) h
        rwa [Nat.zero_add] at this
      · simp only [intOf]; omega
    · obtain rfl : k = 0 := by omega
      have hrd : Rd (fun _ => True) wr (.slice (some ⟨r, 0, none⟩) (nd N).length (nd N).length) Q := by
        have := HQA.out.rd (p := fun _ => True) (cap := (nd N).length) (by rw [HQL.out]; exact Nat.le_refl _) (by omega) trivial
        rwa [HQL.out] at this
      have hnv : nv Q = N / 2 := by
        have h := HQV.out
        rw [List.drop_zero, List.drop_zero, nv_nd] at h
        omega
      have HT := Lib.hid (rtrim_any wr hrd HLQ.out)
      have HN := Lib.hid hnv
      have hG : Gr w wr := Ex.gr hGr.out (by rw [← HR.out]; exact Nat.le_refl _) hex
      have e0 : ((0 : Nat) : Int) - 1 = -1 := by omega
      rw [e0]
      clear hnv hrd
      go_wp2_with fail
      refine HT.out.mono ?_
      rintro e w' ⟨v, rfl, hv, rfl⟩
      rw [HN.out] at hv
      have HF := Lib.hid hv
      clear hv
      go_wp2_with fail
      go_ret
      exact ⟨v, rfl, HF.out.any, hG⟩
end Go.Proofs.YtjpjnbgfodlkcaaGreatDoor
