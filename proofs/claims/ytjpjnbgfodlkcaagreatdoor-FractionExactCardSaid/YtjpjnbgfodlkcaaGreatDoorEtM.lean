/- The document's Text of numbers. -/
import Derived.Test.YtjpjnbgfodlkcaaGreatDoorGAU
import Derived.Test.YtjpjnbgfodlkcaaGreatDoorGAJ
import Derived.Test.YtjpjnbgfodlkcaaGreatDoorGAC
import Derived.WalkKit
import Derived.WalkSpells
import Derived.WalkLawsBesides
import Derived.WalkSmall
import Derived.Handy
import Derived.BigQuiet
import Derived.Deep.QuietTactic
import Derived.Deep.RegionHeld3
import Derived.Deep.DeepFit
import Derived.Below
import Derived.Lib.Hide
import Derived.Lib.QuietBelow
import Derived.Deep.DeepCutAuto
namespace Go.Proofs.YtjpjnbgfodlkcaaGreatDoor
open Go Go.RowKit Go.Sort
set_option maxRecDepth 100000
set_option linter.unusedVariables false
/-- the digits of a number, in two parts -/
theorem dd_split : ∀ k N, 0 < N / 10 ^ k → Lib.decDigits N = Lib.decDigits (N / 10 ^ k) ++ pd k N
  | 0, N, _ => by simp [pd]
  | k + 1, N, h => by
    have e : N / 10 ^ (k + 1) = N / 10 / 10 ^ k := by rw [Nat.div_div_eq_div_mul, Nat.pow_succ, Nat.mul_comm]
    rw [e] at h ⊢
    have hN : ¬ N < 10 := fun hc => by rw [Nat.div_eq_of_lt hc, Nat.zero_div] at h; omega
    rw [dd_step hN, dd_split k (N / 10) h, pd, List.append_assoc]
theorem ten_bound {j N L : Nat} (h : 0 < N / 10 ^ (9 * j)) (hN : (nd N).length ≤ L) : 9 * j ≤ 10 * L := by
  have h1 : 10 ^ (9 * j) ≤ N := by
    rcases Nat.lt_or_ge N (10 ^ (9 * j)) with hc | hc
    · rw [Nat.div_eq_of_lt hc] at h; omega
    · exact hc
  have h2 : N < 1073741824 ^ L := (nd_len N L).1 hN
  have h3 : 1073741824 ^ L ≤ (10 ^ 10) ^ L := Nat.pow_le_pow_left (by decide) L
  rw [← Nat.pow_mul] at h3
  have h4 : 10 ^ (9 * j) < 10 ^ (10 * L) := Nat.lt_of_le_of_lt h1 (Nat.lt_of_lt_of_le h2 h3)
  exact Nat.le_of_lt ((Nat.pow_lt_pow_iff_right (by omega)).1 h4)
theorem add_zero48 (l : List UInt8) (h : l.length ≤ 1000000) (w : World) : (Op.stringOp .add ⟨#[48]⟩ (str l)).run Tryz.prog w = .ok (.string (str (48 :: l))) w :=
  add_str [48] l (by rw [List.length_singleton]; omega) w
theorem nd_first {M : Nat} (h : (nd M).length ≤ 1) : (nd M).getD 0 0 = M := by
  rcases Nat.eq_zero_or_pos M with rfl | h0
  · rw [nd_zero]; rfl
  · have h1 : M < 1073741824 := by have := (nd_len M 1).1 h; omega
    rw [nd_one h0 h1]; rfl
theorem group_next {j N : Nat} : pd 9 (N / 10 ^ (9 * j) % 1000000000) ++ pd (9 * j) N = pd (9 * (j + 1)) N := by
  rw [show (1000000000 : Nat) = 10 ^ 9 from rfl, pd_mod, show 9 * (j + 1) = 9 + 9 * j by omega, pd_add]
theorem div_next {j N : Nat} : N / 10 ^ (9 * j) / 1000000000 = N / 10 ^ (9 * (j + 1)) := by
  rw [Nat.div_div_eq_div_mul, show 9 * (j + 1) = 9 * j + 9 by omega, Nat.pow_add]
theorem nine_step {a b c h r x : Nat} (hv : a = b * 1000000000 + c) (hh : h = (c * 1073741824 + x) / 1000000000) (hr : r = (c * 1073741824 + x) % 1000000000) : x + 1073741824 * a = (h + 1073741824 * b) * 1000000000 + r := by
  have := Nat.mod_add_div (c * 1073741824 + x) 1000000000
  rw [← hh, ← hr] at this
  grind
/-- what the inner loop of Text keeps -/
def T9Rel (N r : Nat) (w1 : World) (cv s : Value) (wr : World) : Prop :=
  ∃ (k c : Nat) (Q : List Nat), s = .int .i64 ((k : Int) - 1) ∧ cv = .int .i64 c ∧ c < 1000000000 ∧ k ≤ (nd N).length ∧ Q.length = (nd N).length ∧ Lim Q ∧ nv ((nd N).drop k) = nv (Q.drop k) * 1000000000 + c ∧ Arr wr r 0 Q ∧ Ex r w1 wr
/-- what the loop of Text keeps -/
def TeRel (w : World) (N L : Nat) (v s : Value) (wr : World) : Prop :=
  ∃ j : Nat, Num wr v (N / 10 ^ (9 * j)) ∧ (nd (N / 10 ^ (9 * j))).length ≤ L ∧ s = .string (str (pd (9 * j) N)) ∧ 9 * j ≤ 10 * L + 9 ∧ Gr w wr
def strLen : Value → Nat
  | .string b => b.size
  | _ => 0
theorem str_cons (c : UInt8) (X : List UInt8) (h : 0 < (str (c :: X)).size) : (str (c :: X)).size = X.length + 1 ∧ ((str (c :: X))[0]'h).toNat = c.toNat ∧ (str (c :: X)).extract 1 (str (c :: X)).size = str X := by
  refine ⟨by rw [str_size, List.length_cons], ?_, ?_⟩
  · have e : (str (c :: X)).data.toList[0]'(by rw [str_data]; simp) = (str (c :: X))[0]'h := rfl
    rw [← e]
    simp [str_data]
  · rw [str_ext, str_data, str_size, List.drop_one, List.tail_cons, List.length_cons, Nat.add_sub_cancel, List.take_length]
set_option maxHeartbeats 4000000 in
theorem rtext_any {N : Nat} (v : Value) (w : World) (h : Num w v N) (lN : (nd N).length ≤ 10000) :
    Calls Tryz.prog 57 #[v] w fun e w' => e = .returned (.string (str (Lib.decDigits N))) ∧ Gr w w' := by
  obtain ⟨L, hL⟩ : ∃ L, L = (nd N).length := ⟨_, rfl⟩
  obtain ⟨aa, ca, rfl⟩ := num_slice h
  have HN := Lib.hid h
  have HL := Lib.hid hL
  have hL1 : L ≤ 10000 := by omega
  clear h hL lN
  go_enter Tryz.func57, Tryz.ntmps57
  go_wp2_with fail
  go_loopw [0, 3] (fun v s wr => TeRel w N L v s wr) (fun _ s _ => 10 * L + 100 - strLen s)
  case atStart => exact ⟨0, by simp; exact HN.out, by simp; rw [HL.out]; exact Nat.le_refl _, rfl, by omega, Gr.refl _⟩
  case round =>
    obtain ⟨j, hn, hl, rfl, hj, hg⟩ := hrel
    obtain ⟨M, hM⟩ : ∃ M, M = N / 10 ^ (9 * j) := ⟨_, rfl⟩
    rw [← hM] at hn hl
    have HM := Lib.hid hM
    have HMN := Lib.hid hn
    obtain ⟨av, cv, rfl⟩ := num_slice hn
    obtain ⟨T, hT⟩ : ∃ T, T = pd (9 * j) N := ⟨_, rfl⟩
    rw [← hT]
    have HT := Lib.hid hT
    have HTL := Lib.hid (show T.length = 9 * j by rw [hT, pd_len])
    clear hM hn hT
    by_cases hlt : 1 < (nd M).length
    · have hM0 : 0 < M := by
        rcases Nat.eq_zero_or_pos M with h0 | h0
        · rw [h0, nd_zero] at hlt; simp at hlt
        · exact h0
      have hj2 : 9 * j ≤ 10 * L := ten_bound (by rw [← HM.out]; exact hM0) (by rw [HL.out]; exact Nat.le_refl _)
      have d1 : decide ((1 : Int) < ((nd M).length : Int)) = true := by rw [decide_eq_true_eq]; omega
      obtain ⟨ti, hi1, hi2, hi3, hi4⟩ := intInfo
      have HG := Lib.hid hg
      clear hg
      go_wp2_with (refine wpList_make_full _ rfl _ _ 24 rfl wr.heap.size 3 ti (.int .i64 0) 1 Tryz.underlying24 hi1 hi2 hi3 .i64 .i64 _ _ ((nd M).length) rfl rfl (by simp) (by simp) (by rw [hi4]; omega) (by unfold maxLen; omega) (Nat.le_refl _) ?_; intro w1 hown1 hgrow1)
      obtain ⟨hn, harr, hlt1, hcap, hcap2⟩ := (own_made hown1).arr
      have hG1 : Gr wr w1 := Gr.grown (Gr.refl _) hgrow1 (fun k hk => by cases hk)
      have HGr := Lib.hid hG1
      obtain ⟨r, hr⟩ : ∃ r, r = wr.heap.size := ⟨_, rfl⟩
      have hA1 : Rd (· ≠ r) w1 (.slice av (nd M).length cv) (nd M) := Rd.gr (HMN.out.off (by omega)) hG1
      rw [← hr] at harr hlt1 ⊢
      have HR := Lib.hid hr
      have HA1 := Lib.hid hA1
      clear hA1 hr hG1 hown1 hgrow1 hn hi1 hi2 hi3 hi4
      go_loopw [5, 6, 7] (fun cv s _ wi => T9Rel M r w1 cv s wi) (fun _ s _ _ => (intOf s + 1).toNat)
      case atStart => exact ⟨(nd M).length, 0, _, rfl, rfl, by omega, Nat.le_refl _, List.length_replicate, lim_replicate _, by rw [List.drop_of_length_le (Nat.le_refl _), List.drop_of_length_le (by rw [List.length_replicate]; exact Nat.le_refl _)]; rfl, harr, Ex.refl _ _⟩
      case round =>
        obtain ⟨k, c, Q, rfl, rfl, hc, hk, hQl, hQL, hQv, hQa, hex⟩ := hrel
        have HQL := Lib.hid hQl
        have HLQ := Lib.hid hQL
        have HQV := Lib.hid hQv
        have HQA := Lib.hid hQa
        clear hQl hQL hQv hQa
        by_cases hk0 : 0 < k
        · obtain ⟨k, rfl⟩ : ∃ j, k = j + 1 := ⟨k - 1, by omega⟩
          have e1 : ((k + 1 : Nat) : Int) - 1 = (k : Int) := by omega
          rw [e1]
          obtain ⟨ba, oa, rfl, hba, hca⟩ := (HA1.out.ex hex).at' (i := k) (by omega)
          obtain ⟨hcl, hfr⟩ := HQA.out k (by rw [HQL.out]; omega)
          rw [Nat.zero_add] at hcl hfr
          have hxl := lim_getD (lim_nd M) k
          have HDN := Lib.hid (nv_drop (l := nd M) (i := k) (by omega))
          generalize hxx : (nd M).getD k 0 = x at *
          obtain ⟨h, hh⟩ : ∃ h : Nat, h = (c * 1073741824 + x) / 1000000000 := ⟨_, rfl⟩
          obtain ⟨r', hr'⟩ : ∃ r' : Nat, r' = (c * 1073741824 + x) % 1000000000 := ⟨_, rfl⟩
          have hh0 : ((c : Int) * 1073741824 + (x : Int)) / 1000000000 = (h : Int) := by omega
          have hr0 : ((c : Int) * 1073741824 + (x : Int)) % 1000000000 = (r' : Int) := by omega
          have HST := Lib.hid (nine_step (h := h) (r := r') (x := x) HQV.out hh hr')
          have HH : Hid (h < 1073741824) := Lib.hid (by omega)
          have x1 : (x : Int) < 1073741824 := by omega
          have c1 : (c : Int) < 1000000000 := by omega
          have k0 : (0 : Int) ≤ (k : Int) := by omega
          have k1 : (k : Int) < ((nd M).length : Int) := by omega
          have HEX := Lib.hid hex
          have hrr : r' < 1000000000 := by omega
          clear hxx hh hr' e1 hex
          go_wp2_with fail
          refine ⟨⟨k, r', Q.set k h, rfl, iv hr0, hrr, by omega, by rw [List.length_set]; exact HQL.out, lim_set HLQ.out _ HH.out, ?_, ?_, HEX.out.trans (Ex.set (Ex.refl _ _) _ _)⟩, ?_⟩
          · rw [HDN.out, drop_set (by rw [HQL.out]; omega), nv]
            exact HST.out
          · have := HQA.out.set (i := k) (by rw [HQL.out]; omega) h
            rwa [Nat.zero_add] at this
          · simp only [intOf]; omega
        · obtain rfl : k = 0 := by omega
          have hrd : Rd (fun _ => True) wr (.slice (some ⟨r, 0, none⟩) (nd M).length (nd M).length) Q := by
            have := HQA.out.rd (p := fun _ => True) (cap := (nd M).length) (by rw [HQL.out]; exact Nat.le_refl _) (by omega) trivial
            rwa [HQL.out] at this
          have hnv : nv Q = M / 1000000000 ∧ c = M % 1000000000 := by
            have h := HQV.out
            rw [List.drop_zero, List.drop_zero, nv_nd] at h
            omega
          have HTR := Lib.hid (rtrim_any wr hrd HLQ.out)
          have HNV := Lib.hid hnv
          have HGI := Lib.hid (Ex.gr (HG.out.step HGr.out) (show w.heap.size ≤ r by have := HR.out; have := Gr.size HG.out; omega) hex)
          have e0 : ((0 : Nat) : Int) - 1 = -1 := by omega
          have HDC := Lib.hid (fun W => rdec_all c (by omega) W)
          have hP := pd_digits 9 c (by simpa using hc) (by omega)
          have hdl := Lib.decDigits_length c
          have HPD := Lib.hid (show pd 9 c = List.replicate (9 - (Lib.decDigits c).length) 48 ++ Lib.decDigits c by rw [hdl]; exact hP.2)
          have hdl9 : (Lib.decDigits c).length ≤ 9 := by rw [hdl]; exact hP.1
          rw [e0]
          clear hnv hrd hP hdl
          go_wp2_with fail
          refine HTR.out.mono ?_
          rintro e w' ⟨v, rfl, hv, rfl⟩
          rw [HNV.out.1] at hv
          have HV := Lib.hid hv.any
          obtain ⟨av2, cv2, rfl⟩ := num_slice hv.any
          clear hv HTR
          go_wp2_with fail
          refine (HDC.out _).mono ?_
          rintro e w' ⟨rfl, hg'⟩
          have HV' := Lib.hid (HV.out.gr hg')
          have HG' := Lib.hid (HGI.out.step hg')
          clear hg' HDC
          generalize hdd : Lib.decDigits c = D at *
          go_wp2_with fail
          go_loop [8] (fun d => ∃ z : Nat, z + D.length ≤ 9 ∧ d = .string (str (List.replicate z 48 ++ D))) (fun d => 9 - strLen d)
          case atStart => exact ⟨0, by omega, rfl⟩
          case round =>
            obtain ⟨z, hz, rfl⟩ := hrel
            have hlen : (List.replicate z (48 : UInt8) ++ D).length = z + D.length := by rw [List.length_append, List.length_replicate]
            have hsz : (str (List.replicate z (48 : UInt8) ++ D)).size = z + D.length := by rw [str_size, hlen]
            have HSZ := Lib.hid hsz
            have HA := add_zero48 (List.replicate z (48 : UInt8) ++ D) (by omega)
            have HZ := Lib.hid (show (48 : UInt8) :: (List.replicate z 48 ++ D) = List.replicate (z + 1) 48 ++ D by rw [List.replicate_succ, List.cons_append])
            by_cases hz9 : z + D.length < 9
            · have d2 : (((z + D.length : Nat) : Int)) < 9 := by omega
              generalize List.replicate z (48 : UInt8) ++ D = E at *
              go_wp2_with fail
              have hE : E.length = z + D.length := by have := HSZ.out; rwa [str_size] at this
              refine ⟨⟨z + 1, by omega, by rw [← HZ.out]⟩, ?_⟩
              simp only [strLen, str_size, List.length_cons]
              omega
            · have d2 : ¬ (((z + D.length : Nat) : Int)) < 9 := by omega
              have hz2 : z = 9 - D.length := by omega
              have HE := Lib.hid (show List.replicate z (48 : UInt8) ++ D = pd 9 c by rw [hz2]; exact HPD.out.symm)
              have HC2 := Lib.hid (show pd 9 c ++ T = pd (9 * (j + 1)) N by rw [HNV.out.2, HM.out, HT.out]; exact group_next)
              have HV2 := HV'
              have h9 : (pd 9 c).length = 9 := pd_len 9 c
              rw [HE.out] at hsz ⊢
              have HADD := add_str (pd 9 c) T (by have := HTL.out; omega)
              rw [HC2.out] at HADD
              clear HZ HA hz2 HE HSZ hlen HPD
              generalize hq : pd 9 c = E at *
              go_wp2_with fail
              refine ⟨⟨j + 1, ?_, ?_, rfl, by omega, HG'.out⟩, ?_⟩
              · rw [← div_next, ← HM.out]; exact HV2.out
              · rw [← div_next, ← HM.out]
                have h1 : (nd (M / 1000000000)).length ≤ (nd M).length := (nd_len _ _).2 (Nat.lt_of_le_of_lt (Nat.div_le_self _ _) ((nd_len M _).1 (Nat.le_refl _)))
                omega
              · simp only [strLen, str_size, pd_len]
                have := HTL.out
                omega
    · have hl1 : (nd M).length ≤ 1 := by omega
      have HF := Lib.hid (nd_first hl1)
      have d1 : decide ((1 : Int) < ((nd M).length : Int)) = false := by rw [decide_eq_false_iff_not]; omega
      have d1b : decide (1 < (nd M).length) = false := by rw [decide_eq_false_iff_not]; omega
      have hMM : M < 1073741824 := (nd_len M 1).1 hl1
      have HLB := Lib.hid (rlimb_any 0 wr HMN.out)
      rw [HF.out] at HLB
      have HDC := Lib.hid (fun W => rdec_all M (by omega) W)
      have HG := Lib.hid hg
      have hdl := dd_size (k := M) (by omega)
      have hj3 := hj
      clear hg
      by_cases hM0 : M = 0
      · have dl : (((nd M).length : Int) == 0) = true := by rw [hM0, nd_zero]; rfl
        by_cases hj0 : j = 0
        · have hT0 : T = [] := by have := HTL.out; rw [hj0] at this; exact List.length_eq_zero_iff.1 this
          have HS := Lib.hid (show Lib.decDigits M ++ T = List.replicate 0 48 ++ Lib.decDigits N by
            rw [hT0, List.append_nil, List.replicate_zero, List.nil_append]
            have := HM.out
            rw [hj0] at this
            simp at this
            rw [this])
          have t0 : (str T).toList.isEmpty = true := by rw [hT0, Lib.toList_data, str_data]; rfl
          have t1 : (str T).toList = [] := by rw [hT0, Lib.toList_data, str_data]
          have HADD := add_str (Lib.decDigits M) T (by have := HTL.out; omega)
          rw [HS.out] at HADD
          clear hM0 hj0 hT0
          go_wp2_with fail
          refine HLB.out.mono ?_
          rintro e w1 ⟨rfl, rfl⟩
          go_wp2_with fail
          refine (HDC.out _).mono ?_
          rintro e w1 ⟨rfl, hg1⟩
          have HG1 := Lib.hid (HG.out.step hg1)
          clear hg1 HDC HLB
          generalize Lib.decDigits M = DM at *
          go_wp2_with fail
          go_loop [3] (fun s => ∃ z : Nat, s = .string (str (List.replicate z 48 ++ Lib.decDigits N))) (fun s => strLen s)
          case atStart => exact ⟨0, by first | rfl | (rw [List.replicate_zero, List.nil_append])⟩
          case round =>
            obtain ⟨z, rfl⟩ := hrel
            rcases z with _ | z
            · rw [List.replicate_zero, List.nil_append]
              by_cases h1 : (Lib.decDigits N).length = 1
              · have hsz : (str (Lib.decDigits N)).size = 1 := by rw [str_size]; exact h1
                have d3 : decide ((1 : Int) < 1) = false := by decide
                clear h1
                go_wp2_with fail
                go_ret
                exact ⟨rfl, HG1.out⟩
              · have hN : ¬ N < 10 := fun hc => h1 (by rw [dd_one hc]; rfl)
                obtain ⟨c, l, e, hc⟩ := dd_lead (n := N) (by omega)
                have HE := Lib.hid e
                rw [e] at h1 ⊢
                have h0 : 0 < (str (c :: l)).size := by rw [str_size]; simp
                obtain ⟨q1, q2, q3⟩ := str_cons c l h0
                have hs1 : 1 < (str (c :: l)).size := by rw [q1]; rw [List.length_cons] at h1; have : l ≠ [] := fun hl => h1 (by rw [hl]; rfl); have := List.length_pos_iff.2 this; omega
                have d3 : ((((str (c :: l))[0]'h0).toNat : Int) == 48) = false := by
                  rw [q2, beq_eq_false_iff_ne]
                  intro hh
                  rw [beq_eq_false_iff_ne] at hc
                  exact hc (UInt8.toNat_inj.1 (by show c.toNat = 48; omega))
                clear q1 q2 q3 h1 hc e
                have HE2 := Lib.hid (show Ending.returned (.string (str (c :: l))) = Ending.returned (.string (str (Lib.decDigits N))) by rw [HE.out])
                generalize str (c :: l) = s at *
                go_wp2_with fail
                go_ret
                exact ⟨HE2.out, HG1.out⟩
            · rw [List.replicate_succ, List.cons_append]
              have hpos : 0 < (List.replicate z (48 : UInt8) ++ Lib.decDigits N).length := by
                rw [List.length_append, Lib.decDigits_length]; have := Lib.nDigits_pos N; omega
              have h0 : 0 < (str (48 :: (List.replicate z (48 : UInt8) ++ Lib.decDigits N))).size := by rw [str_size]; simp
              obtain ⟨q1, q2, q3⟩ := str_cons 48 _ h0
              have hs1 : 1 < (str (48 :: (List.replicate z (48 : UInt8) ++ Lib.decDigits N))).size := by rw [q1]; omega
              have d3 : ((((str (48 :: (List.replicate z (48 : UInt8) ++ Lib.decDigits N)))[0]'h0).toNat : Int) == 48) = true := by rw [q2]; rfl
              have HQ3 := Lib.hid q3
              clear q1 q2 q3 hpos
              generalize str (48 :: (List.replicate z (48 : UInt8) ++ Lib.decDigits N)) = s at *
              go_wp2_with fail
              refine ⟨⟨z, by rw [HQ3.out]⟩, ?_⟩
              simp only [strLen, ByteArray.size_extract]
              omega
        · have hNlt : N < 10 ^ (9 * j) := by
            have := HM.out
            rw [hM0] at this
            rcases Nat.lt_or_ge N (10 ^ (9 * j)) with h | h
            · exact h
            · have := Nat.div_pos h (Nat.pow_pos (by omega)); omega
          have hP := (pd_digits (9 * j) N hNlt (by omega)).2
          have HP := Lib.hid (HT.out.trans hP)
          have hT1 : T ≠ [] := fun h => by have := HTL.out; rw [h] at this; simp at this; omega
          have t0 : (str T).toList.isEmpty = false := by
            rw [Lib.toList_data, str_data]
            cases hq : T with
            | nil => exact absurd hq hT1
            | cons => rfl
          have t1 : ¬ (str T).toList = [] := by rw [Lib.toList_data, str_data]; exact hT1
          have HADD : ∀ W, (Op.stringOp .add ⟨#[]⟩ (str T)).run Tryz.prog W = .ok (.string (str T)) W := fun W => add_str [] T (by have := HTL.out; rw [List.length_nil]; omega) W
          have HST := Lib.hid (show str T = str (List.replicate (9 * j - Lib.nDigits N) 48 ++ Lib.decDigits N) by rw [HP.out])
          rw [HST.out] at HADD t0 t1 ⊢
          clear hM0 hj0 hT1 hP hNlt HST
          generalize 9 * j - Lib.nDigits N = z0 at *
          go_wp2_with fail
          refine HLB.out.mono ?_
          rintro e w1 ⟨rfl, rfl⟩
          go_wp2_with fail
          refine (HDC.out _).mono ?_
          rintro e w1 ⟨rfl, hg1⟩
          have HG1 := Lib.hid (HG.out.step hg1)
          clear hg1 HDC HLB
          generalize Lib.decDigits M = DM at *
          go_wp2_with fail
          go_loop [3] (fun s => ∃ z : Nat, s = .string (str (List.replicate z 48 ++ Lib.decDigits N))) (fun s => strLen s)
          case atStart => exact ⟨z0, by first | rfl | (rw [List.replicate_zero, List.nil_append])⟩
          case round =>
            obtain ⟨z, rfl⟩ := hrel
            rcases z with _ | z
            · rw [List.replicate_zero, List.nil_append]
              by_cases h1 : (Lib.decDigits N).length = 1
              · have hsz : (str (Lib.decDigits N)).size = 1 := by rw [str_size]; exact h1
                have d3 : decide ((1 : Int) < 1) = false := by decide
                clear h1
                go_wp2_with fail
                go_ret
                exact ⟨rfl, HG1.out⟩
              · have hN : ¬ N < 10 := fun hc => h1 (by rw [dd_one hc]; rfl)
                obtain ⟨c, l, e, hc⟩ := dd_lead (n := N) (by omega)
                have HE := Lib.hid e
                rw [e] at h1 ⊢
                have h0 : 0 < (str (c :: l)).size := by rw [str_size]; simp
                obtain ⟨q1, q2, q3⟩ := str_cons c l h0
                have hs1 : 1 < (str (c :: l)).size := by rw [q1]; rw [List.length_cons] at h1; have : l ≠ [] := fun hl => h1 (by rw [hl]; rfl); have := List.length_pos_iff.2 this; omega
                have d3 : ((((str (c :: l))[0]'h0).toNat : Int) == 48) = false := by
                  rw [q2, beq_eq_false_iff_ne]
                  intro hh
                  rw [beq_eq_false_iff_ne] at hc
                  exact hc (UInt8.toNat_inj.1 (by show c.toNat = 48; omega))
                clear q1 q2 q3 h1 hc e
                have HE2 := Lib.hid (show Ending.returned (.string (str (c :: l))) = Ending.returned (.string (str (Lib.decDigits N))) by rw [HE.out])
                generalize str (c :: l) = s at *
                go_wp2_with fail
                go_ret
                exact ⟨HE2.out, HG1.out⟩
            · rw [List.replicate_succ, List.cons_append]
              have hpos : 0 < (List.replicate z (48 : UInt8) ++ Lib.decDigits N).length := by
                rw [List.length_append, Lib.decDigits_length]; have := Lib.nDigits_pos N; omega
              have h0 : 0 < (str (48 :: (List.replicate z (48 : UInt8) ++ Lib.decDigits N))).size := by rw [str_size]; simp
              obtain ⟨q1, q2, q3⟩ := str_cons 48 _ h0
              have hs1 : 1 < (str (48 :: (List.replicate z (48 : UInt8) ++ Lib.decDigits N))).size := by rw [q1]; omega
              have d3 : ((((str (48 :: (List.replicate z (48 : UInt8) ++ Lib.decDigits N)))[0]'h0).toNat : Int) == 48) = true := by rw [q2]; rfl
              have HQ3 := Lib.hid q3
              clear q1 q2 q3 hpos
              generalize str (48 :: (List.replicate z (48 : UInt8) ++ Lib.decDigits N)) = s at *
              go_wp2_with fail
              refine ⟨⟨z, by rw [HQ3.out]⟩, ?_⟩
              simp only [strLen, ByteArray.size_extract]
              omega
      · have dl : (((nd M).length : Int) == 0) = false := by rw [beq_eq_false_iff_ne, nd_pos (by omega), List.length_cons]; omega
        have HS := Lib.hid (show Lib.decDigits M ++ T = List.replicate 0 48 ++ Lib.decDigits N by
          rw [List.replicate_zero, List.nil_append, dd_split (9 * j) N (by rw [← HM.out]; omega), ← HM.out, HT.out])
        have HADD := add_str (Lib.decDigits M) T (by have := HTL.out; omega)
        rw [HS.out] at HADD
        clear hM0
        go_wp2_with fail
        refine HLB.out.mono ?_
        rintro e w1 ⟨rfl, rfl⟩
        go_wp2_with fail
        refine (HDC.out _).mono ?_
        rintro e w1 ⟨rfl, hg1⟩
        have HG1 := Lib.hid (HG.out.step hg1)
        clear hg1 HDC HLB
        generalize Lib.decDigits M = DM at *
        go_wp2_with fail
        go_loop [3] (fun s => ∃ z : Nat, s = .string (str (List.replicate z 48 ++ Lib.decDigits N))) (fun s => strLen s)
        case atStart => exact ⟨0, by first | rfl | (rw [List.replicate_zero, List.nil_append])⟩
        case round =>
          obtain ⟨z, rfl⟩ := hrel
          rcases z with _ | z
          · rw [List.replicate_zero, List.nil_append]
            by_cases h1 : (Lib.decDigits N).length = 1
            · have hsz : (str (Lib.decDigits N)).size = 1 := by rw [str_size]; exact h1
              have d3 : decide ((1 : Int) < 1) = false := by decide
              clear h1
              go_wp2_with fail
              go_ret
              exact ⟨rfl, HG1.out⟩
            · have hN : ¬ N < 10 := fun hc => h1 (by rw [dd_one hc]; rfl)
              obtain ⟨c, l, e, hc⟩ := dd_lead (n := N) (by omega)
              have HE := Lib.hid e
              rw [e] at h1 ⊢
              have h0 : 0 < (str (c :: l)).size := by rw [str_size]; simp
              obtain ⟨q1, q2, q3⟩ := str_cons c l h0
              have hs1 : 1 < (str (c :: l)).size := by rw [q1]; rw [List.length_cons] at h1; have : l ≠ [] := fun hl => h1 (by rw [hl]; rfl); have := List.length_pos_iff.2 this; omega
              have d3 : ((((str (c :: l))[0]'h0).toNat : Int) == 48) = false := by
                rw [q2, beq_eq_false_iff_ne]
                intro hh
                rw [beq_eq_false_iff_ne] at hc
                exact hc (UInt8.toNat_inj.1 (by show c.toNat = 48; omega))
              clear q1 q2 q3 h1 hc e
              have HE2 := Lib.hid (show Ending.returned (.string (str (c :: l))) = Ending.returned (.string (str (Lib.decDigits N))) by rw [HE.out])
              generalize str (c :: l) = s at *
              go_wp2_with fail
              go_ret
              exact ⟨HE2.out, HG1.out⟩
          · rw [List.replicate_succ, List.cons_append]
            have hpos : 0 < (List.replicate z (48 : UInt8) ++ Lib.decDigits N).length := by
              rw [List.length_append, Lib.decDigits_length]; have := Lib.nDigits_pos N; omega
            have h0 : 0 < (str (48 :: (List.replicate z (48 : UInt8) ++ Lib.decDigits N))).size := by rw [str_size]; simp
            obtain ⟨q1, q2, q3⟩ := str_cons 48 _ h0
            have hs1 : 1 < (str (48 :: (List.replicate z (48 : UInt8) ++ Lib.decDigits N))).size := by rw [q1]; omega
            have d3 : ((((str (48 :: (List.replicate z (48 : UInt8) ++ Lib.decDigits N)))[0]'h0).toNat : Int) == 48) = true := by rw [q2]; rfl
            have HQ3 := Lib.hid q3
            clear q1 q2 q3 hpos
            generalize str (48 :: (List.replicate z (48 : UInt8) ++ Lib.decDigits N)) = s at *
            go_wp2_with fail
            refine ⟨⟨z, by rw [HQ3.out]⟩, ?_⟩
            simp only [strLen, ByteArray.size_extract]
            omega
end Go.Proofs.YtjpjnbgfodlkcaaGreatDoor
