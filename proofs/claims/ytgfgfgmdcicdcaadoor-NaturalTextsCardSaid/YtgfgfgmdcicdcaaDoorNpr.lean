/- Parse. -/
import Derived.Test.YtgfgfgmdcicdcaaDoorNti
import Derived.Test.YtgfgfgmdcicdcaaDoorNsc
import Derived.Lib.SmallJoins
import Derived.WalkKit
import Derived.WalkSpells
import Derived.WalkLawsBesides
import Derived.WalkSmall
import Derived.Handy
import Derived.BigQuiet
import Derived.Deep.QuietTactic
import Derived.Deep.RegionHeld3
import Derived.Deep.DeepFit
import Derived.Below
import Derived.Lib.Hide
import Derived.Lib.QuietBelow
import Derived.Deep.DeepCutAuto
namespace Go.Proofs.YtgfgfgmdcicdcaaDoor
open Go Go.RowKit Go.Sort
set_option maxRecDepth 100000
theorem atoi_any (l : List UInt8) (w : World) (h : digs l) (h0 : 0 < l.length) (h1 : l.length ≤ 9) :
    Calls Tryd.prog 23 #[.string (str l)] w fun e w' => e = .returned (.tuple #[.int .i64 (nval l : Nat), .nilIface]) ∧ Gr w w' := by
  refine (Tryd.strconv_Atoi (str l) (nval l : Nat) (by rw [str_size]; omega) (by rw [str_data]; exact atoi_digs h (by intro e; subst e; simp at h0)) w).mono fun e w' ⟨he, t, hw⟩ => ⟨he, ?_⟩
  rw [hw]
  exact Go.Joins.below_bytesWorld _ _ _ _ (Nat.le_refl _)
theorem scale_int (f : Int) (F c : Nat) {N : Nat} (v : Value) (w : World) (hf : f = F) (hn : Num w v N) (hl : (nd N).length ≤ 100000) (hF : F < 1073741824) (hc : c < 1073741824) :
    Calls Tryd.prog 24 #[v, .int .i64 f, .int .i64 (c : Nat)] w (ScPost w (c + F * N)) := by
  subst hf
  have := scale_any v (nd N) F c w hn (lim_nd N) hl hF hc
  rwa [nv_nd] at this
theorem group_len {N c k : Nat} (h : (nd N).length ≤ k) (hc : c < 1000000000) : (nd (c + 1000000000 * N)).length ≤ k + 1 := by
  rw [nd_len] at *
  rw [bp_succ]
  omega
theorem digs_take {l : List UInt8} (h : digs l) (k : Nat) : digs (l.take k) := fun c hc => h c (List.mem_of_mem_take hc)
theorem digs_drop {l : List UInt8} (h : digs l) (k : Nat) : digs (l.drop k) := fun c hc => h c (List.mem_of_mem_drop hc)
def slen (v : Value) : Nat := match v with
  | .string s => s.size
  | _ => 0
def PrRel (w : World) (T V : Nat) (s v : Value) (wr : World) : Prop :=
  ∃ (l : List UInt8) (N : Nat), s = .string (str l) ∧ digs l ∧ (nd N).length + l.length ≤ T ∧ Num wr v N ∧ N * 10 ^ l.length + nval l = V ∧ (N = 0 ∨ l.length % 9 = 0) ∧ Gr w wr
/-- one group of digits more -/
theorem pr_step {N V m : Nat} {l : List UInt8} (h : N * 10 ^ l.length + nval l = V) (hm : m ≤ l.length) (hz : N = 0 ∨ m = 9) :
    (nval (l.take m) + 1000000000 * N) * 10 ^ (l.drop m).length + nval (l.drop m) = V := by
  have e : nval l = nval (l.take m) * 10 ^ (l.drop m).length + nval (l.drop m) := by rw [← nval_append, List.take_append_drop]
  have hp : 10 ^ l.length = 10 ^ m * 10 ^ (l.drop m).length := by rw [← Nat.pow_add, List.length_drop]; congr 1; omega
  rw [e, hp] at h
  generalize 10 ^ (l.drop m).length = P at *
  rcases hz with rfl | rfl
  · rw [← h]; simp
  · rw [← h, Nat.add_mul, show (10 : Nat) ^ 9 = 1000000000 from rfl, ← Nat.mul_assoc, Nat.mul_comm N]; omega
set_option maxHeartbeats 1000000 in
theorem parse_ok (l : List UInt8) (w : World) (hd : digs l) (hl : l.length ≤ 2400) (hT : ∀ w, Calls Tryd.prog 22 #[.string (str l)] w fun e w' => e = .returned (.bool true) ∧ w = w') :
    Calls Tryd.prog 8 #[.string (str l)] w (Res w (nval l)) := by
  have HT := Lib.hid hT
  have sz : (str l).size = l.length := str_size l
  have hl1 : (l.length : Int) ≤ 2400 := by omega
  clear hT
  go_enter Tryd.func8, Tryd.ntmps8
  go_wp2_with fail
  refine (HT.out _).mono ?_
  rintro e w' ⟨rfl, rfl⟩
  go_wp2_with fail
  go_loopw [0, 4] (fun s v wr => PrRel w l.length (nval l) s v wr) (fun s _ _ => slen s)
  case atStart => exact ⟨l, 0, rfl, hd, by rw [nd_zero]; simp, Num.nil _, by simp, .inl rfl, Gr.refl _⟩
  case round =>
    obtain ⟨r, N, rfl, hr, hT2, hn, hv, hz, hg⟩ := hrel
    clear sz
    have sz : (str r).size = r.length := str_size r
    have HV := Lib.hid hv
    have HZ := Lib.hid hz
    have HR := Lib.hid hr
    have HN := Lib.hid hn
    have HT2 := Lib.hid hT2
    have hrl : (r.length : Int) ≤ 2400 := by omega
    have hnl : (nd N).length ≤ 2400 := by omega
    clear hv hz hr hn hT2
    by_cases h0 : 0 < r.length
    · obtain ⟨m, hm⟩ : ∃ m, m = (r.length - 1) % 9 + 1 := ⟨_, rfl⟩
      have e1 : ((r.length : Int) - 1) % 9 + 1 = (m : Int) := by omega
      have m9 : m ≤ 9 := by omega
      have m0 : 0 < m := by omega
      have mr : m ≤ r.length := by omega
      have HM := Lib.hid hm
      clear hm
      have m9' : (m : Int) ≤ 9 := by omega
      have mr' : (m : Int) ≤ (r.length : Int) := by omega
      have m0' : (0 : Int) ≤ (m : Int) := by omega
      have x1 : (str r).extract 0 m = str (r.take m) := by rw [str_ext, str_data]; simp
      have x2 : (str r).extract m r.length = str (r.drop m) := by rw [str_ext, str_data, List.take_of_length_le (by simp)]
      have htl : (r.take m).length = m := by rw [List.length_take]; omega
      have hc : nval (r.take m) < 1000000000 := by
        have := nval_lt (digs_take HR.out m)
        rw [htl] at this
        exact Nat.lt_of_lt_of_le this (Nat.pow_le_pow_right (n := 10) (by omega) m9)
      have HTL := Lib.hid htl
      have HC := Lib.hid hc
      clear htl hc
      go_wp2_with fail
      refine (atoi_any (r.take m) _ (digs_take HR.out m) (by rw [HTL.out]; exact m0) (by rw [HTL.out]; exact m9)).mono ?_
      rintro e w2 ⟨rfl, hg2⟩
      go_wp2_with fail
      refine (scale_int 1000000000 1000000000 (nval (r.take m)) _ _ rfl (HN.out.gr hg2) (by omega) (by omega) (by have := HC.out; omega)).mono ?_
      rintro e w3 ⟨v3, rfl, hn3, hg3⟩
      have HN3 := Lib.hid hn3.num
      clear hn3
      go_wp2_with fail
      have hdl : (r.drop m).length = r.length - m := List.length_drop
      refine ⟨⟨r.drop m, _, rfl, digs_drop HR.out m, ?_, HN3.out, ?_, .inr ?_, (hg.step hg2).step hg3⟩, ?_⟩
      · have := group_len (Nat.le_refl _) HC.out (N := N)
        have := HT2.out
        omega
      · refine pr_step HV.out mr (HZ.out.imp id fun h => ?_)
        have := HM.out; omega
      · have := HM.out; omega
      · show (str (r.drop m)).size < (str r).size
        rw [str_size, str_size]; omega
    · obtain rfl : r = [] := List.length_eq_zero_iff.1 (by omega)
      have hv := HV.out
      rw [List.length_nil, Nat.pow_zero, Nat.mul_one, show nval [] = 0 from rfl, Nat.add_zero] at hv
      have hF := num_fit HN.out hg
      rw [hv] at hF
      have HF := Lib.hid hF
      clear hv hF
      go_wp2_with fail
      refine HF.out.mono ?_
      rintro e w' ⟨v, er, rfl, hres, hg⟩
      go_wp2_with fail
      go_ret2
      exact ⟨v, er, rfl, hres, hg⟩
end Go.Proofs.YtgfgfgmdcicdcaaDoor
