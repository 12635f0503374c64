/- Several texts in one. -/
import Derived.Test.YtjpjnbgfodlkcaaGreatDoorGAO
import Derived.WalkKit
import Derived.WalkSpells
import Derived.WalkLawsBesides
import Derived.WalkSmall
import Derived.Handy
import Derived.BigQuiet
import Derived.Deep.QuietTactic
import Derived.Deep.RegionHeld3
import Derived.Deep.DeepFit
import Derived.Below
import Derived.Lib.Hide
import Derived.Lib.QuietBelow
import Derived.Test.YtjpjnbgfodlkcaaGreatDoorGAD
import Derived.Deep.DeepCutAuto
import Derived.Lib.SmallJoins
/- isText. -/
namespace Go.Proofs.YtjpjnbgfodlkcaaGreatDoor
open Go Go.RowKit Go.Sort
set_option maxRecDepth 100000
set_option linter.unusedVariables false
theorem isText_yes (s : ByteArray) (w : World) (hd : digs s.data.toList) (h0 : 0 < s.size) (hs : s.size ≤ 9223372036854775807) (hl : (s[0].toNat : Int) ≠ 48) :
    Calls Tryz.prog 92 #[.string s] w fun e w' => e = .returned (.bool true) ∧ w = w' := by
  have t0 : s.toList.isEmpty = false := by
    rw [Lib.toList_data]
    cases h : s.data.toList with
    | nil => have := Lib.size_eq s; rw [h, List.length_nil] at this; omega
    | cons => rfl
  have d0 : ((s[0].toNat : Int) == 48) = false := by simpa using hl
  have HD := Lib.hid hd
  clear hd hl
  go_enter Tryz.func92, Tryz.ntmps92
  go_wp2
  go_loop [17] (fun i => ∃ k : Nat, k ≤ s.size ∧ i = .int .i64 k) (fun i => s.size - (intOf i).toNat)
  case atStart => exact ⟨0, Nat.zero_le _, rfl⟩
  case round =>
    obtain ⟨k, hk, rfl⟩ := hrel
    by_cases hlt : k < s.size
    · have hdk := HD.out s[k] (by
        have hL := Lib.size_eq s
        have e : s.data.toList[k]'(by omega) = s[k] := rfl
        rw [← e]; exact List.getElem_mem _)
      have u0 : 48 ≤ (s[k].toNat : Int) := by omega
      have u1 : (s[k].toNat : Int) ≤ 57 := by omega
      clear hdk
      go_wp2
      go_round
      case rel => exact ⟨k + 1, by omega, by go_num⟩
      case measure => simp [intOf]; omega
    · go_wp2
      go_ret
      exact ⟨rfl, rfl⟩
theorem isText_lead (s : ByteArray) (w : World) (h0 : 1 < s.size) (hs : s.size ≤ 9223372036854775807) (hl : (s[0].toNat : Int) = 48) :
    Calls Tryz.prog 92 #[.string s] w fun e w' => e = .returned (.bool false) ∧ w = w' := by
  have t0 : s.toList.isEmpty = false := by
    rw [Lib.toList_data]
    cases h : s.data.toList with
    | nil => have := Lib.size_eq s; rw [h, List.length_nil] at this; omega
    | cons => rfl
  have t1 : (s.toList == [48]) = false := by
    rw [beq_eq_false_iff_ne, Lib.toList_data]; intro e
    have := Lib.size_eq s
    rw [e] at this
    simp at this; omega
  have d0 : ((s[0].toNat : Int) == 48) = true := by simpa using hl
  clear hl
  go_enter Tryz.func92, Tryz.ntmps92
  go_wp2
  go_ret
  exact ⟨rfl, rfl⟩
theorem isText_nought (s : ByteArray) (w : World) (hl : s.data.toList = [48]) :
    Calls Tryz.prog 92 #[.string s] w fun e w' => e = .returned (.bool true) ∧ w = w' := by
  have h1 : s.size = 1 := by rw [Lib.size_eq, hl]; rfl
  have h0 : 0 < s.size := by omega
  have t0 : s.toList.isEmpty = false := by rw [Lib.toList_data, hl]; rfl
  have t1 : (s.toList == [48]) = true := by rw [Lib.toList_data, hl]; rfl
  have HD := Lib.hid (show digs s.data.toList by rw [hl]; intro c hc; rw [List.mem_singleton] at hc; subst hc; decide)
  have hs0 : (s[0].toNat : Int) = 48 := by
    have e : s.data.toList[0]'(by rw [hl]; simp) = s[0] := rfl
    rw [← e]; simp [hl]
  have d0 : ((s[0].toNat : Int) == 48) = true := by simpa using hs0
  clear hl
  go_enter Tryz.func92, Tryz.ntmps92
  go_wp2
  go_loop [17] (fun i => ∃ k : Nat, k ≤ s.size ∧ i = .int .i64 k) (fun i => s.size - (intOf i).toNat)
  case atStart => exact ⟨0, Nat.zero_le _, rfl⟩
  case round =>
    obtain ⟨k, hk, rfl⟩ := hrel
    by_cases hlt : k < s.size
    · have hdk := HD.out s[k] (by
        have hL := Lib.size_eq s
        have e : s.data.toList[k]'(by omega) = s[k] := rfl
        rw [← e]; exact List.getElem_mem _)
      have u0 : 48 ≤ (s[k].toNat : Int) := by omega
      have u1 : (s[k].toNat : Int) ≤ 57 := by omega
      clear hdk
      go_wp2
      go_round
      case rel => exact ⟨k + 1, by omega, by go_num⟩
      case measure => simp [intOf]; omega
    · go_wp2
      go_ret
      exact ⟨rfl, rfl⟩
end Go.Proofs.YtjpjnbgfodlkcaaGreatDoor
/- scale. -/
namespace Go.Proofs.YtjpjnbgfodlkcaaGreatDoor
open Go Go.RowKit Go.Sort
set_option maxRecDepth 100000
set_option linter.unusedVariables false

/-- a number in a block of the call's own, that can be written -/
def NumW (w : World) (base : Nat) (v : Value) (N : Nat) : Prop := ∃ g cap : Nat, v = .slice (some ⟨g, 0, none⟩) (nd N).length cap ∧ base ≤ g ∧ (nd N).length ≤ cap ∧ cap ≤ 9223372036854775807 ∧ Arr w g 0 (nd N)
theorem NumW.num {w : World} {base : Nat} {v : Value} {N : Nat} (h : NumW w base v N) : Num w v N := by
  obtain ⟨g, cap, rfl, -, hc, hm, ha⟩ := h
  exact ha.rd hc hm trivial
theorem NumW.rd {w : World} {base : Nat} {v : Value} {N : Nat} (h : NumW w base v N) : Rd (fun b => base ≤ b) w v (nd N) := by
  obtain ⟨g, cap, rfl, hb, hc, hm, ha⟩ := h
  exact ha.rd hc hm hb
theorem NumW.gr {w w' : World} {base : Nat} {v : Value} {N : Nat} (h : NumW w base v N) (g : Gr w w') : NumW w' base v N := by
  obtain ⟨k, cap, rfl, hb, hc, hm, ha⟩ := h
  exact ⟨k, cap, rfl, hb, hc, hm, ha.gr g⟩
def ScPost (w : World) (N : Nat) (e : Ending) (w' : World) : Prop := ∃ v, e = .returned v ∧ NumW w' w.heap.size v N ∧ Gr w w'
def ScRel (w : World) (l : List Nat) (f c0 : Nat) (s cv v : Value) (wr : World) : Prop :=
  ∃ (k c : Nat) (o : List Nat), s = .int .i64 k ∧ k ≤ l.length ∧ cv = .int .i64 c ∧ c < 1073741824 ∧ o.length = k ∧ Lim o ∧ nv o + c * 1073741824 ^ k = c0 + f * nv (l.take k) ∧ Own wr w.heap.size v o ∧ v ≠ .slice none 0 0 ∧ Gr w wr
set_option maxHeartbeats 1000000 in
theorem scale_any {p : Nat → Prop} (v : Value) (l : List Nat) (f c0 : Nat) (w : World) (h : Rd p w v l) (hL : Lim l) (hl : l.length ≤ 100000) (hf : f < 1073741824) (hc : c0 < 1073741824) :
    Calls Tryz.prog 94 #[v, .int .i64 f, .int .i64 c0] w (ScPost w (c0 + f * nv l)) := by
  obtain ⟨a, cap, rfl, hcap, hcap2, H⟩ := h
  have HH := Lib.hid H
  have HL := Lib.hid hL
  clear H hL
  obtain ⟨ti, hi1, hi2, hi3, hi4⟩ := intInfo
  go_enter Tryz.func94, Tryz.ntmps94
  go_wp2_with (refine wpList_make_own _ rfl _ _ 24 rfl w.heap.size 3 ti (.int .i64 0) 1 Tryz.underlying24 hi1 hi2 hi3 .i64 .i64 _ (l.length + 1) rfl rfl (by simp) (by rw [hi4]; omega) (by unfold maxLen; omega) (Nat.le_refl _) ?_; intro w1 hown1 hgrow1)
  have hG1 : Gr w w1 := Gr.grown (Gr.refl _) hgrow1 (fun k hk => by cases hk)
  have HO : Own w1 w.heap.size (.slice (some ⟨w.heap.size, 0, none⟩) 0 (l.length + 1)) [] := hown1
  have HO := Lib.hid HO
  clear hown1 hgrow1
  go_wp2_with fail
  go_loopw [15, 2, 7] (fun s cv v wr => ScRel w l f c0 s cv v wr) (fun s _ _ _ => l.length - (intOf s).toNat)
  case atStart => exact ⟨0, c0, [], rfl, Nat.zero_le _, rfl, hc, rfl, lim_nil, by simp [nv], HO.out, (fun h => by cases h), hG1⟩
  case round =>
    obtain ⟨k, c, o, rfl, hk, rfl, hc1, ho, hoL, hv, hown, hne, hgr⟩ := hrel
    have HV := Lib.hid hv
    have HO2 := Lib.hid ho
    have HNE := Lib.hid hne
    clear hv ho hne
    have hown0 := hown
    unfold Own at hown
    have kz : o.length ≤ 100000 := by rw [HO2.out]; omega
    by_cases hlt : k < l.length
    · obtain ⟨b, off, rfl, -, hcell⟩ := HH.out k hlt
      have hcell2 : wr.cell? ⟨b, off + k, none⟩ = some (.int .i64 (l.getD k 0 : Nat)) := by rw [(Gr.cells hgr).1 _ _ (World.block_lt_of_cell? _ _ hcell)]; exact hcell
      have hx := lim_getD HL.out k
      obtain ⟨b1, b2⟩ := scale_bound hc1 hf hx
      have HS := Lib.hid (scale_step (x := l.getD k 0) HV.out)
      have HT := Lib.hid (take_split' l k)
      generalize l.getD k 0 = x at *
      clear hcell
      obtain ⟨z, hz⟩ : ∃ z : Nat, z = f * x := ⟨_, rfl⟩
      rw [← hz] at b1 b2
      have m1 : IntKind.i64.wrap ((f : Int) * (x : Int)) = (z : Int) := by
        rw [hz, Int.natCast_mul]; refine IntWalk.i64_in _ ?_
        rw [show (f : Int) * (x : Int) = ((f * x : Nat) : Int) by simp, ← hz]; omega
      have z1 : (z : Int) ≤ 1152921502459363329 := by omega
      have c1 : (c : Int) < 1073741824 := by omega
      have HZ := Lib.hid hz
      obtain ⟨d, hd⟩ : ∃ d : Nat, d = (c + z) % 1073741824 := ⟨_, rfl⟩
      have ha : bits .and .i64 ((c : Int) + (z : Int)) 1073741823 = (d : Int) := by rw [and30]; omega
      have HD := Lib.hid hd
      clear hz hd
      go_wp2_with (at_builtin; refine wpList_append_own_at _ rfl _ _ 24 rfl w.heap.size 3 ti (.int .i64 0) 1 8 Tryz.underlying24 hi1 hi2 hi3 hi4 rfl (by decide) _ _ _ rfl (hown.alloc _) ⟨wr.heap.size, 0, none⟩ 1 1 [.int .i64 d] rfl rfl (cell_one_new _ _ _) (by simp [Value.oneCell']) (by unfold maxLen; omega) (by omega) (by have := Gr.size hgr; simp; omega) ?_; intro v' w2 hown2 hgrow hnil hloc)
      refine ⟨⟨k + 1, (c + z) / 1073741824, o ++ [d], by go_num, by omega, by first | rfl | (congr 1), by omega, by simp [HO2.out], lim_append.2 ⟨hoL, lim_cons.2 ⟨by rw [HD.out]; omega, lim_nil⟩⟩, ?_, ?_, (fun h => by have := (hnil.1 h).2; omega), ?_⟩, by simp only [intOf]; omega⟩
      · have hs := HS.out
        rw [← HZ.out, ← HD.out] at hs
        rw [nv_append, HO2.out, HT.out, bp_succ]
        simpa [nv] using hs
      · unfold Own
        rw [List.length_append, List.map_append]
        exact hown2
      · exact Gr.grown (by repeat' (first | (with_reducible exact Gr.refl _) | (with_reducible assumption) | (with_reducible refine Gr.drewN ?_ _) | (with_reducible refine Gr.drew ?_) | (with_reducible refine Gr.alloc ?_ _) | (with_reducible refine Gr.setCell ?_ ?_ _) | (with_reducible refine Gr.grow ?_ _ _) | (refine Gr.step ?_ (by with_reducible assumption)) | go_size)) hgrow (fun k hk => (hown.lt k hk).1)
    · obtain rfl : k = l.length := by omega
      have hN : nv o + 1073741824 ^ l.length * c = c0 + f * nv l := by
        have := HV.out
        rw [List.take_of_length_le (Nat.le_refl _), Nat.mul_comm c] at this; exact this
      have HN := Lib.hid hN
      clear hN
      go_wp2_with (at_builtin; refine wpList_append_own_at _ rfl _ _ 24 rfl w.heap.size 3 ti (.int .i64 0) 1 8 Tryz.underlying24 hi1 hi2 hi3 hi4 rfl (by decide) _ _ _ rfl (hown.alloc _) ⟨wr.heap.size, 0, none⟩ 1 1 [.int .i64 c] rfl rfl (cell_one_new _ _ _) (by simp [Value.oneCell']) (by unfold maxLen; omega) (by omega) (by have := Gr.size hgr; simp; omega) ?_; intro v' w2 hown2 hgrow hnil hloc)
      have hG2 : Gr w w2 := Gr.grown (by repeat' (first | (with_reducible exact Gr.refl _) | (with_reducible assumption) | (with_reducible refine Gr.drewN ?_ _) | (with_reducible refine Gr.drew ?_) | (with_reducible refine Gr.alloc ?_ _) | (with_reducible refine Gr.setCell ?_ ?_ _) | (with_reducible refine Gr.grow ?_ _ _) | (refine Gr.step ?_ (by with_reducible assumption)) | go_size)) hgrow (fun k hk => (hown.lt k hk).1)
      have hown3 : Own w2 w.heap.size v' (o ++ [c]) := by
        unfold Own
        rw [List.length_append, List.map_append]
        exact hown2
      have hLn : Lim (o ++ [c]) := lim_append.2 ⟨hoL, lim_cons.2 ⟨hc1, lim_nil⟩⟩
      have hnv : nv (o ++ [c]) = c0 + f * nv l := by rw [nv_append, HO2.out, ← HN.out]; simp [nv]
      clear hown2 hgrow hnil hloc
      rcases hown3.is with ⟨rfl, hz⟩ | ⟨g, cap', rfl, hb, hcap3, hcap4, harr, -⟩
      · simp at hz
      · have HT := Lib.hid (trim_at w2 (harr.rd (p := fun _ => True) hcap3 hcap4 trivial) hLn)
        have hle := nd_nv_le hLn
        have htk := nd_take hLn
        have harr2 := harr.take (nd (nv (o ++ [c]))).length
        rw [← htk] at harr2
        rw [hnv] at harr2 hle
        have HA := Lib.hid harr2
        have HE := Lib.hid hnv
        clear harr harr2 htk hnv hown3
        refine HT.out.mono ?_
        rintro e w' ⟨rfl, rfl⟩
        rw [HE.out]
        go_wp2_with fail
        go_ret
        exact ⟨_, rfl, ⟨g, cap', rfl, hb, by omega, hcap4, HA.out⟩, hG2⟩
end Go.Proofs.YtjpjnbgfodlkcaaGreatDoor
/- Parse. -/
namespace Go.Proofs.YtjpjnbgfodlkcaaGreatDoor
open Go Go.RowKit Go.Sort
set_option maxRecDepth 100000
set_option linter.unusedVariables false
theorem atoi_any (l : List UInt8) (w : World) (h : digs l) (h0 : 0 < l.length) (h1 : l.length ≤ 9) :
    Calls Tryz.prog 93 #[.string (str l)] w fun e w' => e = .returned (.tuple #[.int .i64 (nval l : Nat), .nilIface]) ∧ Gr w w' := by
  refine (Tryz.strconv_Atoi (str l) (nval l : Nat) (by rw [str_size]; omega) (by rw [str_data]; exact atoi_digs h (by intro e; subst e; simp at h0)) w).mono fun e w' ⟨he, t, hw⟩ => ⟨he, ?_⟩
  rw [hw]
  exact Go.Joins.below_bytesWorld _ _ _ _ (Nat.le_refl _)
theorem scale_int (f : Int) (F c : Nat) {N : Nat} (v : Value) (w : World) (hf : f = F) (hn : Num w v N) (hl : (nd N).length ≤ 100000) (hF : F < 1073741824) (hc : c < 1073741824) :
    Calls Tryz.prog 94 #[v, .int .i64 f, .int .i64 (c : Nat)] w (ScPost w (c + F * N)) := by
  subst hf
  have := scale_any v (nd N) F c w hn (lim_nd N) hl hF hc
  rwa [nv_nd] at this
theorem group_len {N c k : Nat} (h : (nd N).length ≤ k) (hc : c < 1000000000) : (nd (c + 1000000000 * N)).length ≤ k + 1 := by
  rw [nd_len] at *
  rw [bp_succ]
  omega
theorem digs_take {l : List UInt8} (h : digs l) (k : Nat) : digs (l.take k) := fun c hc => h c (List.mem_of_mem_take hc)
theorem digs_drop {l : List UInt8} (h : digs l) (k : Nat) : digs (l.drop k) := fun c hc => h c (List.mem_of_mem_drop hc)
def slen (v : Value) : Nat := match v with
  | .string s => s.size
  | _ => 0
def PrRel (w : World) (T V : Nat) (s v : Value) (wr : World) : Prop :=
  ∃ (l : List UInt8) (N : Nat), s = .string (str l) ∧ digs l ∧ (nd N).length + l.length ≤ T ∧ Num wr v N ∧ N * 10 ^ l.length + nval l = V ∧ (N = 0 ∨ l.length % 9 = 0) ∧ Gr w wr
/-- one group of digits more -/
theorem pr_step {N V m : Nat} {l : List UInt8} (h : N * 10 ^ l.length + nval l = V) (hm : m ≤ l.length) (hz : N = 0 ∨ m = 9) :
    (nval (l.take m) + 1000000000 * N) * 10 ^ (l.drop m).length + nval (l.drop m) = V := by
  have e : nval l = nval (l.take m) * 10 ^ (l.drop m).length + nval (l.drop m) := by rw [← nval_append, List.take_append_drop]
  have hp : 10 ^ l.length = 10 ^ m * 10 ^ (l.drop m).length := by rw [← Nat.pow_add, List.length_drop]; congr 1; omega
  rw [e, hp] at h
  generalize 10 ^ (l.drop m).length = P at *
  rcases hz with rfl | rfl
  · rw [← h]; simp
  · rw [← h, Nat.add_mul, show (10 : Nat) ^ 9 = 1000000000 from rfl, ← Nat.mul_assoc, Nat.mul_comm N]; omega
set_option maxHeartbeats 1000000 in
theorem parse_ok (l : List UInt8) (w : World) (hd : digs l) (hl : l.length ≤ 2400) (hT : ∀ w, Calls Tryz.prog 92 #[.string (str l)] w fun e w' => e = .returned (.bool true) ∧ w = w') :
    Calls Tryz.prog 63 #[.string (str l)] w (Res w (nval l)) := by
  have HT := Lib.hid hT
  have sz : (str l).size = l.length := str_size l
  have hl1 : (l.length : Int) ≤ 2400 := by omega
  clear hT
  go_enter Tryz.func63, Tryz.ntmps63
  go_wp2_with fail
  refine (HT.out _).mono ?_
  rintro e w' ⟨rfl, rfl⟩
  go_wp2_with fail
  go_loopw [0, 4] (fun s v wr => PrRel w l.length (nval l) s v wr) (fun s _ _ => slen s)
  case atStart => exact ⟨l, 0, rfl, hd, by rw [nd_zero]; simp, Num.nil _, by simp, .inl rfl, Gr.refl _⟩
  case round =>
    obtain ⟨r, N, rfl, hr, hT2, hn, hv, hz, hg⟩ := hrel
    clear sz
    have sz : (str r).size = r.length := str_size r
    have HV := Lib.hid hv
    have HZ := Lib.hid hz
    have HR := Lib.hid hr
    have HN := Lib.hid hn
    have HT2 := Lib.hid hT2
    have hrl : (r.length : Int) ≤ 2400 := by omega
    have hnl : (nd N).length ≤ 2400 := by omega
    clear hv hz hr hn hT2
    by_cases h0 : 0 < r.length
    · obtain ⟨m, hm⟩ : ∃ m, m = (r.length - 1) % 9 + 1 := ⟨_, rfl⟩
      have e1 : ((r.length : Int) - 1) % 9 + 1 = (m : Int) := by omega
      have m9 : m ≤ 9 := by omega
      have m0 : 0 < m := by omega
      have mr : m ≤ r.length := by omega
      have HM := Lib.hid hm
      clear hm
      have m9' : (m : Int) ≤ 9 := by omega
      have mr' : (m : Int) ≤ (r.length : Int) := by omega
      have m0' : (0 : Int) ≤ (m : Int) := by omega
      have x1 : (str r).extract 0 m = str (r.take m) := by rw [str_ext, str_data]; simp
      have x2 : (str r).extract m r.length = str (r.drop m) := by rw [str_ext, str_data, List.take_of_length_le (by simp)]
      have htl : (r.take m).length = m := by rw [List.length_take]; omega
      have hc : nval (r.take m) < 1000000000 := by
        have := nval_lt (digs_take HR.out m)
        rw [htl] at this
        exact Nat.lt_of_lt_of_le this (Nat.pow_le_pow_right (n := 10) (by omega) m9)
      have HTL := Lib.hid htl
      have HC := Lib.hid hc
      clear htl hc
      go_wp2_with fail
      refine (atoi_any (r.take m) _ (digs_take HR.out m) (by rw [HTL.out]; exact m0) (by rw [HTL.out]; exact m9)).mono ?_
      rintro e w2 ⟨rfl, hg2⟩
      go_wp2_with fail
      refine (scale_int 1000000000 1000000000 (nval (r.take m)) _ _ rfl (HN.out.gr hg2) (by omega) (by omega) (by have := HC.out; omega)).mono ?_
      rintro e w3 ⟨v3, rfl, hn3, hg3⟩
      have HN3 := Lib.hid hn3.num
      clear hn3
      go_wp2_with fail
      have hdl : (r.drop m).length = r.length - m := List.length_drop
      refine ⟨⟨r.drop m, _, rfl, digs_drop HR.out m, ?_, HN3.out, ?_, .inr ?_, (hg.step hg2).step hg3⟩, ?_⟩
      · have := group_len (Nat.le_refl _) HC.out (N := N)
        have := HT2.out
        omega
      · refine pr_step HV.out mr (HZ.out.imp id fun h => ?_)
        have := HM.out; omega
      · have := HM.out; omega
      · show (str (r.drop m)).size < (str r).size
        rw [str_size, str_size]; omega
    · obtain rfl : r = [] := List.length_eq_zero_iff.1 (by omega)
      have hv := HV.out
      rw [List.length_nil, Nat.pow_zero, Nat.mul_one, show nval [] = 0 from rfl, Nat.add_zero] at hv
      have hF := num_fit HN.out hg
      rw [hv] at hF
      have HF := Lib.hid hF
      clear hv hF
      go_wp2_with fail
      refine HF.out.mono ?_
      rintro e w' ⟨v, er, rfl, hres, hg⟩
      go_wp2_with fail
      go_ret2
      exact ⟨v, er, rfl, hres, hg⟩
end Go.Proofs.YtjpjnbgfodlkcaaGreatDoor
/- Parse of the package natural at any string. -/
namespace Go.Proofs.YtjpjnbgfodlkcaaGreatDoor
open Go Go.RowKit Go.Sort
set_option maxRecDepth 100000
set_option linter.unusedVariables false
/-- what isText answers -/
def txt (l : List UInt8) : Prop := digs l ∧ l ≠ [] ∧ (l = [48] ∨ l.head? ≠ some 48)
instance (l : List UInt8) : Decidable (digs l) := inferInstanceAs (Decidable (∀ c ∈ l, _))
instance (l : List UInt8) : Decidable (txt l) := inferInstanceAs (Decidable (_ ∧ _))
theorem isText_empty (w : World) :
    Calls Tryz.prog 92 #[.string (str [])] w fun e w' => e = .returned (.bool false) ∧ w = w' := by
  have t0 : (str []).toList.isEmpty = true := by rw [Lib.toList_data, str_data]; rfl
  go_enter Tryz.func92, Tryz.ntmps92
  go_wp2
  go_ret
  exact ⟨rfl, rfl⟩
theorem isText_bad (s : ByteArray) (w : World) (h0 : 0 < s.size) (hs : s.size ≤ 9223372036854775807) (hl : (s[0].toNat : Int) ≠ 48) (hb : ¬ digs s.data.toList) :
    Calls Tryz.prog 92 #[.string s] w fun e w' => e = .returned (.bool false) ∧ w = w' := by
  have t0 : s.toList.isEmpty = false := by
    rw [Lib.toList_data]
    cases h : s.data.toList with
    | nil => have := Lib.size_eq s; rw [h, List.length_nil] at this; omega
    | cons => rfl
  have d0 : ((s[0].toNat : Int) == 48) = false := by simpa using hl
  have HB := Lib.hid hb
  clear hl hb
  go_enter Tryz.func92, Tryz.ntmps92
  go_wp2
  go_loop [17] (fun i => ∃ k : Nat, k ≤ s.size ∧ i = .int .i64 k ∧ Hid (∀ j (hj : j < s.size), j < k → 48 ≤ s[j].toNat ∧ s[j].toNat ≤ 57)) (fun i => s.size - (intOf i).toNat)
  case atStart => exact ⟨0, Nat.zero_le _, rfl, Lib.hid (fun j _ hj => absurd hj (Nat.not_lt_zero j))⟩
  case round =>
    obtain ⟨k, hk, rfl, HK⟩ := hrel
    by_cases hlt : k < s.size
    · by_cases hd : 48 ≤ s[k].toNat ∧ s[k].toNat ≤ 57
      · have HK2 := Lib.hid (show ∀ j (hj : j < s.size), j < k + 1 → 48 ≤ s[j].toNat ∧ s[j].toNat ≤ 57 from fun j hj h => by
          rcases Nat.lt_or_eq_of_le (Nat.le_of_lt_succ h) with h | rfl
          · exact HK.out j hj h
          · exact hd)
        have u0 : 48 ≤ (s[k].toNat : Int) := by omega
        have u1 : (s[k].toNat : Int) ≤ 57 := by omega
        clear hd HK
        go_wp2
        go_round
        case rel => exact ⟨k + 1, by omega, by go_num, HK2⟩
        case measure => simp [intOf]; omega
      · clear HK
        by_cases h48 : s[k].toNat < 48
        · have u0 : (s[k].toNat : Int) < 48 := by omega
          clear hd h48
          go_wp2
          go_ret
          exact ⟨rfl, rfl⟩
        · have u0 : ¬ (s[k].toNat : Int) < 48 := by omega
          have u1 : 57 < (s[k].toNat : Int) := by omega
          clear hd h48
          go_wp2
          go_ret
          exact ⟨rfl, rfl⟩
    · exfalso
      refine HB.out fun c hc => ?_
      obtain ⟨j, hj, rfl⟩ := List.getElem_of_mem hc
      have hsz := Lib.size_eq s
      exact HK.out j (by omega) (by omega)
theorem digs_nil : digs [] := fun _ h => by cases h
/-- isText at any text -/
theorem isText_any (l : List UInt8) (w : World) (hl : l.length ≤ 1000000) :
    Calls Tryz.prog 92 #[.string (str l)] w fun e w' => e = .returned (.bool (decide (txt l))) ∧ w = w' := by
  cases hc : l with
  | nil =>
    rw [decide_eq_false (fun h => h.2.1 rfl)]
    exact isText_empty w
  | cons c r =>
    rw [← hc]
    have hsz : (str l).size = l.length := str_size l
    have h0 : 0 < (str l).size := by rw [hsz, hc]; simp
    have e0 : (str l)[0] = c := by
      have e : (str l).data.toList[0]'(by rw [str_data, hc]; simp) = (str l)[0] := rfl
      rw [← e]; simp [str_data, hc]
    by_cases h48 : c = 48
    · by_cases hr : r = []
      · have hl2 : l = [48] := by rw [hc, h48, hr]
        have ht : txt l := by
          rw [hl2]; exact ⟨fun x hx => by rw [List.mem_singleton] at hx; subst hx; decide, by simp, .inl rfl⟩
        rw [decide_eq_true ht]
        exact isText_nought _ w (by rw [str_data]; exact hl2)
      · have ht : ¬ txt l := fun h => by
          rcases h.2.2 with h | h
          · rw [hc] at h; simp at h; exact hr h.2
          · rw [hc, h48] at h; exact h rfl
        rw [decide_eq_false ht]
        refine isText_lead _ w ?_ (by omega) (by rw [e0, h48]; rfl)
        rw [hsz, hc]
        cases r with
        | nil => exact absurd rfl hr
        | cons => simp
    · have hne : ((str l)[0].toNat : Int) ≠ 48 := by
        rw [e0]; intro h
        exact h48 (UInt8.toNat_inj.1 (by show c.toNat = 48; omega))
      by_cases hd : digs l
      · have ht : txt l := ⟨hd, by rw [hc]; simp, .inr (by rw [hc]; simpa using h48)⟩
        rw [decide_eq_true ht]
        exact isText_yes _ w (by rw [str_data]; exact hd) h0 (by omega) hne
      · rw [decide_eq_false (fun h => hd h.1)]
        exact isText_bad _ w h0 (by omega) hne (by rw [str_data]; exact hd)
/-- a number, or ErrForm, or ErrLimit -/
def PsRes (w : World) (l : List UInt8) (e : Ending) (w' : World) : Prop :=
  if ¬ txt l then e = .returned (.tuple #[.slice none 0 0, .int .i64 2]) ∧ Gr w w' else if 2400 < l.length then e = .returned (.tuple #[.slice none 0 0, .int .i64 5]) ∧ Gr w w' else Res w (nval l) e w'
theorem parse_any (l : List UInt8) (w : World) (hl : l.length ≤ 1000000) :
    Calls Tryz.prog 63 #[.string (str l)] w (PsRes w l) := by
  by_cases ht : txt l
  · by_cases h24 : 2400 < l.length
    · have hT := isText_any l w hl
      rw [decide_eq_true ht] at hT
      have HT := Lib.hid hT
      have sz : (str l).size = l.length := str_size l
      have d1 : decide ((2400 : Int) < (l.length : Int)) = true := by rw [decide_eq_true_eq]; omega
      have HP : Hid (∀ e w', PsRes w l e w' ↔ (e = .returned (.tuple #[.slice none 0 0, .int .i64 5]) ∧ Gr w w')) := Lib.hid fun e w' => by unfold PsRes; rw [if_neg (by simpa using ht), if_pos h24]
      clear hT ht h24
      go_enter Tryz.func63, Tryz.ntmps63
      go_wp2_with fail
      refine HT.out.mono ?_
      rintro e w' ⟨rfl, rfl⟩
      go_wp2_with fail
      go_ret2
      exact (HP.out _ _).2 ⟨rfl, Gr.refl _⟩
    · have hP := parse_ok l w ht.1 (by omega) (fun w => by
        have := isText_any l w hl
        rw [decide_eq_true ht] at this
        exact this)
      refine hP.mono fun e w' h => ?_
      unfold PsRes
      rw [if_neg (by simpa using ht), if_neg h24]
      exact h
  · have hT := isText_any l w hl
    rw [decide_eq_false ht] at hT
    have HT := Lib.hid hT
    have HP : Hid (∀ e w', PsRes w l e w' ↔ (e = .returned (.tuple #[.slice none 0 0, .int .i64 2]) ∧ Gr w w')) := Lib.hid fun e w' => by unfold PsRes; rw [if_pos ht]
    clear hT ht
    go_enter Tryz.func63, Tryz.ntmps63
    go_wp2_with fail
    refine HT.out.mono ?_
    rintro e w' ⟨rfl, rfl⟩
    go_wp2_with fail
    go_ret2
    exact (HP.out _ _).2 ⟨rfl, Gr.refl _⟩
end Go.Proofs.YtjpjnbgfodlkcaaGreatDoor
