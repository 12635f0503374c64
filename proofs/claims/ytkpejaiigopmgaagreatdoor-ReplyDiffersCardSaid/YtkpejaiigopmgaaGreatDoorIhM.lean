/- The package ipv4: the bytes of a header. -/
import Derived.Test.YtkpejaiigopmgaaGreatDoorIc
import Derived.Test.YtkpejaiigopmgaaGreatDoorGB
import Derived.WalkKit
import Derived.WalkSpells
import Derived.WalkLawsBesides
import Derived.WalkSmall
import Derived.Handy
import Derived.BigQuiet
import Derived.Deep.QuietTactic
import Derived.Deep.RegionHeld3
import Derived.Deep.DeepFit
import Derived.Below
import Derived.Lib.Hide
import Derived.Lib.QuietBelow
namespace Go.Proofs.YtkpejaiigopmgaaGreatDoor
open Go Go.RowKit Go.Sort
set_option maxRecDepth 100000
set_option linter.unusedVariables false
/-- pairs of ints in a block -/
def FC (w : World) (g : Nat) (fs : List (Nat × Nat)) : Prop := ∀ t, t < fs.length → w.cell? ⟨g, t * 2, none⟩ = some (.int .i64 (fs.getD t (0, 0)).1) ∧ w.cell? ⟨g, t * 2 + 1, none⟩ = some (.int .i64 (fs.getD t (0, 0)).2)
theorem FC.gr {w w' : World} {g : Nat} {fs : List (Nat × Nat)} (h : FC w g fs) (k : Gr w w') : FC w' g fs := fun t ht => by
  have hh := h t ht
  exact ⟨by rw [(Gr.cells k).1 _ _ (World.block_lt_of_cell? _ _ hh.1)]; exact hh.1, by rw [(Gr.cells k).1 _ _ (World.block_lt_of_cell? _ _ hh.2)]; exact hh.2⟩
def Hd.v (h : Hd) : Value := hdV h.tos h.id h.ttl h.proto h.keep h.src h.dst
theorem fc_new (w : World) (T : TypeId) (h : Hd) (n : Nat) (f : Int) (hf : f = h.fl) : FC (w.alloc (.cells #[.int .i64 69, .int .i64 1, .int .i64 h.tos, .int .i64 1, .int .i64 n, .int .i64 2, .int .i64 h.id, .int .i64 2, .int .i64 f, .int .i64 2,
    .int .i64 h.ttl, .int .i64 1, .int .i64 h.proto, .int .i64 1, .int .i64 0, .int .i64 2, .int .i64 h.src, .int .i64 4, .int .i64 h.dst, .int .i64 4] T)) w.heap.size (hfields h n) := by
  subst hf
  intro t ht
  have : t = 0 ∨ t = 1 ∨ t = 2 ∨ t = 3 ∨ t = 4 ∨ t = 5 ∨ t = 6 ∨ t = 7 ∨ t = 8 ∨ t = 9 := by simp [hfields] at ht; omega
  rcases this with rfl | rfl | rfl | rfl | rfl | rfl | rfl | rfl | rfl | rfl <;> simp [hfields]
theorem hfields_wide (h : Hd) (n t : Nat) (k : h.ok) (hn : n < 65536) (ht : t < 10) : 1 ≤ ((hfields h n).getD t (0, 0)).2 ∧ ((hfields h n).getD t (0, 0)).2 ≤ 4 ∧ ((hfields h n).getD t (0, 0)).1 < 256 ^ ((hfields h n).getD t (0, 0)).2 := by
  have := k.tos; have := k.id; have := k.ttl; have := k.proto; have := k.src; have := k.dst; have := h.fl_le
  have : t = 0 ∨ t = 1 ∨ t = 2 ∨ t = 3 ∨ t = 4 ∨ t = 5 ∨ t = 6 ∨ t = 7 ∨ t = 8 ∨ t = 9 := by omega
  rcases this with rfl | rfl | rfl | rfl | rfl | rfl | rfl | rfl | rfl | rfl <;> simp [hfields] <;> omega
theorem fput_short (h : Hd) (n t : Nat) : (fput ((hfields h n).take t)).length ≤ 20 := by
  rw [fput_len]
  have : t = 0 ∨ t = 1 ∨ t = 2 ∨ t = 3 ∨ t = 4 ∨ t = 5 ∨ t = 6 ∨ t = 7 ∨ t = 8 ∨ t = 9 ∨ 10 ≤ t := by omega
  rcases this with rfl | rfl | rfl | rfl | rfl | rfl | rfl | rfl | rfl | rfl | ht
  all_goals first | (simp [hfields]; done) | skip
  rw [List.take_of_length_le (by simp [hfields]; omega)]; simp [hfields]
theorem OwB.base {b c : Nat} {w : World} {v : Value} {l : List Nat} (h : OwB c w v l) (hb : b ≤ c) : OwB b w v l := by
  obtain ⟨⟨h0, h1⟩, h2⟩ := h
  refine ⟨⟨h0, ?_⟩, h2⟩
  rcases h1 with h1 | ⟨g, cap, cur, hv, hg, hr⟩
  · exact .inl h1
  · exact .inr ⟨g, cap, cur, hv, Nat.le_trans hb hg, hr⟩
theorem splice_take {α : Type} (L : List α) (off n : Nat) (cs : List α) (h : off + cs.length ≤ n) (hn : n ≤ L.length) : (splice L off cs).take n = splice (L.take n) off cs := by
  have h1 : (splice L off cs) = splice (L.take n ++ L.drop n) off cs := by rw [List.take_append_drop]
  rw [h1]
  have hl : (L.take n).length = n := by rw [List.length_take]; omega
  generalize L.take n = A at *
  generalize L.drop n = B at *
  have e1 : (A ++ B).take off = A.take off := List.take_append_of_le_length (by omega)
  have e2 : (A ++ B).drop (off + cs.length) = A.drop (off + cs.length) ++ B := List.drop_append_of_le_length (by omega)
  unfold splice
  rw [e1, e2, ← List.append_assoc cs, ← List.append_assoc, List.take_append_of_le_length (by simp; omega), List.take_of_length_le (by simp; omega)]
theorem splice_cells (L m : List Nat) (off : Nat) : splice (cellsB L) off (cellsB m) = cellsB (L.take off ++ m ++ L.drop (off + m.length)) := by
  unfold splice
  rw [cellsB_append, cellsB_append, cellsB_len]
  simp [cellsB]
/-- bytes are copied into a row of the call's own -/
theorem OwB.spliced {base g n cap : Nat} {w' : World} {cur : Array Value} {L m : List Nat} (hL : L.length = n) (hx : ∀ x ∈ L, x < 256) (hg : base ≤ g) (hn : n ≤ cap) (hcap : cap ≤ maxLen) (hsz : cur.size = cap * 1) (htake : cur.toList.take (n * 1) = cellsB L)
    (off : Nat) (hoff : off + m.length ≤ n) (hm : ∀ x ∈ m, x < 256) (hh : w'.heap[g]? = some (.cells (splice cur.toList off (cellsB m)).toArray 5 (0, 0))) :
    OwB base w' (.slice (some ⟨g, 0, none⟩) n cap) (L.take off ++ m ++ L.drop (off + m.length)) := by
  have hlen : (L.take off ++ m ++ L.drop (off + m.length)).length = n := by simp; omega
  have hcl : cur.toList.length = cap := by rw [Array.length_toList]; omega
  refine ⟨⟨by rw [cellsB_len, Nat.mul_one], .inr ⟨g, cap, _, by rw [hlen], hg, hh, by omega, hcap, ?_, ?_⟩⟩, ?_⟩
  · rw [List.size_toArray, length_splice _ _ _ (by rw [cellsB_len]; omega)]; omega
  · rw [hlen, Nat.mul_one, splice_take _ _ _ _ (by rw [cellsB_len]; omega) (by omega)]
    rw [Nat.mul_one] at htake
    rw [htake, splice_cells]
  · intro x h
    rcases List.mem_append.1 h with h | h
    · rcases List.mem_append.1 h with h | h
      · exact hx x (List.mem_of_mem_take h)
      · exact hm x h
    · exact hx x (List.mem_of_mem_drop h)
set_option maxHeartbeats 4000000 in
theorem header_any (h : Hd) (k : h.ok) (n : Nat) (hn : n < 65536) (w : World) :
    Calls Tryz.prog 60 #[h.v, .int .i64 n] w fun e w' => ∃ v', e = .returned v' ∧ OwB w.heap.size w' v' (hbytes h n) ∧ Gr w w' := by
  have k1 := k.src
  have k2 := k.dst
  have K := Lib.hid k
  clear k
  cases hk : h.keep with
  | false =>
    unfold Hd.v hdV
    rw [hk]
    have HF := Lib.hid ((fc_new (w.alloc (.cells #[.int .i64 h.tos, .int .i64 h.id, .int .i64 h.ttl, .int .i64 h.proto, .bool false, .int .u32 h.src, .int .u32 h.dst] 52)) 121 h n 0 (by unfold Hd.fl; rw [hk]; rfl)))
    rw [World.size_alloc] at HF
    clear hk
    go_enter Tryz.func60, Tryz.ntmps60
    go_wp2
    go_loopw [6, 41] (fun b i wr => ∃ t : Nat, t ≤ 10 ∧ i = .int .i64 t ∧ OwB w.heap.size wr b (fput ((hfields h n).take t)) ∧ FC wr (w.heap.size + 1) (hfields h n) ∧ Gr w wr) (fun _ i _ => 10 - (intOf i).toNat)
    case atStart => exact ⟨0, by omega, rfl, OwB.nil _ _, HF.out, Gr.alloc (Gr.alloc (Gr.refl _) _) _⟩
    case round =>
      obtain ⟨t, ht, rfl, ho, hf, hgr⟩ := hrel
      have HO := Lib.hid ho
      have HFC := Lib.hid hf
      clear ho hf HF
      by_cases hlt : t < 10
      · have d1 : (t : Int) < 10 := by omega
        obtain ⟨hc1, hc2⟩ := HFC.out t (by simp [hfields]; omega)
        obtain ⟨hw1, hw2, hw3⟩ := hfields_wide h n t K.out hn hlt
        have HT := Lib.hid (fput_take (hfields h n) (t := t) (by simp [hfields]; omega))
        have HL := Lib.hid (fput_short h n t)
        generalize ((hfields h n).getD t (0, 0)).1 = F at *
        generalize ((hfields h n).getD t (0, 0)).2 = W at *
        have HW := Lib.hid hw3
        clear hw3
        have hsz := Gr.size hgr
        go_wp2_with fail
        have hg3 := Gr.alloc (Gr.refl wr) (.cells #[.int .i64 F, .int .i64 W] 121)
        refine (put_own F W _ (HO.out.rb.gr hg3) (by have := HL.out; omega) (by omega) (by omega) HW.out).mono ?_
        rintro e w3 ⟨v3, rfl, ho3, hg4⟩
        have hgr3 := (hgr.step hg3).step hg4
        have ho4 := ho3.base (b := w.heap.size) (by simp; omega)
        have HF4 := Lib.hid ((HFC.out.gr hg3).gr hg4)
        rw [← HT.out] at ho4
        have HO4 := Lib.hid ho4
        clear ho3 ho4 hg3 hg4 HFC HO
        go_wp2_with fail
        go_roundw
        case rel => exact ⟨t + 1, by omega, by go_num, HO4.out, HF4.out, hgr3⟩
        case measure => simp [intOf]; try omega
      · obtain rfl : t = 10 := by omega
        have e1 : (hfields h n).take 10 = hfields h n := rfl
        rw [e1, hfields_raw K.out n] at HO
        have HCK := Lib.hid (wchk_any wr HO.out.rb (by rw [hraw_len]; omega))
        have e2 : (65535 : Int) - ((oc (wsum false (hraw h n 0)) : Nat) : Int) = ((hsum h n : Nat) : Int) := by have := oc_le (wsum false (hraw h n 0)); unfold hsum; omega
        rw [e2] at HCK
        have hS := hsum_le h n
        have HSM : Hid (∀ l, hsum h n = l → hbytes h n = hraw h n l) := Lib.hid (fun l hl => by subst hl; rfl)
        clear e1 e2 HFC
        obtain ⟨S, hSS⟩ : ∃ S, S = hsum h n := ⟨_, rfl⟩
        rw [← hSS] at HCK hS
        have HSS := Lib.hid hSS
        clear hSS
        have hsz := Gr.size hgr
        obtain ⟨⟨ho0, ho1⟩, ho2⟩ := id HO.out
        rcases ho1 with ⟨_, ho1⟩ | ⟨g, cap, cur, rfl, hgb, hh, hnc, hcap, hcs, htake⟩
        · exact absurd ho1 (by rw [hraw_len]; decide)
        have HH := Lib.hid (And.intro hh (And.intro hcs htake))
        have HB2 := Lib.hid ho2
        have hgl : g < wr.heap.size := by
          rcases Nat.lt_or_ge g wr.heap.size with h | h
          · exact h
          · rw [Array.getElem?_eq_none h] at hh; cases hh
        clear hh hcs htake ho2 ho0
        rw [hraw_len] at hnc HH HCK ⊢
        have u1 : (10 : Int) ≤ 20 := by omega
        go_wp2_with fail
        refine HCK.out.mono ?_
        rintro e w3 ⟨rfl, rfl⟩
        go_wp2_with fail
        refine (put_own S 2 _ (Rb.nil (fun _ => True) _) (by simp) (by omega) (by omega) (by show S < 65536; omega)).mono ?_
        rintro e w4 ⟨v4, rfl, ho4, hg4⟩
        have hb4 : w4.heap[g]? = some (.cells cur.toList.toArray 5 (0, 0)) := by
          rw [Below.block hg4 g hgl, HH.out.1]; try simp
        rw [List.nil_append] at ho4
        obtain ⟨g4, k4, rfl, hg4b, hg4l, hk4⟩ := ho4.form (by rw [bput_len]; omega)
        have HO4 := Lib.hid ho4
        have hc4 := ho4.1.cells (g := g4) rfl
        have HC4 := Lib.hid hc4
        have hG4 := hgr.step hg4
        clear ho4 hc4 hg4 hk4
        rw [bput_len] at HO4 ⊢
        have hcl : cur.toList.length = cap := by rw [Array.length_toList]; have := HH.out.2.1; omega
        go_wp2_with (refine wpList_copy_splice rfl (.tmp 62) (.tmp 63) 22 22 rfl 5 Tryz.underlying22 sizeB (some ⟨g, 10, none⟩) (some ⟨g4, 0, none⟩) _ _ _ _ rfl rfl g 10 cur.toList 5 hb4 (cellsB (bput S 2)) (by rw [cellsB_len, bput_len]; rfl) (fun _ => ⟨rfl, _, rfl, HC4.out⟩) (by rw [cellsB_len, bput_len]; omega) (cellsB_one _) w.heap.size w hG4 hgb ?_; intro w5 hblk hG5)
        have hfin := OwB.spliced (base := w.heap.size) (cap := cap) (hraw_len h n 0) HB2.out hgb hnc hcap HH.out.2.1 HH.out.2.2 10 (by rw [bput_len]; omega) (bput_lt S 2) hblk.out
        rw [bput_len, hraw_splice, ← HSM.out S HSS.out.symm] at hfin
        have HFIN := Lib.hid hfin
        clear hfin hblk hb4
        go_wp2
        go_ret
        exact ⟨_, rfl, HFIN.out, hG5⟩
  | true =>
    unfold Hd.v hdV
    rw [hk]
    have HF := Lib.hid ((fc_new (w.alloc (.cells #[.int .i64 h.tos, .int .i64 h.id, .int .i64 h.ttl, .int .i64 h.proto, .bool true, .int .u32 h.src, .int .u32 h.dst] 52)) 121 h n 16384 (by unfold Hd.fl; rw [hk]; rfl)))
    rw [World.size_alloc] at HF
    clear hk
    go_enter Tryz.func60, Tryz.ntmps60
    go_wp2
    go_loopw [6, 41] (fun b i wr => ∃ t : Nat, t ≤ 10 ∧ i = .int .i64 t ∧ OwB w.heap.size wr b (fput ((hfields h n).take t)) ∧ FC wr (w.heap.size + 1) (hfields h n) ∧ Gr w wr) (fun _ i _ => 10 - (intOf i).toNat)
    case atStart => exact ⟨0, by omega, rfl, OwB.nil _ _, HF.out, Gr.alloc (Gr.alloc (Gr.refl _) _) _⟩
    case round =>
      obtain ⟨t, ht, rfl, ho, hf, hgr⟩ := hrel
      have HO := Lib.hid ho
      have HFC := Lib.hid hf
      clear ho hf HF
      by_cases hlt : t < 10
      · have d1 : (t : Int) < 10 := by omega
        obtain ⟨hc1, hc2⟩ := HFC.out t (by simp [hfields]; omega)
        obtain ⟨hw1, hw2, hw3⟩ := hfields_wide h n t K.out hn hlt
        have HT := Lib.hid (fput_take (hfields h n) (t := t) (by simp [hfields]; omega))
        have HL := Lib.hid (fput_short h n t)
        generalize ((hfields h n).getD t (0, 0)).1 = F at *
        generalize ((hfields h n).getD t (0, 0)).2 = W at *
        have HW := Lib.hid hw3
        clear hw3
        have hsz := Gr.size hgr
        go_wp2_with fail
        have hg3 := Gr.alloc (Gr.refl wr) (.cells #[.int .i64 F, .int .i64 W] 121)
        refine (put_own F W _ (HO.out.rb.gr hg3) (by have := HL.out; omega) (by omega) (by omega) HW.out).mono ?_
        rintro e w3 ⟨v3, rfl, ho3, hg4⟩
        have hgr3 := (hgr.step hg3).step hg4
        have ho4 := ho3.base (b := w.heap.size) (by simp; omega)
        have HF4 := Lib.hid ((HFC.out.gr hg3).gr hg4)
        rw [← HT.out] at ho4
        have HO4 := Lib.hid ho4
        clear ho3 ho4 hg3 hg4 HFC HO
        go_wp2_with fail
        go_roundw
        case rel => exact ⟨t + 1, by omega, by go_num, HO4.out, HF4.out, hgr3⟩
        case measure => simp [intOf]; try omega
      · obtain rfl : t = 10 := by omega
        have e1 : (hfields h n).take 10 = hfields h n := rfl
        rw [e1, hfields_raw K.out n] at HO
        have HCK := Lib.hid (wchk_any wr HO.out.rb (by rw [hraw_len]; omega))
        have e2 : (65535 : Int) - ((oc (wsum false (hraw h n 0)) : Nat) : Int) = ((hsum h n : Nat) : Int) := by have := oc_le (wsum false (hraw h n 0)); unfold hsum; omega
        rw [e2] at HCK
        have hS := hsum_le h n
        have HSM : Hid (∀ l, hsum h n = l → hbytes h n = hraw h n l) := Lib.hid (fun l hl => by subst hl; rfl)
        clear e1 e2 HFC
        obtain ⟨S, hSS⟩ : ∃ S, S = hsum h n := ⟨_, rfl⟩
        rw [← hSS] at HCK hS
        have HSS := Lib.hid hSS
        clear hSS
        have hsz := Gr.size hgr
        obtain ⟨⟨ho0, ho1⟩, ho2⟩ := id HO.out
        rcases ho1 with ⟨_, ho1⟩ | ⟨g, cap, cur, rfl, hgb, hh, hnc, hcap, hcs, htake⟩
        · exact absurd ho1 (by rw [hraw_len]; decide)
        have HH := Lib.hid (And.intro hh (And.intro hcs htake))
        have HB2 := Lib.hid ho2
        have hgl : g < wr.heap.size := by
          rcases Nat.lt_or_ge g wr.heap.size with h | h
          · exact h
          · rw [Array.getElem?_eq_none h] at hh; cases hh
        clear hh hcs htake ho2 ho0
        rw [hraw_len] at hnc HH HCK ⊢
        have u1 : (10 : Int) ≤ 20 := by omega
        go_wp2_with fail
        refine HCK.out.mono ?_
        rintro e w3 ⟨rfl, rfl⟩
        go_wp2_with fail
        refine (put_own S 2 _ (Rb.nil (fun _ => True) _) (by simp) (by omega) (by omega) (by show S < 65536; omega)).mono ?_
        rintro e w4 ⟨v4, rfl, ho4, hg4⟩
        have hb4 : w4.heap[g]? = some (.cells cur.toList.toArray 5 (0, 0)) := by
          rw [Below.block hg4 g hgl, HH.out.1]; try simp
        rw [List.nil_append] at ho4
        obtain ⟨g4, k4, rfl, hg4b, hg4l, hk4⟩ := ho4.form (by rw [bput_len]; omega)
        have HO4 := Lib.hid ho4
        have hc4 := ho4.1.cells (g := g4) rfl
        have HC4 := Lib.hid hc4
        have hG4 := hgr.step hg4
        clear ho4 hc4 hg4 hk4
        rw [bput_len] at HO4 ⊢
        have hcl : cur.toList.length = cap := by rw [Array.length_toList]; have := HH.out.2.1; omega
        go_wp2_with (refine wpList_copy_splice rfl (.tmp 62) (.tmp 63) 22 22 rfl 5 Tryz.underlying22 sizeB (some ⟨g, 10, none⟩) (some ⟨g4, 0, none⟩) _ _ _ _ rfl rfl g 10 cur.toList 5 hb4 (cellsB (bput S 2)) (by rw [cellsB_len, bput_len]; rfl) (fun _ => ⟨rfl, _, rfl, HC4.out⟩) (by rw [cellsB_len, bput_len]; omega) (cellsB_one _) w.heap.size w hG4 hgb ?_; intro w5 hblk hG5)
        have hfin := OwB.spliced (base := w.heap.size) (cap := cap) (hraw_len h n 0) HB2.out hgb hnc hcap HH.out.2.1 HH.out.2.2 10 (by rw [bput_len]; omega) (bput_lt S 2) hblk.out
        rw [bput_len, hraw_splice, ← HSM.out S HSS.out.symm] at hfin
        have HFIN := Lib.hid hfin
        clear hfin hblk hb4
        go_wp2
        go_ret
        exact ⟨_, rfl, HFIN.out, hG5⟩
end Go.Proofs.YtkpejaiigopmgaaGreatDoor
