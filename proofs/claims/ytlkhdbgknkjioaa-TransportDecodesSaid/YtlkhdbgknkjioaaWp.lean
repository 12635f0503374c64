/- Put: the package's and the document's. -/
import Derived.Test.YtlkhdbgknkjioaaWg
import Derived.WalkKit
import Derived.WalkSpells
import Derived.WalkLawsBesides
import Derived.WalkSmall
import Derived.Handy
import Derived.BigQuiet
import Derived.Deep.QuietTactic
import Derived.Deep.RegionHeld3
import Derived.Deep.DeepFit
import Derived.Below
import Derived.Lib.Hide
import Derived.Lib.QuietBelow
import Derived.Laws.CopyOwn
import Derived.OwnWalk
namespace Go.Proofs.Ytlkhdbgknkjioaa
open Go Go.RowKit Go.Sort
set_option maxRecDepth 100000
set_option linter.unusedVariables false
theorem pow_256 (k : Nat) : (2 : Int) ^ (8 * k) = ((256 ^ k : Nat) : Int) := by
  rw [Int.natCast_pow, Int.pow_mul]; rfl
theorem pow_256_le {k : Nat} (h : k ≤ 7) : 256 ^ k ≤ 72057594037927936 := by
  have : 256 ^ k ≤ 256 ^ 7 := Nat.pow_le_pow_right (by omega) h
  omega
theorem shl_one (k : Nat) (hk : k ≤ 7) (w : World) : (Op.shift .shl .i64 1 .i64 (8 * (k : Int))).run Try.prog w = .ok (.int .i64 (256 ^ k : Nat)) w := by
  unfold Op.shift
  rw [if_neg (by omega), show IntKind.i64.bits = 64 from rfl, show min (8 * (k : Int)).toNat 64 = 8 * k by omega]
  show Result.ok _ _ = _
  have := pow_256_le hk
  rw [pow_256, Int.one_mul]
  generalize 256 ^ k = P at *
  rw [IntWalk.i64_in _ (by omega)]
theorem shr_byte (n i : Nat) (hi : i ≤ 7) (w : World) : (Op.shift .shr .i64 (n : Int) .i64 (8 * (i : Int))).run Try.prog w = .ok (.int .i64 (n / 256 ^ i : Nat)) w := by
  unfold Op.shift
  rw [if_neg (by omega), show IntKind.i64.bits = 64 from rfl, show min (8 * (i : Int)).toNat 64 = 8 * i by omega]
  show Result.ok _ _ = _
  rw [pow_256, Int.fdiv_eq_ediv_of_nonneg _ (Int.natCast_nonneg _), ← Int.natCast_ediv]
theorem wrap_pow {k : Nat} (hk : k ≤ 7) : wrap64 ((2 : Int) ^ (8 * k)) = ((256 ^ k : Nat) : Int) := by
  have := pow_256_le hk
  rw [pow_256]
  generalize 256 ^ k = P at *
  unfold wrap64; omega
theorem wrap_byte (x : Nat) : IntKind.u8.wrap (x : Int) = ((x % 256 : Nat) : Int) := by rw [IntKind.wrap_u8]; omega
theorem ext_getD {l m : List Nat} (h : l.length = m.length) (H : ∀ i, i < l.length → l.getD i 0 = m.getD i 0) : l = m := by
  apply List.ext_getElem h
  intro i h1 h2
  have := H i h1
  rw [List.getD_eq_getElem?_getD, List.getD_eq_getElem?_getD, List.getElem?_eq_getElem h1, List.getElem?_eq_getElem h2] at this
  exact this
theorem getD_set (l : List Nat) (a b x : Nat) : (l.set a x).getD b 0 = if a = b ∧ b < l.length then x else l.getD b 0 := by
  rw [List.getD_eq_getElem?_getD, List.getD_eq_getElem?_getD]
  by_cases h : a = b
  · subst h
    by_cases hl : a < l.length
    · rw [List.getElem?_set_self hl, if_pos ⟨rfl, hl⟩]; rfl
    · rw [if_neg (fun c => hl c.2), List.getElem?_eq_none (by rw [List.length_set]; omega), List.getElem?_eq_none (by omega)]
  · rw [List.getElem?_set_ne h, if_neg (fun c => h c.1)]
/-- what Put answers: the bytes, or ErrRange -/
def PtPost (w : World) (l : List Nat) (n k : Int) (e : Ending) (w' : World) : Prop :=
  ∃ (v : Value) (er : Int), e = .returned (.tuple #[v, .int .i64 er]) ∧ ((((1 ≤ k ∧ k ≤ 7) ∧ 0 ≤ n ∧ n < (256 ^ k.toNat : Nat)) ∧ er = 0 ∧ Rb (fun _ => True) w' v (l ++ bput n.toNat k.toNat)) ∨ (¬ ((1 ≤ k ∧ k ≤ 7) ∧ 0 ≤ n ∧ n < (256 ^ k.toNat : Nat)) ∧ er = 1 ∧ v = .slice none 0 0)) ∧ Gr w w'
/-- a block of bytes that is known whole, as a row of the call's own -/
theorem owb_block {w : World} {base g : Nat} {L : List Nat} (h : w.heap[g]? = some (.cells (cellsB L).toArray 5 (0, 0))) (hb : base ≤ g) (hL : L.length ≤ 1000000) (hx : ∀ x ∈ L, x < 256) : OwB base w (.slice (some ⟨g, 0, none⟩) L.length L.length) L :=
  ⟨⟨by rw [cellsB_len]; omega, .inr ⟨g, L.length, (cellsB L).toArray, rfl, hb, h, Nat.le_refl _, by unfold maxLen; omega, by simp [cellsB_len], by rw [List.take_of_length_le]; rw [cellsB_len]; omega⟩⟩, hx⟩
theorem block_of_own {w : World} {base g n : Nat} {xs : List Value} (h : w.ownsRow base 5 1 (.slice (some ⟨g, 0, none⟩) n n) n xs) : w.heap[g]? = some (.cells xs.toArray 5 (0, 0)) := by
  rcases h.2 with ⟨h', _⟩ | ⟨g', cap, cur, h', _, hh, _, _, hsz, htake⟩
  · cases h'
  · cases h'
    rw [hh]
    have e : cur.toList = xs := by rw [← htake, List.take_of_length_le]; rw [Array.length_toList]; omega
    rw [← e]
theorem made_zero {w w1 : World} {m : Nat} (h : w1.ownsRow w.heap.size 5 1 (.slice (some ⟨w.heap.size, 0, none⟩) m m) m (madeCells (Value.int .u8 0).cells (m * 1)).toList) : w1.heap[w.heap.size]? = some (.cells (cellsB (List.replicate m 0)).toArray 5 (0, 0)) := by
  rw [block_of_own h]
  congr 3
  rw [Nat.mul_one, show (Value.int .u8 0).cells = #[Value.int .u8 0] from rfl, toList_madeCells_one, cellsB, List.map_replicate]
  rfl
theorem sizeB : (Try.prog.info? 5).map (·.size) = some 1 := by kernel_rfl
theorem src_cells {p : Nat → Prop} {w w1 : World} {a : Option Addr} {l : List Nat} (H : ∀ i, i < l.length → ∃ b off : Nat, a = some ⟨b, off, none⟩ ∧ p b ∧ w.cell? ⟨b, off + i, none⟩ = some (.int .u8 (l.getD i 0 : Nat))) (g : Gr w w1) (h0 : 0 < l.length) :
    ∃ ad, a = some ad ∧ ∀ j v, (cellsB l)[j]? = some v → w1.cell? (ad.add j) = some v := by
  obtain ⟨b, off, rfl, -, -⟩ := H 0 h0
  refine ⟨_, rfl, fun j u hj => ?_⟩
  have hjm : j < l.length := by
    rcases Nat.lt_or_ge j l.length with h | h
    · exact h
    · rw [List.getElem?_eq_none (by rw [cellsB_len]; exact h)] at hj; cases hj
  rw [cellsB_at l hjm] at hj
  obtain rfl := Option.some.inj hj
  obtain ⟨b', off', e, _, hcell⟩ := H j hjm
  cases e
  rw [show (⟨b, off, none⟩ : Addr).add j = ⟨b, off + j, none⟩ by unfold Addr.add; split <;> simp_all]
  rw [(Gr.cells g).1 _ _ (World.block_lt_of_cell? _ _ hcell)]; exact hcell
theorem splice_zero (l : List Nat) (m k : Nat) (hm : m = l.length + k) : splice (cellsB (List.replicate m 0)) 0 (cellsB l) = cellsB (l ++ List.replicate k 0) := by
  subst hm
  unfold splice
  rw [List.take_zero, List.nil_append, cellsB_len, Nat.zero_add, cellsB_append]
  congr 1
  simp [cellsB]
theorem OwB.set {base g n cap : Nat} {w : World} {L : List Nat} (h : OwB base w (.slice (some ⟨g, 0, none⟩) n cap) L) (hn : L.length = n) (i x : Nat) (hx : x < 256) : OwB base (w.setCell ⟨g, i, none⟩ (.int .u8 (x : Int))) (.slice (some ⟨g, 0, none⟩) n cap) (L.set i x) := by
  subst hn
  refine ⟨?_, ?_⟩
  · rw [List.length_set, ← cellsB_set L i x _ rfl]
    exact (h.1.stored i _).1
  · intro y hy
    rcases List.mem_or_eq_of_mem_set hy with hy | rfl
    · exact h.2 y hy
    · exact hx
theorem OwB.cell {base g n cap : Nat} {w : World} {L : List Nat} (h : OwB base w (.slice (some ⟨g, 0, none⟩) n cap) L) (hn : L.length = n) {i : Nat} (hi : i < n) : w.cell? ⟨g, i, none⟩ = some (.int .u8 (L.getD i 0 : Nat)) ∧ w.frozen? ⟨g, i, none⟩ = false := by
  subst hn
  exact ⟨by rw [h.1.cellAt i (by omega), cellsB_at L hi], h.1.frozenAt i⟩
set_option maxHeartbeats 2000000 in
theorem put_own {p : Nat → Prop} {v : Value} {l : List Nat} (n k : Nat) (w : World) (h : Rb p w v l) (hl : l.length ≤ 100000) (hk0 : 1 ≤ k) (hk1 : k ≤ 7) (hn : n < 256 ^ k) :
    Calls Try.prog 87 #[v, .int .i64 n, .int .i64 k] w fun e w' => ∃ v', e = .returned (.tuple #[v', .int .i64 0]) ∧ OwB w.heap.size w' v' (l ++ bput n k) ∧ Gr w w' := by
  have h0 := h
  obtain ⟨a, cap, rfl, hcap, hmx, hnil, hbx, hcells⟩ := h
  have HC := Lib.hid hcells
  have HBX := Lib.hid hbx
  have HV := Lib.hid (fun w => vw_yes (k : Int) w (by omega))
  have hp7 := pow_256_le hk1
  have hsh := wrap_pow hk1
  have d1 : decide ((n : Int) < 0) = false := by simp
  have d2 : decide (((256 ^ k : Nat) : Int) ≤ (n : Int)) = false := by simp; exact_mod_cast hn
  have d3 : decide (256 ^ k ≤ n) = false := by simp; exact hn
  obtain ⟨m, hm⟩ : ∃ m, m = l.length + k := ⟨_, rfl⟩
  have e0 : (l.length : Int) + (k : Int) = (m : Int) := by omega
  have hm1 : m ≤ 100007 := by omega
  have hlm : l.length ≤ m := by omega
  have HM := Lib.hid hm
  have HN := Lib.hid hn
  obtain ⟨ti, hi1, hi2, hi3, hi4⟩ := byteInfoB
  clear h0 hcells hbx hnil hm hn
  generalize 256 ^ k = P at *
  go_enter Try.func87, Try.ntmps87
  go_wp2_with (first
    | (go_at_call 79; refine (HV.out _).mono ?_; rintro e w1 ⟨rfl, rfl⟩)
    | (refine wpList_make_full _ rfl _ _ 22 rfl w.heap.size 5 ti (.int .u8 0) 1 Try.underlying22 hi1 hi2 hi3 .i64 .i64 _ _ m rfl rfl (by simp) (by simp) (by rw [hi4]; omega) (by unfold maxLen; omega) (Nat.le_refl _) ?_; intro w1 hown1 hgrow1; have hblk := made_zero hown1; have hG1 : Gr w w1 := Gr.grownNew (Gr.refl _) hgrow1 (fun _ h => by cases h); clear hown1 hgrow1)
    | (refine wpList_copy_splice rfl (.tmp 29) (.tmp 30) 22 22 rfl 5 Try.underlying22 sizeB (some ⟨w.heap.size, 0, none⟩) a m m l.length cap rfl rfl w.heap.size 0 (cellsB (List.replicate m 0)) 5 hblk (cellsB l) (by rw [cellsB_len]; exact (Nat.min_eq_left hlm).symm) (fun h0 => ⟨rfl, src_cells (HC.out) hG1 (by rw [cellsB_len] at h0; exact h0)⟩) (by rw [cellsB_len, cellsB_len, List.length_replicate]; omega) (cellsB_one l) w.heap.size w hG1 (Nat.le_refl _) ?_; intro w2 hblk2 hG2))
  have HS := Lib.hid (splice_zero l m k HM.out)
  have hL0 : (l ++ List.replicate k 0).length = m := by rw [List.length_append, List.length_replicate]; exact HM.out.symm
  have hblk3 := hblk2.out
  rw [HS.out] at hblk3
  have O0 := Lib.hid (owb_block (L := l ++ List.replicate k 0) hblk3 (Nat.le_refl w.heap.size) (by omega) (fun x hx => (List.mem_append.1 hx).elim (HBX.out x) (fun h => by have := List.eq_of_mem_replicate h; omega)))
  have HG2 := Lib.hid (show Gr w w2 from hG2)
  clear hblk hblk2 hblk3 HS hG1 hG2 hi1 hi2 hi3 hi4 hsh d1 d2 d3
  go_loopw [9, 33] (fun _ i wr => ∃ (t : Nat) (L : List Nat), t ≤ k ∧ i = .int .i64 t ∧ OwB w.heap.size wr (.slice (some ⟨w.heap.size, 0, none⟩) m m) L ∧ L.length = m ∧ (∀ j, j < l.length → L.getD j 0 = l.getD j 0) ∧ (∀ j, j < t → L.getD (m - 1 - j) 0 = n / 256 ^ j % 256) ∧ Gr w wr) (fun _ i _ => k - (intOf i).toNat)
  case atStart =>
    refine ⟨0, l ++ List.replicate k 0, Nat.zero_le _, rfl, ?_, hL0, ?_, fun j hj => by omega, HG2.out⟩
    · have := O0.out
      rw [hL0] at this
      exact this
    · intro j hj
      rw [List.getD_eq_getElem?_getD, List.getElem?_append_left hj, ← List.getD_eq_getElem?_getD]
  case round =>
    obtain ⟨t, L, ht, rfl, hO, hLl, hA, hB, hgr⟩ := hrel
    have HO := Lib.hid hO
    have HL := Lib.hid hLl
    have HA := Lib.hid hA
    have HB := Lib.hid hB
    by_cases hlt : t < k
    · have d4 : (t : Int) < (k : Int) := by omega
      have hI : m - 1 - t < m := by have := HM.out; omega
      obtain ⟨hcl, hfr⟩ := hO.cell hLl hI
      clear hO hLl hA hB
      have e3 : (m : Int) - 1 - (t : Int) = ((m - 1 - t : Nat) : Int) := by have := HM.out; omega
      have e5 : (n : Int) / 2 ^ (8 * t) = ((n / 256 ^ t : Nat) : Int) := by rw [pow_256, ← Int.natCast_ediv]
      have HI := Lib.hid (show m - 1 - t ≥ l.length ∧ ∀ j, j < t → m - 1 - t ≠ m - 1 - j from ⟨by have := HM.out; omega, fun j hj => by have := HM.out; omega⟩)
      obtain ⟨I, hII⟩ : ∃ I, I = m - 1 - t := ⟨_, rfl⟩
      rw [← hII] at hI hcl hfr e3 HI
      have HII := Lib.hid hII
      obtain ⟨M, hM⟩ : ∃ M, M = n / 256 ^ t := ⟨_, rfl⟩
      rw [← hM] at e5
      have HMM := Lib.hid hM
      have e6 : (M : Int) % 256 = ((M % 256 : Nat) : Int) := by omega
      have e7 := wrap_byte M
      have hB256 : M % 256 < 256 := Nat.mod_lt _ (by omega)
      have HBb := Lib.hid (show M % 256 = n / 256 ^ t % 256 by rw [hM])
      generalize M % 256 = B at *
      clear hII hM
      go_wp2
      go_roundw
      case rel =>
        refine ⟨t + 1, L.set I B, by omega, by go_num, HO.out.set HL.out I B hB256, by rw [List.length_set]; exact HL.out, ?_, ?_, ?_⟩
        · intro j hj
          have := HI.out.1
          rw [getD_set, if_neg (fun c => by omega)]
          exact HA.out j hj
        · intro j hj
          rw [getD_set]
          by_cases hjt : j = t
          · subst hjt
            rw [if_pos ⟨HII.out, by rw [HL.out]; omega⟩]
            exact HBb.out
          · rw [if_neg (fun c => HI.out.2 j (by omega) (by omega))]
            exact HB.out j (by omega)
        · exact Gr.setCell hgr (Nat.le_refl _) _
      case measure => simp [intOf]; omega
    · obtain rfl : t = k := by omega
      have e : L = l ++ bput n t := by
        refine ext_getD (by rw [List.length_append, bput_len]; exact HL.out.trans HM.out) (fun i hi => ?_)
        rw [HL.out] at hi
        by_cases hil : i < l.length
        · rw [List.getD_eq_getElem?_getD (l := l ++ _), List.getElem?_append_left hil, ← List.getD_eq_getElem?_getD]
          exact HA.out i hil
        · have := HM.out
          rw [List.getD_eq_getElem?_getD (l := l ++ _), List.getElem?_append_right (by omega), ← List.getD_eq_getElem?_getD]
          have h1 := HB.out (m - 1 - i) (by omega)
          have h2 := bput_at n t (m - 1 - i) (by omega)
          rw [show m - 1 - (m - 1 - i) = i by omega] at h1
          rw [show t - 1 - (m - 1 - i) = i - l.length by omega] at h2
          rw [h1, h2]
      subst e
      have R := Lib.hid HO.out
      clear hO hLl hA hB
      go_wp2
      exact bodyPost_ret (v := .tuple #[.slice (some ⟨w.heap.size, 0, none⟩) m m, .int .i64 0]) (by simp [results, Try.results87, go_sem]) rfl ⟨_, rfl, R.out, hgr⟩
theorem put_yes {p : Nat → Prop} {v : Value} {l : List Nat} (n k : Nat) (w : World) (h : Rb p w v l) (hl : l.length ≤ 100000) (hk0 : 1 ≤ k) (hk1 : k ≤ 7) (hn : n < 256 ^ k) :
    Calls Try.prog 87 #[v, .int .i64 n, .int .i64 k] w fun e w' => ∃ v', e = .returned (.tuple #[v', .int .i64 0]) ∧ Rb (fun _ => True) w' v' (l ++ bput n k) ∧ Gr w w' := by
  refine (put_own n k w h hl hk0 hk1 hn).mono ?_
  rintro e w' ⟨v', rfl, ho, hg⟩
  exact ⟨v', rfl, ho.rb.any, hg⟩
theorem put_no (a : Option Addr) (len cap : Nat) (n k : Int) (w : World) (h : ¬ ((1 ≤ k ∧ k ≤ 7) ∧ 0 ≤ n ∧ n < (256 ^ k.toNat : Nat))) :
    Calls Try.prog 87 #[.slice a len cap, .int .i64 n, .int .i64 k] w fun e w' => e = .returned (.tuple #[.slice none 0 0, .int .i64 1]) ∧ w = w' := by
  by_cases hk : 1 ≤ k ∧ k ≤ 7
  · have HV := Lib.hid (fun w => vw_yes k w hk)
    by_cases hn : n < 0
    · have d1 : decide (n < 0) = true := by simpa using hn
      clear h hk
      go_enter Try.func87, Try.ntmps87
      go_wp2_with (go_at_call 79; refine (HV.out _).mono ?_; rintro e w1 ⟨rfl, rfl⟩)
      go_ret2
      exact ⟨rfl, rfl⟩
    · have d1 : decide (n < 0) = false := by simpa using hn
      obtain ⟨n, rfl⟩ := Int.eq_ofNat_of_zero_le (show 0 ≤ n by omega)
      obtain ⟨k, rfl⟩ := Int.eq_ofNat_of_zero_le (show 0 ≤ k by omega)
      have hp7 := pow_256_le (k := k) (by omega)
      have hsh := wrap_pow (k := k) (by omega)
      have hge : 256 ^ k ≤ n := by
        rcases Nat.lt_or_ge n (256 ^ k) with h2 | h2
        · exact absurd ⟨hk, by omega, by simpa using (by exact_mod_cast h2)⟩ h
        · exact h2
      clear h
      generalize 256 ^ k = P at *
      have d2 : decide ((P : Int) ≤ (n : Int)) = true := by rw [decide_eq_true_eq]; omega
      have d3 : decide (P ≤ n) = true := by simpa using hge
      go_enter Try.func87, Try.ntmps87
      go_wp2_with (go_at_call 79; refine (HV.out _).mono ?_; rintro e w1 ⟨rfl, rfl⟩)
      go_ret2
      exact ⟨rfl, rfl⟩
  · have HV := Lib.hid (fun w => vw_no k w hk)
    clear h hk
    go_enter Try.func87, Try.ntmps87
    go_wp2_with (go_at_call 79; refine (HV.out _).mono ?_; rintro e w1 ⟨rfl, rfl⟩)
    go_ret2
    exact ⟨rfl, rfl⟩
theorem put_any {p : Nat → Prop} {v : Value} {l : List Nat} (n k : Int) (w : World) (h : Rb p w v l) (hl : l.length ≤ 100000) :
    Calls Try.prog 87 #[v, .int .i64 n, .int .i64 k] w (PtPost w l n k) := by
  by_cases hr : (1 ≤ k ∧ k ≤ 7) ∧ 0 ≤ n ∧ n < (256 ^ k.toNat : Nat)
  · obtain ⟨n, rfl⟩ := Int.eq_ofNat_of_zero_le hr.2.1
    obtain ⟨k, rfl⟩ := Int.eq_ofNat_of_zero_le (show 0 ≤ k by omega)
    refine (put_yes n k w h hl (by omega) (by omega) (by have := hr.2.2; rw [Int.toNat_natCast] at this; omega)).mono ?_
    rintro e w' ⟨v', rfl, hv, hg⟩
    exact ⟨v', 0, rfl, .inl ⟨hr, rfl, hv⟩, hg⟩
  · obtain ⟨a, cap, rfl, -, -⟩ := h.form
    refine (put_no a _ cap n k w hr).mono ?_
    rintro e w' ⟨rfl, rfl⟩
    exact ⟨_, 1, rfl, .inr ⟨hr, rfl, rfl⟩, Gr.refl _⟩
end Go.Proofs.Ytlkhdbgknkjioaa
