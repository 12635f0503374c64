/- The drawn messages, whatever the data, as rows of the call's own. -/
import Derived.Test.YtlkhdbgknkjioaaKp
import Derived.Test.YtlkhdbgknkjioaaKq
import Derived.Test.YtlkhdbgknkjioaaKx
import Derived.Test.YtlkhdbgknkjioaaIa
import Derived.Test.YtlkhdbgknkjioaaDraw
import Derived.WalkKit
import Derived.WalkSpells
import Derived.WalkLawsBesides
import Derived.WalkSmall
import Derived.Handy
import Derived.BigQuiet
import Derived.Deep.QuietTactic
import Derived.Deep.RegionHeld3
import Derived.Deep.DeepFit
import Derived.Below
import Derived.Lib.Hide
import Derived.Lib.QuietBelow
import Derived.Deep.DeepCutAuto
namespace Go.Proofs.Ytlkhdbgknkjioaa
open Go Go.RowKit Go.Sort
set_option maxRecDepth 100000
set_option linter.unusedVariables false
set_option linter.unusedSimpArgs false
theorem region_cut6 {P : Program} {c : Code} {Q : Exit → Act → World → Prop} {a : Act} {w : World} (aF : Nat → Nat → Nat → Nat → Option Addr → Nat → Act) (R : Nat → Nat → Nat → Nat → Option Addr → Nat → World → Prop)
    (h : c.wp P (fun e a' w' => e = .normal ∧ ∃ x1 x2 x3 x4 x5 x6, a' = aF x1 x2 x3 x4 x5 x6 ∧ R x1 x2 x3 x4 x5 x6 w') a w) (k : ∀ x1 x2 x3 x4 x5 x6 w', R x1 x2 x3 x4 x5 x6 w' → Q .normal (aF x1 x2 x3 x4 x5 x6) w') : c.wp P Q a w := by
  refine Code.wp_mono (fun e a' w' h' => ?_) h
  obtain ⟨he, x1, x2, x3, x4, x5, x6, ha, hr⟩ := h'
  rw [he, ha]
  exact k _ _ _ _ _ _ _ hr
/-- a row of the call's own does not lie in an older block -/
theorem OwB.off {base b : Nat} {w : World} {v : Value} {l : List Nat} (h : OwB base w v l) (hb : b < base) : Rb (fun k => k ≠ b) w v l := h.rb.imp fun k _ hk => by omega
/-- a row of the call's own, made after block b -/
def Own (b : Nat) (w : World) (v : Value) (n : Nat) : Prop := ∃ l, OwB (b + 1) w v l ∧ l.length = n
theorem Own.of {base b n : Nat} {w : World} {v : Value} {l : List Nat} (h : OwB base w v l) (hl : l.length = n) (hb : b < base) : Own b w v n := ⟨l, h.base hb, hl⟩
theorem Own.gr {b n : Nat} {w w' : World} {v : Value} (h : Own b w v n) (g : Gr w w') : Own b w' v n := by
  obtain ⟨l, h1, h2⟩ := h; exact ⟨l, h1.gr g, h2⟩
theorem Own.ex {b n : Nat} {w w' : World} {v : Value} (h : Own b w v n) (g : Ex b w w') (_ : ∀ k : Nat, k ≠ b → k ≠ b) : Own b w' v n := by
  obtain ⟨l, h1, h2⟩ := h
  refine ⟨l, ⟨World.ownsRow.kept (row := some b) h1.1 ⟨g.os, g.tape, g.output, g.size, fun k hk hne => g.block k (fun e => hne (by rw [e])) hk⟩ ?_, h1.2⟩, h2⟩
  cases hv : v.ownBlock with
  | none => exact .inl rfl
  | some k => exact .inr (fun e => by have := h1.above k hv; have := Option.some.inj e; omega)
theorem Own.form {b n : Nat} {w : World} {v : Value} (h : Own b w v n) : ∃ a c, v = .slice a n c := by
  obtain ⟨l, h1, h2⟩ := h
  obtain ⟨a, c, e, -, -⟩ := h1.rb.form
  exact ⟨a, c, by rw [e, h2]⟩
def FixRes (w : World) (E M : Nat) (e : Ending) (w' : World) : Prop := ∃ v' L, e = .returned (.tuple #[v', .int .i64 E]) ∧ OwB w.heap.size w' v' L ∧ L.length = M ∧ Gr w w'
theorem fix_of {ok : Prop} [Decidable ok] {least most n : Nat} {d m : List Nat} {w : World} {e : Ending} {w' : World} (hd : d.length = n) (h : EncRes w (encE ok least most d.length) (encR ok least most d m) e w') (hk : ok) (k : Nat) (hm : m.length = k + d.length) :
    FixRes w (if n < least then 3 else if most < n then 5 else 0) (if least ≤ n ∧ n ≤ most then k + n else 0) e w' := by
  obtain ⟨v', rfl, ho, hg⟩ := h
  refine ⟨v', _, ?_, ho, ?_, hg⟩
  · unfold encE; rw [if_pos hk, hd]
  · unfold encR
    rw [hd]
    by_cases h : least ≤ n ∧ n ≤ most
    · rw [if_pos ⟨hk, h⟩, if_pos h, hm, hd]
    · rw [if_neg (fun k => h k.2), if_neg h]; rfl
theorem recho_fix (d : List Nat) (hd : d.length ≤ 30000) : ∃ E M : Nat, M ≤ 1480 ∧ ∀ (r : Bool) (a b : Nat) (w : World) (v : Value), Rb (fun _ => True) w v d → a < 65536 → b < 65536 →
    Calls Try.prog 47 #[.agg #[.bool r, .int .i64 a, .int .i64 b, v]] w (FixRes w E M) :=
  ⟨_, _, by split <;> omega, fun r a b w v hr ha hb => (recho_any r a b w hr hd).mono fun e w' h => fix_of rfl h (show (0 ≤ (a : Int) ∧ (a : Int) ≤ 65535) ∧ 0 ≤ (b : Int) ∧ (b : Int) ≤ 65535 by omega) 8 (echo_len _ _ _ _)⟩
theorem rnote_fix (d : List Nat) (hd : d.length ≤ 30000) : ∃ E M : Nat, M ≤ 1480 ∧ ∀ (t c : Nat) (w : World) (v : Value), Rb (fun _ => True) w v d → (t = 3 ∨ t = 11) → c < 256 →
    Calls Try.prog 48 #[.agg #[.int .i64 t, .int .i64 c, v]] w (FixRes w E M) :=
  ⟨_, _, by split <;> omega, fun t c w v hr ht hc => (rnote_any t c w hr hd).mono fun e w' h => fix_of rfl h (show ntOk t ∧ 0 ≤ (c : Int) ∧ (c : Int) ≤ 255 from ⟨by unfold ntOk; omega, by omega⟩) 8 (note_len _ _ _)⟩
theorem rudp_fix (d : List Nat) (hd : d.length ≤ 30000) : ∃ E M : Nat, M ≤ 1480 ∧ ∀ (src dst a b : Nat) (w : World) (v : Value), Rb (fun _ => True) w v d → src < 4294967296 → dst < 4294967296 → a < 65536 → b < 65536 →
    Calls Try.prog 49 #[.int .u32 src, .int .u32 dst, .agg #[.int .i64 a, .int .i64 b, v]] w (FixRes w E M) :=
  ⟨_, _, by split <;> omega, fun src dst a b w v hr hs hds ha hb => (rudp_any src dst a b w hr hd hs hds).mono fun e w' h => fix_of rfl h (show (0 ≤ (a : Int) ∧ (a : Int) ≤ 65535) ∧ 0 ≤ (b : Int) ∧ (b : Int) ≤ 65535 by omega) 8 (udp_len _ _ _ _ _)⟩
theorem rtcp_fix (d : List Nat) (hd : d.length ≤ 30000) : ∃ E M : Nat, M ≤ 1480 ∧ ∀ (src dst a b c f g h : Nat) (w : World) (v : Value), Rb (fun _ => True) w v d → src < 4294967296 → dst < 4294967296 → a < 65536 → b < 65536 → c < 4294967296 → f < 4294967296 → g < 256 → h < 65536 →
    Calls Try.prog 50 #[.int .u32 src, .int .u32 dst, .agg #[.int .i64 a, .int .i64 b, .int .i64 c, .int .i64 f, .int .i64 g, .int .i64 h, v]] w (FixRes w E M) :=
  ⟨_, _, by split <;> omega, fun src dst a b c f g h w v hr hs hds ha hb hc hf hg hh => (rtcp_any src dst a b c f g h w hr hd hs hds).mono fun e w' k => fix_of rfl k (show (( 0 ≤ (a : Int) ∧ (a : Int) ≤ 65535) ∧ (0 ≤ (b : Int) ∧ (b : Int) ≤ 65535) ∧ 0 ≤ (h : Int) ∧ (h : Int) ≤ 65535) ∧ ((0 ≤ (c : Int) ∧ (c : Int) < 4294967296) ∧ 0 ≤ (f : Int) ∧ (f : Int) < 4294967296) ∧ 0 ≤ (g : Int) ∧ (g : Int) ≤ 255 by omega) 20 (tcp_len _ _ _ _ _ _ _ _ _)⟩
def MsgOwn (B b : Nat) (w0 : World) (e : Ending) (w' : World) : Prop :=
  ∃ (g : Nat) (v0 v1 v2 v3 : Value) (n0 n1 n2 n3 : Nat), e = .returned (.slice (some ⟨g, 0, none⟩) 4 4) ∧ (n0 ≤ 1480 ∧ n1 ≤ 1480 ∧ n2 ≤ 1480 ∧ n3 ≤ 1480) ∧ CL w' g [v0, v1, v2, v3] ∧ b < g ∧ Own b w' v0 n0 ∧ Own b w' v1 n1 ∧ Own b w' v2 n2 ∧ Own b w' v3 n3 ∧ Cod B w' b ∧ Gr w0 w'
set_option maxHeartbeats 4000000 in
theorem messages_own {B : Nat} {p : Nat → Prop} {v : Value} {d : List Nat} (b src dst : Nat) (w0 w : World) (hG : Gr w0 w) (hbw : w0.heap.size ≤ b) (hc : Cod B w b) (hr : Rb p w0 v d) (hs : src < 4294967296) (hd : dst < 4294967296) (hl : d.length ≤ 1550) :
    Calls Try.prog 13 #[.pointer (some ⟨b, 0, none⟩), .int .u32 src, .int .u32 dst, v] w (MsgOwn B b w0) := by
  have HR := Lib.hid hr
  obtain ⟨av, cv, rfl, -, -⟩ := hr.form
  obtain ⟨N, hN⟩ : ∃ N, N = d.length := ⟨_, rfl⟩
  have HN := Lib.hid hN
  have hN2 : N ≤ 1550 := by omega
  obtain ⟨EE, NE, hNE, hFE⟩ := recho_fix d (by omega)
  obtain ⟨EN, NT, hNT, hFN⟩ := rnote_fix (List.replicate 28 0 ++ d) (by rw [List.length_append, List.length_replicate]; omega)
  obtain ⟨EU, NU, hNU, hFU⟩ := rudp_fix d (by omega)
  obtain ⟨ET, NV, hNV, hFT⟩ := rtcp_fix d (by omega)
  have HFE := Lib.hid hFE
  have HFN := Lib.hid hFN
  have HFU := Lib.hid hFU
  have HFT := Lib.hid hFT
  have HLS := Lib.hid (show NE ≤ 1480 ∧ NT ≤ 1480 ∧ NU ≤ 1480 ∧ NV ≤ 1480 from ⟨hNE, hNT, hNU, hNV⟩)
  clear hFE hFN hFU hFT hNE hNT hNU hNV
  have HN2 := Lib.hid hN2
  rw [← hN] at HR ⊢
  obtain ⟨NQ, hNQ⟩ : ∃ M, M = 28 + N := ⟨_, rfl⟩
  have HNQ := Lib.hid hNQ
  obtain ⟨ti, hi1, hi2, hi3, hi4⟩ := byteInfoB
  clear hr hl hN hNQ
  go_enter Try.func13, Try.ntmps13
  go_upto_region 2 with (first
    | (refine wpList_make_full _ rfl _ _ 22 rfl w.heap.size 5 ti (.int .u8 0) 1 Try.underlying22 hi1 hi2 hi3 .i64 .i64 _ _ 28 rfl rfl (by simp) (by simp) (by rw [hi4]; omega) (by unfold maxLen; omega) (Nat.le_refl _) ?_; intro w1 hown1 hgrow1; have hblk := made_zero hown1; have hg : Gr w w1 := Gr.grownNew (Gr.refl _) hgrow1 (fun _ h => by cases h); have hz := owb_block (L := List.replicate 28 0) hblk (Nat.le_refl w.heap.size) (by simp) (by intro x hx; have := List.eq_of_mem_replicate hx; omega); clear hown1 hgrow1 hblk)
    | (at_builtin; refine wpList_app (base := w.heap.size) rfl (.tmp 18) (.tmp 19) rfl rfl hz rfl (HR.out.gr (hG.step hg)) (by rw [← HN.out]; simp; omega) (Gr.size hg) ?_; intro vq w2 hq g2; have hg2 : Gr w w2 := hg.grownNew g2 hz.above; clear g2))
  have hbl := hc.lt
  replace hq := hq.off hbl
  replace hG := hG.step hg2
  replace hc := hc.gr hg2
  clear hg hg2 hz hi1 hi2 hi3 hi4 hbl
  obtain ⟨aq, cq, rfl, -, -⟩ := id hq.form
  have HQL := Lib.hid (show (List.replicate 28 0 ++ d).length = NQ by rw [List.length_append, List.length_replicate, ← HN.out, HNQ.out])
  rw [HQL.out] at hq ⊢
  go_wp2_with fail
  refine (next_nat b 2 w2 (by omega) (by omega) hc).mono ?_
  rintro e w3 ⟨x1, rfl, hltx1, hc', hx⟩
  replace hG := Ex.gr hG hbw hx
  replace hc := hc'
  clear hc'
  replace hq := hq.ex hx (fun _ h => h)
  clear hx
  go_wp2_with fail
  refine (next_nat b 65536 w3 (by omega) (by omega) hc).mono ?_
  rintro e w4 ⟨i, rfl, hlti, hc', hx⟩
  replace hG := Ex.gr hG hbw hx
  replace hc := hc'
  clear hc'
  replace hq := hq.ex hx (fun _ h => h)
  clear hx
  go_wp2_with fail
  refine (next_nat b 65536 w4 (by omega) (by omega) hc).mono ?_
  rintro e w5 ⟨s, rfl, hlts, hc', hx⟩
  replace hG := Ex.gr hG hbw hx
  replace hc := hc'
  clear hc'
  replace hq := hq.ex hx (fun _ h => h)
  clear hx
  go_wp2_with fail
  refine (HFE.out ((x1 : Int) == 1) i s w5 _ (HR.out.any.gr hG) (by omega) (by omega)).mono ?_
  rintro e w6 ⟨ve, le, rfl, he, hle, hg⟩
  replace he := Own.of he hle hc.lt
  clear hle
  replace hG := hG.step hg
  replace hc := hc.gr hg
  replace hq := hq.gr hg
  clear hg
  obtain ⟨ae, ce, rfl⟩ := he.form
  go_wp2_with fail
  refine region_cut6 ?aF (fun _ _ t c an cn W => (t = 3 ∨ t = 11) ∧ c < 256 ∧ Gr w0 W ∧ Cod B W b ∧ Own b W (.slice ae NE ce) NE ∧ Own b W (.slice an NT cn) NT) ?h ?k
  case h =>
    replace hG := hG.step (Gr.drew (Gr.refl w6))
    replace hc := hc.gr (Gr.drew (Gr.refl w6))
    replace he := he.gr (Gr.drew (Gr.refl w6))
    replace hq := hq.gr (Gr.drew (Gr.refl w6))
    refine region_plain (fun _ => True) (by kernel_rfl) ?_
    generalize w6.drew = w7 at hG hc he hq ⊢
    refine take_at 1 (some 36) (v := ?vk1) rfl rfl (by kernel_rfl) (by kernel_rfl) (by kernel_rfl) (by rfl) ?yk1 trivial ?tk1
    case yk1 =>
      intro w' hSw
      go_simp
      (try with_reducible rfl)
    simp only [Act.put, List.setIfInBounds_toArray, List.set_cons_zero, List.set_cons_succ]
    refine take_at 5 (some 40) (v := ?vk5) rfl rfl (by kernel_rfl) (by kernel_rfl) (by kernel_rfl) (by rfl) ?yk5 trivial ?tk5
    case yk5 =>
      intro w' hSw
      go_simp
      (try with_reducible rfl)
    simp only [Act.put, List.setIfInBounds_toArray, List.set_cons_zero, List.set_cons_succ]
    refine take_at 7 (some 42) (v := ?vk7) rfl rfl (by kernel_rfl) (by kernel_rfl) (by kernel_rfl) (by rfl) ?yk7 trivial ?tk7
    case yk7 =>
      intro w' hSw
      go_simp
      (try with_reducible rfl)
    simp only [Act.put, List.setIfInBounds_toArray, List.set_cons_zero, List.set_cons_succ]
    refine next_two 0 2 rfl rfl (by kernel_rfl) (by rfl) (by rfl) (fun K hK => ?_) (fun K hK => ?_)
    · skip
      go_simp
      have hcl := CL.new w7 [.int .i64 3, .int .i64 11] 3 _ rfl
      have hg := Gr.alloc (Gr.refl w7) (.cells #[.int .i64 3, .int .i64 11] 3)
      have hgb : w7.heap.size ≠ b := by have := hc.lt; omega
      replace hG := hG.step hg
      replace hc := hc.gr hg
      replace he := he.gr hg
      replace hq := hq.gr hg
      refine hK _ _ trivial ?_
      clear hK K hg
      generalize w7.alloc (.cells #[.int .i64 3, .int .i64 11] 3) = w8 at hG hc he hq hcl ⊢
      generalize w7.heap.size = g at hcl hgb ⊢
      refine next_at 2 rfl (by kernel_rfl) (by rfl) (fun K hK => ?_)
      go_simp
      refine (next_nat b 2 w8 (by omega) (by omega) hc).mono ?_
      rintro e w9 ⟨x, rfl, hltx, hc', hx⟩
      replace hG := Ex.gr hG hbw hx
      replace hc := hc'
      replace he := he.ex hx (fun _ h => h)
      replace hq := hq.ex hx (fun _ h => h)
      clear hc'
      replace hcl := hcl.ex hx hgb
      refine hK _ _ trivial ?_
      clear hK K hx
      have hx2 : (x : Int) < 2 := by omega
      refine take_at 3 (some 38) (v := ?va3) rfl rfl (by kernel_rfl) (by kernel_rfl) (by kernel_rfl) (by rfl) ?ya3 trivial ?ta3
      case ya3 =>
        intro w' hSw
        go_simp
        (try with_reducible rfl)
      simp only [Act.put, List.setIfInBounds_toArray, List.set_cons_zero, List.set_cons_succ]
      refine next_two 4 6 rfl rfl (by kernel_rfl) (by rfl) (by rfl) (fun K hK => ?_) (fun K hK => ?_)
      · skip
        obtain ⟨t, ht, hcell⟩ : ∃ t : Nat, (t = 3 ∨ t = 11) ∧ w9.cell? ⟨g, x, none⟩ = some (.int .i64 t) := by
          rcases (show x = 0 ∨ x = 1 by omega) with rfl | rfl
          · exact ⟨3, .inl rfl, (hcl.at' 0 _ rfl).1⟩
          · exact ⟨11, .inr rfl, (hcl.at' 1 _ rfl).1⟩
        go_simp
        refine hK _ _ trivial ?_
        clear hK K hcell
        refine next_at 6 rfl (by kernel_rfl) (by rfl) (fun K hK => ?_)
        go_simp
        refine (next_nat b 256 w9 (by omega) (by omega) hc).mono ?_
        rintro e wx ⟨c, rfl, hltc, hc', hx⟩
        replace hG := Ex.gr hG hbw hx
        replace hc := hc'
        replace he := he.ex hx (fun _ h => h)
        replace hq := hq.ex hx (fun _ h => h)
        clear hc'
        have hcB : c < 256 := by omega
        skip
        refine hK _ _ trivial ?_
        clear hK K hx
        refine next_at 8 rfl (by kernel_rfl) (by rfl) (fun K hK => ?_)
        go_simp
        refine hK _ _ trivial ?_
        clear hK K
        refine next_at 9 rfl (by kernel_rfl) (by rfl) (fun K hK => ?_)
        go_simp
        refine (HFN.out t c wx _ hq.any ht hcB).mono ?_
        rintro e we ⟨vn, ln, rfl, hn, hln, hg⟩
        replace hn := Own.of hn hln hc.lt
        clear hln
        replace hG := hG.step hg
        replace hc := hc.gr hg
        replace he := he.gr hg
        replace hq := hq.gr hg
        obtain ⟨an, cn, rfl⟩ := hn.form
        refine hK _ _ trivial ?_
        clear hK K hg
        refine take_at 10 (some 34) (v := ?vza10) rfl rfl (by kernel_rfl) (by kernel_rfl) (by kernel_rfl) (by rfl) ?yza10 trivial ?tza10
        case yza10 =>
          intro w' hSw
          go_simp
          (try with_reducible rfl)
        simp only [Act.put, List.setIfInBounds_toArray, List.set_cons_zero, List.set_cons_succ]
        refine take_at 11 (some 45) (v := ?vza11) rfl rfl (by kernel_rfl) (by kernel_rfl) (by kernel_rfl) (by rfl) ?yza11 trivial ?tza11
        case yza11 =>
          intro w' hSw
          go_simp
          (try with_reducible rfl)
        simp only [Act.put, List.setIfInBounds_toArray, List.set_cons_zero, List.set_cons_succ]
        refine take_at 12 (some 46) (v := ?vza12) rfl rfl (by kernel_rfl) (by kernel_rfl) (by kernel_rfl) (by rfl) ?yza12 trivial ?tza12
        case yza12 =>
          intro w' hSw
          go_simp
          (try with_reducible rfl)
        simp only [Act.put, List.setIfInBounds_toArray, List.set_cons_zero, List.set_cons_succ]
        refine next_at 13 rfl (by kernel_rfl) (by rfl) (fun K hK => ?_)
        go_simp
        refine hK _ _ trivial ?_
        clear hK K
        refine next_at 14 rfl (by kernel_rfl) (by rfl) (fun K hK => ?_)
        go_simp
        refine hK _ _ trivial ?_
        clear hK K
        refine wpAnyH_done (by kernel_rfl) ?_ _
        refine qz_normal ⟨rfl, g, x, t, c, an, cn, ?_, ht, hcB, hG, hc, he, hn⟩
        first | with_reducible rfl | exact rfl
      · skip
        go_simp
        refine (next_nat b 256 w9 (by omega) (by omega) hc).mono ?_
        rintro e wx ⟨c, rfl, hltc, hc', hx⟩
        replace hG := Ex.gr hG hbw hx
        replace hc := hc'
        replace he := he.ex hx (fun _ h => h)
        replace hq := hq.ex hx (fun _ h => h)
        clear hc'
        have hcB : c < 256 := by omega
        replace hcl := hcl.ex hx hgb
        refine hK _ _ trivial ?_
        clear hK K hx
        refine next_at 4 rfl (by kernel_rfl) (by rfl) (fun K hK => ?_)
        obtain ⟨t, ht, hcell⟩ : ∃ t : Nat, (t = 3 ∨ t = 11) ∧ wx.cell? ⟨g, x, none⟩ = some (.int .i64 t) := by
          rcases (show x = 0 ∨ x = 1 by omega) with rfl | rfl
          · exact ⟨3, .inl rfl, (hcl.at' 0 _ rfl).1⟩
          · exact ⟨11, .inr rfl, (hcl.at' 1 _ rfl).1⟩
        go_simp
        refine hK _ _ trivial ?_
        clear hK K hcell
        refine next_at 8 rfl (by kernel_rfl) (by rfl) (fun K hK => ?_)
        go_simp
        refine hK _ _ trivial ?_
        clear hK K
        refine next_at 9 rfl (by kernel_rfl) (by rfl) (fun K hK => ?_)
        go_simp
        refine (HFN.out t c wx _ hq.any ht hcB).mono ?_
        rintro e we ⟨vn, ln, rfl, hn, hln, hg⟩
        replace hn := Own.of hn hln hc.lt
        clear hln
        replace hG := hG.step hg
        replace hc := hc.gr hg
        replace he := he.gr hg
        replace hq := hq.gr hg
        obtain ⟨an, cn, rfl⟩ := hn.form
        refine hK _ _ trivial ?_
        clear hK K hg
        refine take_at 10 (some 34) (v := ?vzb10) rfl rfl (by kernel_rfl) (by kernel_rfl) (by kernel_rfl) (by rfl) ?yzb10 trivial ?tzb10
        case yzb10 =>
          intro w' hSw
          go_simp
          (try with_reducible rfl)
        simp only [Act.put, List.setIfInBounds_toArray, List.set_cons_zero, List.set_cons_succ]
        refine take_at 11 (some 45) (v := ?vzb11) rfl rfl (by kernel_rfl) (by kernel_rfl) (by kernel_rfl) (by rfl) ?yzb11 trivial ?tzb11
        case yzb11 =>
          intro w' hSw
          go_simp
          (try with_reducible rfl)
        simp only [Act.put, List.setIfInBounds_toArray, List.set_cons_zero, List.set_cons_succ]
        refine take_at 12 (some 46) (v := ?vzb12) rfl rfl (by kernel_rfl) (by kernel_rfl) (by kernel_rfl) (by rfl) ?yzb12 trivial ?tzb12
        case yzb12 =>
          intro w' hSw
          go_simp
          (try with_reducible rfl)
        simp only [Act.put, List.setIfInBounds_toArray, List.set_cons_zero, List.set_cons_succ]
        refine next_at 13 rfl (by kernel_rfl) (by rfl) (fun K hK => ?_)
        go_simp
        refine hK _ _ trivial ?_
        clear hK K
        refine next_at 14 rfl (by kernel_rfl) (by rfl) (fun K hK => ?_)
        go_simp
        refine hK _ _ trivial ?_
        clear hK K
        refine wpAnyH_done (by kernel_rfl) ?_ _
        refine qz_normal ⟨rfl, g, x, t, c, an, cn, ?_, ht, hcB, hG, hc, he, hn⟩
        first | with_reducible rfl | exact rfl
    · skip
      go_simp
      refine (next_nat b 2 w7 (by omega) (by omega) hc).mono ?_
      rintro e w8 ⟨x, rfl, hltx, hc', hx⟩
      replace hG := Ex.gr hG hbw hx
      replace hc := hc'
      replace he := he.ex hx (fun _ h => h)
      replace hq := hq.ex hx (fun _ h => h)
      clear hc'
      skip
      refine hK _ _ trivial ?_
      clear hK K hx
      refine next_two 0 6 rfl rfl (by kernel_rfl) (by rfl) (by rfl) (fun K hK => ?_) (fun K hK => ?_)
      · skip
        go_simp
        have hcl := CL.new w8 [.int .i64 3, .int .i64 11] 3 _ rfl
        have hg := Gr.alloc (Gr.refl w8) (.cells #[.int .i64 3, .int .i64 11] 3)
        have hgb : w8.heap.size ≠ b := by have := hc.lt; omega
        replace hG := hG.step hg
        replace hc := hc.gr hg
        replace he := he.gr hg
        replace hq := hq.gr hg
        refine hK _ _ trivial ?_
        clear hK K hg
        generalize w8.alloc (.cells #[.int .i64 3, .int .i64 11] 3) = w9 at hG hc he hq hcl ⊢
        generalize w8.heap.size = g at hcl hgb ⊢
        have hx2 : (x : Int) < 2 := by omega
        refine take_at 3 (some 38) (v := ?vb3) rfl rfl (by kernel_rfl) (by kernel_rfl) (by kernel_rfl) (by rfl) ?yb3 trivial ?tb3
        case yb3 =>
          intro w' hSw
          go_simp
          (try with_reducible rfl)
        simp only [Act.put, List.setIfInBounds_toArray, List.set_cons_zero, List.set_cons_succ]
        refine next_two 4 6 rfl rfl (by kernel_rfl) (by rfl) (by rfl) (fun K hK => ?_) (fun K hK => ?_)
        · skip
          obtain ⟨t, ht, hcell⟩ : ∃ t : Nat, (t = 3 ∨ t = 11) ∧ w9.cell? ⟨g, x, none⟩ = some (.int .i64 t) := by
            rcases (show x = 0 ∨ x = 1 by omega) with rfl | rfl
            · exact ⟨3, .inl rfl, (hcl.at' 0 _ rfl).1⟩
            · exact ⟨11, .inr rfl, (hcl.at' 1 _ rfl).1⟩
          go_simp
          refine hK _ _ trivial ?_
          clear hK K hcell
          refine next_at 6 rfl (by kernel_rfl) (by rfl) (fun K hK => ?_)
          go_simp
          refine (next_nat b 256 w9 (by omega) (by omega) hc).mono ?_
          rintro e wx ⟨c, rfl, hltc, hc', hx⟩
          replace hG := Ex.gr hG hbw hx
          replace hc := hc'
          replace he := he.ex hx (fun _ h => h)
          replace hq := hq.ex hx (fun _ h => h)
          clear hc'
          have hcB : c < 256 := by omega
          skip
          refine hK _ _ trivial ?_
          clear hK K hx
          refine next_at 8 rfl (by kernel_rfl) (by rfl) (fun K hK => ?_)
          go_simp
          refine hK _ _ trivial ?_
          clear hK K
          refine next_at 9 rfl (by kernel_rfl) (by rfl) (fun K hK => ?_)
          go_simp
          refine (HFN.out t c wx _ hq.any ht hcB).mono ?_
          rintro e we ⟨vn, ln, rfl, hn, hln, hg⟩
          replace hn := Own.of hn hln hc.lt
          clear hln
          replace hG := hG.step hg
          replace hc := hc.gr hg
          replace he := he.gr hg
          replace hq := hq.gr hg
          obtain ⟨an, cn, rfl⟩ := hn.form
          refine hK _ _ trivial ?_
          clear hK K hg
          refine take_at 10 (some 34) (v := ?vzc10) rfl rfl (by kernel_rfl) (by kernel_rfl) (by kernel_rfl) (by rfl) ?yzc10 trivial ?tzc10
          case yzc10 =>
            intro w' hSw
            go_simp
            (try with_reducible rfl)
          simp only [Act.put, List.setIfInBounds_toArray, List.set_cons_zero, List.set_cons_succ]
          refine take_at 11 (some 45) (v := ?vzc11) rfl rfl (by kernel_rfl) (by kernel_rfl) (by kernel_rfl) (by rfl) ?yzc11 trivial ?tzc11
          case yzc11 =>
            intro w' hSw
            go_simp
            (try with_reducible rfl)
          simp only [Act.put, List.setIfInBounds_toArray, List.set_cons_zero, List.set_cons_succ]
          refine take_at 12 (some 46) (v := ?vzc12) rfl rfl (by kernel_rfl) (by kernel_rfl) (by kernel_rfl) (by rfl) ?yzc12 trivial ?tzc12
          case yzc12 =>
            intro w' hSw
            go_simp
            (try with_reducible rfl)
          simp only [Act.put, List.setIfInBounds_toArray, List.set_cons_zero, List.set_cons_succ]
          refine next_at 13 rfl (by kernel_rfl) (by rfl) (fun K hK => ?_)
          go_simp
          refine hK _ _ trivial ?_
          clear hK K
          refine next_at 14 rfl (by kernel_rfl) (by rfl) (fun K hK => ?_)
          go_simp
          refine hK _ _ trivial ?_
          clear hK K
          refine wpAnyH_done (by kernel_rfl) ?_ _
          refine qz_normal ⟨rfl, g, x, t, c, an, cn, ?_, ht, hcB, hG, hc, he, hn⟩
          first | with_reducible rfl | exact rfl
        · skip
          go_simp
          refine (next_nat b 256 w9 (by omega) (by omega) hc).mono ?_
          rintro e wx ⟨c, rfl, hltc, hc', hx⟩
          replace hG := Ex.gr hG hbw hx
          replace hc := hc'
          replace he := he.ex hx (fun _ h => h)
          replace hq := hq.ex hx (fun _ h => h)
          clear hc'
          have hcB : c < 256 := by omega
          replace hcl := hcl.ex hx hgb
          refine hK _ _ trivial ?_
          clear hK K hx
          refine next_at 4 rfl (by kernel_rfl) (by rfl) (fun K hK => ?_)
          obtain ⟨t, ht, hcell⟩ : ∃ t : Nat, (t = 3 ∨ t = 11) ∧ wx.cell? ⟨g, x, none⟩ = some (.int .i64 t) := by
            rcases (show x = 0 ∨ x = 1 by omega) with rfl | rfl
            · exact ⟨3, .inl rfl, (hcl.at' 0 _ rfl).1⟩
            · exact ⟨11, .inr rfl, (hcl.at' 1 _ rfl).1⟩
          go_simp
          refine hK _ _ trivial ?_
          clear hK K hcell
          refine next_at 8 rfl (by kernel_rfl) (by rfl) (fun K hK => ?_)
          go_simp
          refine hK _ _ trivial ?_
          clear hK K
          refine next_at 9 rfl (by kernel_rfl) (by rfl) (fun K hK => ?_)
          go_simp
          refine (HFN.out t c wx _ hq.any ht hcB).mono ?_
          rintro e we ⟨vn, ln, rfl, hn, hln, hg⟩
          replace hn := Own.of hn hln hc.lt
          clear hln
          replace hG := hG.step hg
          replace hc := hc.gr hg
          replace he := he.gr hg
          replace hq := hq.gr hg
          obtain ⟨an, cn, rfl⟩ := hn.form
          refine hK _ _ trivial ?_
          clear hK K hg
          refine take_at 10 (some 34) (v := ?vzd10) rfl rfl (by kernel_rfl) (by kernel_rfl) (by kernel_rfl) (by rfl) ?yzd10 trivial ?tzd10
          case yzd10 =>
            intro w' hSw
            go_simp
            (try with_reducible rfl)
          simp only [Act.put, List.setIfInBounds_toArray, List.set_cons_zero, List.set_cons_succ]
          refine take_at 11 (some 45) (v := ?vzd11) rfl rfl (by kernel_rfl) (by kernel_rfl) (by kernel_rfl) (by rfl) ?yzd11 trivial ?tzd11
          case yzd11 =>
            intro w' hSw
            go_simp
            (try with_reducible rfl)
          simp only [Act.put, List.setIfInBounds_toArray, List.set_cons_zero, List.set_cons_succ]
          refine take_at 12 (some 46) (v := ?vzd12) rfl rfl (by kernel_rfl) (by kernel_rfl) (by kernel_rfl) (by rfl) ?yzd12 trivial ?tzd12
          case yzd12 =>
            intro w' hSw
            go_simp
            (try with_reducible rfl)
          simp only [Act.put, List.setIfInBounds_toArray, List.set_cons_zero, List.set_cons_succ]
          refine next_at 13 rfl (by kernel_rfl) (by rfl) (fun K hK => ?_)
          go_simp
          refine hK _ _ trivial ?_
          clear hK K
          refine next_at 14 rfl (by kernel_rfl) (by rfl) (fun K hK => ?_)
          go_simp
          refine hK _ _ trivial ?_
          clear hK K
          refine wpAnyH_done (by kernel_rfl) ?_ _
          refine qz_normal ⟨rfl, g, x, t, c, an, cn, ?_, ht, hcB, hG, hc, he, hn⟩
          first | with_reducible rfl | exact rfl
      · skip
        go_simp
        refine (next_nat b 256 w8 (by omega) (by omega) hc).mono ?_
        rintro e w9 ⟨c, rfl, hltc, hc', hx⟩
        replace hG := Ex.gr hG hbw hx
        replace hc := hc'
        replace he := he.ex hx (fun _ h => h)
        replace hq := hq.ex hx (fun _ h => h)
        clear hc'
        have hcB : c < 256 := by omega
        skip
        refine hK _ _ trivial ?_
        clear hK K hx
        refine next_at 0 rfl (by kernel_rfl) (by rfl) (fun K hK => ?_)
        go_simp
        have hcl := CL.new w9 [.int .i64 3, .int .i64 11] 3 _ rfl
        have hg := Gr.alloc (Gr.refl w9) (.cells #[.int .i64 3, .int .i64 11] 3)
        have hgb : w9.heap.size ≠ b := by have := hc.lt; omega
        replace hG := hG.step hg
        replace hc := hc.gr hg
        replace he := he.gr hg
        replace hq := hq.gr hg
        refine hK _ _ trivial ?_
        clear hK K hg
        generalize w9.alloc (.cells #[.int .i64 3, .int .i64 11] 3) = wx at hG hc he hq hcl ⊢
        generalize w9.heap.size = g at hcl hgb ⊢
        have hx2 : (x : Int) < 2 := by omega
        refine take_at 3 (some 38) (v := ?vc3) rfl rfl (by kernel_rfl) (by kernel_rfl) (by kernel_rfl) (by rfl) ?yc3 trivial ?tc3
        case yc3 =>
          intro w' hSw
          go_simp
          (try with_reducible rfl)
        simp only [Act.put, List.setIfInBounds_toArray, List.set_cons_zero, List.set_cons_succ]
        refine next_at 4 rfl (by kernel_rfl) (by rfl) (fun K hK => ?_)
        obtain ⟨t, ht, hcell⟩ : ∃ t : Nat, (t = 3 ∨ t = 11) ∧ wx.cell? ⟨g, x, none⟩ = some (.int .i64 t) := by
          rcases (show x = 0 ∨ x = 1 by omega) with rfl | rfl
          · exact ⟨3, .inl rfl, (hcl.at' 0 _ rfl).1⟩
          · exact ⟨11, .inr rfl, (hcl.at' 1 _ rfl).1⟩
        go_simp
        refine hK _ _ trivial ?_
        clear hK K hcell
        refine next_at 8 rfl (by kernel_rfl) (by rfl) (fun K hK => ?_)
        go_simp
        refine hK _ _ trivial ?_
        clear hK K
        refine next_at 9 rfl (by kernel_rfl) (by rfl) (fun K hK => ?_)
        go_simp
        refine (HFN.out t c wx _ hq.any ht hcB).mono ?_
        rintro e we ⟨vn, ln, rfl, hn, hln, hg⟩
        replace hn := Own.of hn hln hc.lt
        clear hln
        replace hG := hG.step hg
        replace hc := hc.gr hg
        replace he := he.gr hg
        replace hq := hq.gr hg
        obtain ⟨an, cn, rfl⟩ := hn.form
        refine hK _ _ trivial ?_
        clear hK K hg
        refine take_at 10 (some 34) (v := ?vze10) rfl rfl (by kernel_rfl) (by kernel_rfl) (by kernel_rfl) (by rfl) ?yze10 trivial ?tze10
        case yze10 =>
          intro w' hSw
          go_simp
          (try with_reducible rfl)
        simp only [Act.put, List.setIfInBounds_toArray, List.set_cons_zero, List.set_cons_succ]
        refine take_at 11 (some 45) (v := ?vze11) rfl rfl (by kernel_rfl) (by kernel_rfl) (by kernel_rfl) (by rfl) ?yze11 trivial ?tze11
        case yze11 =>
          intro w' hSw
          go_simp
          (try with_reducible rfl)
        simp only [Act.put, List.setIfInBounds_toArray, List.set_cons_zero, List.set_cons_succ]
        refine take_at 12 (some 46) (v := ?vze12) rfl rfl (by kernel_rfl) (by kernel_rfl) (by kernel_rfl) (by rfl) ?yze12 trivial ?tze12
        case yze12 =>
          intro w' hSw
          go_simp
          (try with_reducible rfl)
        simp only [Act.put, List.setIfInBounds_toArray, List.set_cons_zero, List.set_cons_succ]
        refine next_at 13 rfl (by kernel_rfl) (by rfl) (fun K hK => ?_)
        go_simp
        refine hK _ _ trivial ?_
        clear hK K
        refine next_at 14 rfl (by kernel_rfl) (by rfl) (fun K hK => ?_)
        go_simp
        refine hK _ _ trivial ?_
        clear hK K
        refine wpAnyH_done (by kernel_rfl) ?_ _
        refine qz_normal ⟨rfl, g, x, t, c, an, cn, ?_, ht, hcB, hG, hc, he, hn⟩
        first | with_reducible rfl | exact rfl
  case k =>
    clear hG hc he hq
    intro g x t c an cn w8 ⟨ht, hc6, hG, hc, he, hn⟩
    go_wp2_with fail
    refine (next_nat b 65536 w8 (by omega) (by omega) hc).mono ?_
    rintro e w9 ⟨sp, rfl, hltsp, hc', hx⟩
    replace hG := Ex.gr hG hbw hx
    replace hc := hc'
    clear hc'
    replace he := he.ex hx (fun _ h => h)
    replace hn := hn.ex hx (fun _ h => h)
    clear hx
    go_wp2_with fail
    refine (next_nat b 65536 w9 (by omega) (by omega) hc).mono ?_
    rintro e w10 ⟨dp, rfl, hltdp, hc', hx⟩
    replace hG := Ex.gr hG hbw hx
    replace hc := hc'
    clear hc'
    replace he := he.ex hx (fun _ h => h)
    replace hn := hn.ex hx (fun _ h => h)
    clear hx
    go_wp2_with fail
    refine (HFU.out src dst sp dp w10 _ (HR.out.any.gr hG) hs hd (by omega) (by omega)).mono ?_
    rintro e w11 ⟨vu, lu, rfl, hu, hlu, hg⟩
    replace hu := Own.of hu hlu hc.lt
    clear hlu
    replace hG := hG.step hg
    replace hc := hc.gr hg
    replace he := he.gr hg
    replace hn := hn.gr hg
    clear hg
    obtain ⟨au, cu, rfl⟩ := hu.form
    go_wp2_with fail
    refine (next_nat b 65536 w11 (by omega) (by omega) hc).mono ?_
    rintro e w12 ⟨sq1, rfl, hltsq1, hc', hx⟩
    replace hG := Ex.gr hG hbw hx
    replace hc := hc'
    clear hc'
    replace hu := hu.ex hx (fun _ h => h)
    replace he := he.ex hx (fun _ h => h)
    replace hn := hn.ex hx (fun _ h => h)
    clear hx
    go_wp2_with fail
    refine (next_nat b 65536 w12 (by omega) (by omega) hc).mono ?_
    rintro e w13 ⟨dq1, rfl, hltdq1, hc', hx⟩
    replace hG := Ex.gr hG hbw hx
    replace hc := hc'
    clear hc'
    replace hu := hu.ex hx (fun _ h => h)
    replace he := he.ex hx (fun _ h => h)
    replace hn := hn.ex hx (fun _ h => h)
    clear hx
    go_wp2_with fail
    refine (next_nat b 65536 w13 (by omega) (by omega) hc).mono ?_
    rintro e w14 ⟨sq, rfl, hltsq, hc', hx⟩
    replace hG := Ex.gr hG hbw hx
    replace hc := hc'
    clear hc'
    replace hu := hu.ex hx (fun _ h => h)
    replace he := he.ex hx (fun _ h => h)
    replace hn := hn.ex hx (fun _ h => h)
    clear hx
    go_wp2_with fail
    refine (next_nat b 65536 w14 (by omega) (by omega) hc).mono ?_
    rintro e w15 ⟨ak, rfl, hltak, hc', hx⟩
    replace hG := Ex.gr hG hbw hx
    replace hc := hc'
    clear hc'
    replace hu := hu.ex hx (fun _ h => h)
    replace he := he.ex hx (fun _ h => h)
    replace hn := hn.ex hx (fun _ h => h)
    clear hx
    go_wp2_with fail
    refine (next_nat b 256 w15 (by omega) (by omega) hc).mono ?_
    rintro e w16 ⟨fl, rfl, hltfl, hc', hx⟩
    replace hG := Ex.gr hG hbw hx
    replace hc := hc'
    clear hc'
    replace hu := hu.ex hx (fun _ h => h)
    replace he := he.ex hx (fun _ h => h)
    replace hn := hn.ex hx (fun _ h => h)
    clear hx
    go_wp2_with fail
    refine (next_nat b 65536 w16 (by omega) (by omega) hc).mono ?_
    rintro e w17 ⟨wi, rfl, hltwi, hc', hx⟩
    replace hG := Ex.gr hG hbw hx
    replace hc := hc'
    clear hc'
    replace hu := hu.ex hx (fun _ h => h)
    replace he := he.ex hx (fun _ h => h)
    replace hn := hn.ex hx (fun _ h => h)
    clear hx
    go_wp2_with fail
    refine (HFT.out src dst sq1 dq1 sq ak fl wi w17 _ (HR.out.any.gr hG) hs hd (by omega) (by omega) (by omega) (by omega) (by omega) (by omega)).mono ?_
    rintro e w18 ⟨vt, lt, rfl, htc, hlt0, hg⟩
    replace htc := Own.of htc hlt0 hc.lt
    clear hlt0
    replace hG := hG.step hg
    replace hc := hc.gr hg
    replace he := he.gr hg
    replace hn := hn.gr hg
    replace hu := hu.gr hg
    clear hg
    obtain ⟨at1, ct, rfl⟩ := htc.form
    have hg := Gr.alloc (Gr.refl w18) (.cells #[.slice ae NE ce, .slice an NT cn, .slice au NU cu, .slice at1 NV ct] 22)
    have hcl := CL.new w18 [.slice ae NE ce, .slice an NT cn, .slice au NU cu, .slice at1 NV ct] 22 _ rfl
    have hlt := hc.lt
    go_wp2_with fail
    go_ret
    exact ⟨_, _, _, _, _, NE, NT, NU, NV, rfl, HLS.out, hcl, hlt, he.gr hg, hn.gr hg, hu.gr hg, htc.gr hg, hc.gr hg, hG.step hg⟩
end Go.Proofs.Ytlkhdbgknkjioaa
