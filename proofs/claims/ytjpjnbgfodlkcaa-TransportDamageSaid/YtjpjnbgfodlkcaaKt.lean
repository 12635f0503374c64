/- The walk of the statement on damage. -/
import Derived.Test.YtjpjnbgfodlkcaaKz
import Derived.WalkKit
import Derived.WalkSpells
import Derived.WalkLawsBesides
import Derived.WalkSmall
import Derived.Handy
import Derived.BigQuiet
import Derived.Deep.QuietTactic
import Derived.Deep.RegionHeld3
import Derived.Deep.DeepFit
import Derived.Below
import Derived.Lib.Hide
import Derived.Lib.QuietBelow
namespace Go.Proofs.Ytjpjnbgfodlkcaa
open Go Go.RowKit Go.Sort
set_option maxRecDepth 100000
set_option linter.unusedVariables false
set_option linter.unusedSimpArgs false
theorem xor_byte {y z : Nat} (hy : y < 256) (hz : z < 256) : bits .xor .u8 (y : Int) (z : Int) = ((y ^^^ z : Nat) : Int) := by
  have e1 : (BitVec.ofInt 8 (y : Int)).toNat = y := by rw [BitVec.toNat_ofInt]; omega
  have e2 : (BitVec.ofInt 8 (z : Int)).toNat = z := by rw [BitVec.toNat_ofInt]; omega
  have h : y ^^^ z < 2 ^ 8 := Nat.xor_lt_two_pow (by omega) (by omega)
  show IntKind.u8.wrap ((BitVec.ofInt 8 (y : Int) ^^^ BitVec.ofInt 8 (z : Int)).toNat : Nat) = _
  rw [BitVec.toNat_xor, e1, e2, IntKind.wrap_u8]
  omega
theorem xor_ne {y z : Nat} (hz : z ≠ 0) : y ^^^ z ≠ y := by
  intro h
  have : y ^^^ (y ^^^ z) = y ^^^ y := by rw [h]
  rw [← Nat.xor_assoc, Nat.xor_self, Nat.zero_xor] at this
  exact hz this
set_option maxHeartbeats 4000000 in
theorem damage_walk {q : Nat → Prop} (sv vd : Value) (len at1 by1 : Nat) (d : List Nat) (w : World) (hl : len ≤ 9223372036854775807) (hb : BytesV w.heap.size w sv len) (hd : Rb q w vd d) (hat : at1 < 65536) (hby1 : by1 < 256) :
    Calls Try.prog 7 #[sv, vd, .int .u16 at1, .int .u8 by1] w fun e w' => e = .returned (.bool true) ∧ Gr w w' := by
  have HD := Lib.hid hd
  have HB := Lib.hid hb
  obtain ⟨ad, cd, rfl, hcd, hmd⟩ := hd.form
  obtain ⟨N, hN⟩ : ∃ N, N = d.length := ⟨_, rfl⟩
  have HN := Lib.hid hN
  rw [← hN] at HD hcd ⊢
  clear hd hb hN
  by_cases h1 : 1400 < N
  · have d1 : decide ((1400 : Int) < (N : Int)) = true := by rw [decide_eq_true_eq]; omega
    clear h1
    go_enter Try.func7, Try.ntmps7
    go_wp2_with fail
    refine (tawake_any _).mono ?_
    rintro e w1 ⟨rfl, hg⟩
    go_wp2_with fail
    go_ret
    exact ⟨rfl, hg⟩
  have d1 : decide ((1400 : Int) < (N : Int)) = false := by rw [decide_eq_false_iff_not]; omega
  have hN2 : N ≤ 1400 := by omega
  clear h1 hcd
  by_cases h0 : by1 = 0
  · have d2 : ((by1 : Int) == 0) = true := by simpa using h0
    clear h0
    go_enter Try.func7, Try.ntmps7
    go_wp2_with fail
    refine (tawake_any _).mono ?_
    rintro e w1 ⟨rfl, hg⟩
    go_wp2_with fail
    go_ret
    exact ⟨rfl, hg⟩
  have d2 : ((by1 : Int) == 0) = false := by simpa using h0
  have hby0 : by1 ≠ 0 := h0
  clear h0
  have eW : IntKind.i64.wrap (at1 : Int) = (at1 : Int) := by rw [IntWalk.i64_in _ (by omega)]
  go_enter Try.func7, Try.ntmps7
  go_wp2_with fail
  refine (tawake_any _).mono ?_
  rintro e w1 ⟨rfl, hg⟩
  go_wp2_with fail
  refine (new_any sv len 120 _ (by omega) hl (HB.out.gr hg)).mono ?_
  rintro e w2 ⟨b, rfl, hbe, hc, hg2⟩
  have hbw : w.heap.size ≤ b := by have := Gr.size hg; omega
  have hG := hg.step hg2
  clear hbe hg2 hg
  go_wp2_with fail
  refine (address_any b _ hc).mono ?_
  rintro e w3 ⟨src, rfl, hsrc, hc', hx⟩
  replace hG := Ex.gr hG hbw hx
  replace hc := hc'
  clear hc' hx
  go_wp2_with fail
  refine (address_any b _ hc).mono ?_
  rintro e w4 ⟨dst, rfl, hdst, hc', hx⟩
  replace hG := Ex.gr hG hbw hx
  replace hc := hc'
  clear hc' hx
  go_wp2_with fail
  refine (messages_any b src dst w w4 hG hbw hc HD.out hsrc hdst (by have := HN.out; omega)).mono ?_
  rintro e w5 ⟨r, i, s, t, c, sp, dp, sq1, dq1, sq, ak, fl, wi, g, v0, v1, v2, v3, rfl, hi, hs, ht, hcc, hsp, hdp, hsq1, hdq1, hsq, hak, hfl, hwi, hcl, hbg, h0, h1, h2, h3, hc5, hG5⟩
  replace hc := hc5
  replace hG := hG5
  clear hc5 hG5
  obtain ⟨a0, c0, rfl, -, -⟩ := h0.form
  obtain ⟨a1, c1, rfl, -, -⟩ := h1.form
  obtain ⟨a2, c2, rfl, -, -⟩ := h2.form
  obtain ⟨a3, c3, rfl, -, -⟩ := h3.form
  rw [echo_len, ← HN.out] at h0
  rw [note_len] at h1
  rw [udp_len, ← HN.out] at h2
  rw [tcp_len, ← HN.out] at h3
  rw [echo_len, note_len, udp_len, tcp_len, ← HN.out] at hcl
  generalize hn1 : 8 + N = N8 at h0 h2 hcl
  generalize hn2 : 8 + (List.replicate 28 0 ++ d).length = NT at h1 hcl
  generalize hn3 : 20 + N = N20 at h3 hcl
  have HN8 := Lib.hid hn1
  have HNT := Lib.hid hn2
  have HN20 := Lib.hid hn3
  clear hn1 hn2 hn3
  clear d2
  have HLE := Lib.hid (echo_len r i s d)
  have HLN := Lib.hid (note_len t c (List.replicate 28 0 ++ d))
  have HLU := Lib.hid (udp_len src dst sp dp d)
  have HLT := Lib.hid (tcp_len src dst sq1 dq1 sq ak fl wi d)
  rw [← HN.out, HN8.out] at HLE HLU
  rw [HNT.out] at HLN
  rw [← HN.out, HN20.out] at HLT
  have HQL := Lib.hid (show (List.replicate 28 0 ++ d).length = 28 + N by rw [List.length_append, List.length_replicate, HN.out])
  have hb8 := HN8.out
  have hb20 := HN20.out
  have hbT := HNT.out
  rw [HQL.out] at hbT
  obtain ⟨hm1, hm2, hm3, hm4, hm5, hm6⟩ : 0 < N8 ∧ N8 ≤ 1408 ∧ 0 < NT ∧ NT ≤ 1500 ∧ 0 < N20 ∧ N20 ≤ 1420 := by omega
  have HDE := Lib.hid (echo_dc r hi hs (show d.length ≤ 1472 by rw [← HN.out]; omega)).1
  have HDN := Lib.hid (note_dc ht hcc (show 28 ≤ (List.replicate 28 0 ++ d).length by rw [HQL.out]; omega) (by rw [HQL.out]; omega)).1
  have HDU := Lib.hid (udp_dc (src := src) (dst := dst) hsp hdp (show d.length ≤ 1472 by rw [← HN.out]; omega)).1
  have HDT := Lib.hid (tcp_dc (src := src) (dst := dst) hsq1 hdq1 (show sq < 4294967296 by omega) (show ak < 4294967296 by omega) hfl hwi (show d.length ≤ 1460 by rw [← HN.out]; omega)).1
  clear hb8 hb20 hbT hc hbg
  go_wp2_with fail
  go_loopw [13] (fun iv wr => ∃ k : Nat, k ≤ 4 ∧ iv = .int .i64 k ∧ CL wr g [.slice a0 N8 c0, .slice a1 NT c1, .slice a2 N8 c2, .slice a3 N20 c3] ∧ Rb (fun k => k ≠ b) wr (.slice a0 N8 c0) (echoL r i s d) ∧ Rb (fun k => k ≠ b) wr (.slice a1 NT c1) (noteL t c (List.replicate 28 0 ++ d)) ∧ Rb (fun k => k ≠ b) wr (.slice a2 N8 c2) (udpL src dst sp dp d) ∧ Rb (fun k => k ≠ b) wr (.slice a3 N20 c3) (tcpL src dst sq1 dq1 sq ak fl wi d) ∧ Gr w wr) (fun iv _ => 4 - (intOf iv).toNat)
  case atStart => exact ⟨0, by omega, rfl, hcl, h0, h1, h2, h3, hG⟩
  case round =>
    clear hcl h0 h1 h2 h3 hG
    obtain ⟨k, hk, rfl, hcl, h0, h1, h2, h3, hG⟩ := hrel
    rcases (show k = 0 ∨ k = 1 ∨ k = 2 ∨ k = 3 ∨ k = 4 by omega) with rfl | rfl | rfl | rfl | rfl
    · skip
      have hz := (hcl.at' 0 _ rfl).1
      have hbz := hcl.lt
      go_upto_region 10 with (at_builtin; refine wpList_app (base := wr.heap.size) rfl (.const (.slice none 0 0)) (.tmp 55) rfl rfl (OwB.nil _ _) rfl h0 (by rw [HLE.out]; simp; omega) (Nat.le_refl _) ?_; intro vb wb hob gb; have hg : Gr wr wb := Gr.grownNew (Gr.refl _) gb (fun _ h => by cases h); rw [List.nil_append] at hob; clear gb)
      have hby := hob.rb.bytes
      obtain ⟨gb, cb, rfl, hgb, hglt, hgc⟩ := hob.form (by rw [HLE.out]; omega)
      rw [HLE.out] at hob hgc ⊢
      obtain ⟨J, hJ⟩ : ∃ J, J = at1 % N8 := ⟨_, rfl⟩
      have hJlt : J < N8 := by rw [hJ]; exact Nat.mod_lt _ (by omega)
      have eJ : (at1 : Int) % (N8 : Int) = (J : Int) := by rw [hJ]; omega
      have hyl := getD_lt hby J
      obtain ⟨hx1, hx2⟩ := hob.cell HLE.out hJlt
      have hxb := xor_byte hyl hby1
      have hX : (echoL r i s d).getD J 0 ^^^ by1 < 256 := Nat.xor_lt_two_pow (n := 8) hyl hby1
      have hob2 := hob.set HLE.out J _ hX
      have HNE := Lib.hid (echo_damage hby HDE.out (by rw [HLE.out]; exact hJlt) hX (xor_ne (y := (echoL r i s d).getD J 0) hby0))
      have HLS := Lib.hid (show ((echoL r i s d).set J ((echoL r i s d).getD J 0 ^^^ by1)).length = N8 by rw [List.length_set]; exact HLE.out)
      generalize (echoL r i s d).set J ((echoL r i s d).getD J 0 ^^^ by1) = L2 at hob2 HNE HLS
      generalize (echoL r i s d).getD J 0 ^^^ by1 = X at *
      generalize (echoL r i s d).getD J 0 = y at *
      have hg2 := hg.setCell (p := ⟨gb, J, none⟩) hgb (.int .u8 (X : Int))
      clear hJ
      go_upto_region 11 with fail
      generalize wb.setCell ⟨gb, J, none⟩ (.int .u8 (X : Int)) = wc at hob2 hg2 ⊢
      replace hob2 := hob2.rb
      have hcl2 := hcl.gr hg2
      clear hob hx1 hx2 hxb eJ hg hz hyl hX hby
      have hz := (hcl2.at' 0 _ rfl).1
      go_wp2_with fail
      refine (echo_dec wc (h0.gr hg2) hi hs (by rw [← HN.out]; omega)).mono ?_
      rintro e wd ⟨vd, rfl, hvd, hg3⟩
      obtain ⟨ax, cx, rfl, -, -⟩ := hvd.rb.form
      replace hob2 := hob2.gr hg3
      replace hg2 := hg2.step hg3
      clear hg3 hvd hz hcl2
      go_wp2_with fail
      refine (decho_err wd hob2 (by rw [HLS.out]; omega) HNE.out).mono ?_
      rintro e we ⟨rfl, hg3⟩
      replace hg2 := hg2.step hg3
      have hE := HNE.out
      clear hg3 hob2 HNE HLS
      generalize dcEcho L2 = E at *
      have hE2 : ((E : Int) == 0) = false := by simp; omega
      have hE3 : ¬ (E : Int) = 0 := by omega
      go_wp2_with fail
      case roundEnd =>
        exact ⟨⟨0 + 1, by omega, by simp, hcl.gr hg2, h0.gr hg2, h1.gr hg2, h2.gr hg2, h3.gr hg2, hG.step hg2⟩, by simp [intOf]⟩
    · skip
      have hz := (hcl.at' 1 _ rfl).1
      have hbz := hcl.lt
      go_upto_region 10 with (at_builtin; refine wpList_app (base := wr.heap.size) rfl (.const (.slice none 0 0)) (.tmp 55) rfl rfl (OwB.nil _ _) rfl h1 (by rw [HLN.out]; simp; omega) (Nat.le_refl _) ?_; intro vb wb hob gb; have hg : Gr wr wb := Gr.grownNew (Gr.refl _) gb (fun _ h => by cases h); rw [List.nil_append] at hob; clear gb)
      have hby := hob.rb.bytes
      obtain ⟨gb, cb, rfl, hgb, hglt, hgc⟩ := hob.form (by rw [HLN.out]; omega)
      rw [HLN.out] at hob hgc ⊢
      obtain ⟨J, hJ⟩ : ∃ J, J = at1 % NT := ⟨_, rfl⟩
      have hJlt : J < NT := by rw [hJ]; exact Nat.mod_lt _ (by omega)
      have eJ : (at1 : Int) % (NT : Int) = (J : Int) := by rw [hJ]; omega
      have hyl := getD_lt hby J
      obtain ⟨hx1, hx2⟩ := hob.cell HLN.out hJlt
      have hxb := xor_byte hyl hby1
      have hX : (noteL t c (List.replicate 28 0 ++ d)).getD J 0 ^^^ by1 < 256 := Nat.xor_lt_two_pow (n := 8) hyl hby1
      have hob2 := hob.set HLN.out J _ hX
      have HNE := Lib.hid (note_damage hby HDN.out (by rw [HLN.out]; exact hJlt) hX (xor_ne (y := (noteL t c (List.replicate 28 0 ++ d)).getD J 0) hby0))
      have HLS := Lib.hid (show ((noteL t c (List.replicate 28 0 ++ d)).set J ((noteL t c (List.replicate 28 0 ++ d)).getD J 0 ^^^ by1)).length = NT by rw [List.length_set]; exact HLN.out)
      generalize (noteL t c (List.replicate 28 0 ++ d)).set J ((noteL t c (List.replicate 28 0 ++ d)).getD J 0 ^^^ by1) = L2 at hob2 HNE HLS
      generalize (noteL t c (List.replicate 28 0 ++ d)).getD J 0 ^^^ by1 = X at *
      generalize (noteL t c (List.replicate 28 0 ++ d)).getD J 0 = y at *
      have hg2 := hg.setCell (p := ⟨gb, J, none⟩) hgb (.int .u8 (X : Int))
      clear hJ
      go_upto_region 11 with fail
      generalize wb.setCell ⟨gb, J, none⟩ (.int .u8 (X : Int)) = wc at hob2 hg2 ⊢
      replace hob2 := hob2.rb
      have hcl2 := hcl.gr hg2
      clear hob hx1 hx2 hxb eJ hg hz hyl hX hby
      have hz := (hcl2.at' 1 _ rfl).1
      go_wp2_with fail
      refine (note_dec wc (h1.gr hg2) ht hcc (by rw [HQL.out]; omega) (by rw [HQL.out]; omega)).mono ?_
      rintro e wd ⟨vd, rfl, hvd, hg3⟩
      obtain ⟨ax, cx, rfl, -, -⟩ := hvd.rb.form
      replace hob2 := hob2.gr hg3
      replace hg2 := hg2.step hg3
      clear hg3 hvd hz hcl2
      go_wp2_with fail
      refine (dnote_err wd hob2 (by rw [HLS.out]; omega) HNE.out).mono ?_
      rintro e we ⟨rfl, hg3⟩
      replace hg2 := hg2.step hg3
      have hE := HNE.out
      clear hg3 hob2 HNE HLS
      generalize dcNote L2 = E at *
      have hE2 : ((E : Int) == 0) = false := by simp; omega
      have hE3 : ¬ (E : Int) = 0 := by omega
      go_wp2_with fail
      case roundEnd =>
        exact ⟨⟨1 + 1, by omega, by simp, hcl.gr hg2, h0.gr hg2, h1.gr hg2, h2.gr hg2, h3.gr hg2, hG.step hg2⟩, by simp [intOf]⟩
    · skip
      have hz := (hcl.at' 2 _ rfl).1
      have hbz := hcl.lt
      go_upto_region 10 with (at_builtin; refine wpList_app (base := wr.heap.size) rfl (.const (.slice none 0 0)) (.tmp 55) rfl rfl (OwB.nil _ _) rfl h2 (by rw [HLU.out]; simp; omega) (Nat.le_refl _) ?_; intro vb wb hob gb; have hg : Gr wr wb := Gr.grownNew (Gr.refl _) gb (fun _ h => by cases h); rw [List.nil_append] at hob; clear gb)
      have hby := hob.rb.bytes
      obtain ⟨gb, cb, rfl, hgb, hglt, hgc⟩ := hob.form (by rw [HLU.out]; omega)
      rw [HLU.out] at hob hgc ⊢
      obtain ⟨J, hJ⟩ : ∃ J, J = at1 % N8 := ⟨_, rfl⟩
      have hJlt : J < N8 := by rw [hJ]; exact Nat.mod_lt _ (by omega)
      have eJ : (at1 : Int) % (N8 : Int) = (J : Int) := by rw [hJ]; omega
      have hyl := getD_lt hby J
      obtain ⟨hx1, hx2⟩ := hob.cell HLU.out hJlt
      have hxb := xor_byte hyl hby1
      have hX : (udpL src dst sp dp d).getD J 0 ^^^ by1 < 256 := Nat.xor_lt_two_pow (n := 8) hyl hby1
      have hob2 := hob.set HLU.out J _ hX
      have HNE := Lib.hid (udp_damage hby HDU.out (by rw [HLU.out]; exact hJlt) hX (xor_ne (y := (udpL src dst sp dp d).getD J 0) hby0))
      have HLS := Lib.hid (show ((udpL src dst sp dp d).set J ((udpL src dst sp dp d).getD J 0 ^^^ by1)).length = N8 by rw [List.length_set]; exact HLU.out)
      generalize (udpL src dst sp dp d).set J ((udpL src dst sp dp d).getD J 0 ^^^ by1) = L2 at hob2 HNE HLS
      generalize (udpL src dst sp dp d).getD J 0 ^^^ by1 = X at *
      generalize (udpL src dst sp dp d).getD J 0 = y at *
      have hg2 := hg.setCell (p := ⟨gb, J, none⟩) hgb (.int .u8 (X : Int))
      clear hJ
      go_upto_region 11 with fail
      generalize wb.setCell ⟨gb, J, none⟩ (.int .u8 (X : Int)) = wc at hob2 hg2 ⊢
      replace hob2 := hob2.rb
      have hcl2 := hcl.gr hg2
      clear hob hx1 hx2 hxb eJ hg hz hyl hX hby
      have hz := (hcl2.at' 2 _ rfl).1
      go_wp2_with fail
      refine (udp_dec wc (h2.gr hg2) hsrc hdst hsp hdp (by rw [← HN.out]; omega)).mono ?_
      rintro e wd ⟨vd, rfl, hvd, hg3⟩
      obtain ⟨ax, cx, rfl, -, -⟩ := hvd.rb.form
      replace hob2 := hob2.gr hg3
      replace hg2 := hg2.step hg3
      clear hg3 hvd hz hcl2
      go_wp2_with fail
      refine (dudp_err src dst wd hob2 hsrc hdst (by rw [HLS.out]; omega) HNE.out).mono ?_
      rintro e we ⟨rfl, hg3⟩
      replace hg2 := hg2.step hg3
      have hE := HNE.out
      clear hg3 hob2 HNE HLS
      generalize dcUDP src dst L2 = E at *
      have hE2 : ((E : Int) == 0) = false := by simp; omega
      have hE3 : ¬ (E : Int) = 0 := by omega
      go_wp2_with fail
      case roundEnd =>
        exact ⟨⟨2 + 1, by omega, by simp, hcl.gr hg2, h0.gr hg2, h1.gr hg2, h2.gr hg2, h3.gr hg2, hG.step hg2⟩, by simp [intOf]⟩
    · skip
      have hz := (hcl.at' 3 _ rfl).1
      have hbz := hcl.lt
      go_upto_region 10 with (at_builtin; refine wpList_app (base := wr.heap.size) rfl (.const (.slice none 0 0)) (.tmp 55) rfl rfl (OwB.nil _ _) rfl h3 (by rw [HLT.out]; simp; omega) (Nat.le_refl _) ?_; intro vb wb hob gb; have hg : Gr wr wb := Gr.grownNew (Gr.refl _) gb (fun _ h => by cases h); rw [List.nil_append] at hob; clear gb)
      have hby := hob.rb.bytes
      obtain ⟨gb, cb, rfl, hgb, hglt, hgc⟩ := hob.form (by rw [HLT.out]; omega)
      rw [HLT.out] at hob hgc ⊢
      obtain ⟨J, hJ⟩ : ∃ J, J = at1 % N20 := ⟨_, rfl⟩
      have hJlt : J < N20 := by rw [hJ]; exact Nat.mod_lt _ (by omega)
      have eJ : (at1 : Int) % (N20 : Int) = (J : Int) := by rw [hJ]; omega
      have hyl := getD_lt hby J
      obtain ⟨hx1, hx2⟩ := hob.cell HLT.out hJlt
      have hxb := xor_byte hyl hby1
      have hX : (tcpL src dst sq1 dq1 sq ak fl wi d).getD J 0 ^^^ by1 < 256 := Nat.xor_lt_two_pow (n := 8) hyl hby1
      have hob2 := hob.set HLT.out J _ hX
      have HNE := Lib.hid (tcp_damage hby HDT.out (by rw [HLT.out]; exact hJlt) hX (xor_ne (y := (tcpL src dst sq1 dq1 sq ak fl wi d).getD J 0) hby0))
      have HLS := Lib.hid (show ((tcpL src dst sq1 dq1 sq ak fl wi d).set J ((tcpL src dst sq1 dq1 sq ak fl wi d).getD J 0 ^^^ by1)).length = N20 by rw [List.length_set]; exact HLT.out)
      generalize (tcpL src dst sq1 dq1 sq ak fl wi d).set J ((tcpL src dst sq1 dq1 sq ak fl wi d).getD J 0 ^^^ by1) = L2 at hob2 HNE HLS
      generalize (tcpL src dst sq1 dq1 sq ak fl wi d).getD J 0 ^^^ by1 = X at *
      generalize (tcpL src dst sq1 dq1 sq ak fl wi d).getD J 0 = y at *
      have hg2 := hg.setCell (p := ⟨gb, J, none⟩) hgb (.int .u8 (X : Int))
      clear hJ
      go_upto_region 11 with fail
      generalize wb.setCell ⟨gb, J, none⟩ (.int .u8 (X : Int)) = wc at hob2 hg2 ⊢
      replace hob2 := hob2.rb
      have hcl2 := hcl.gr hg2
      clear hob hx1 hx2 hxb eJ hg hz hyl hX hby
      have hz := (hcl2.at' 3 _ rfl).1
      go_wp2_with fail
      refine (tcp_dec wc (h3.gr hg2) hsrc hdst hsq1 hdq1 (by omega) (by omega) hfl hwi (by rw [← HN.out]; omega)).mono ?_
      rintro e wd ⟨vd, rfl, hvd, hg3⟩
      obtain ⟨ax, cx, rfl, -, -⟩ := hvd.rb.form
      replace hob2 := hob2.gr hg3
      replace hg2 := hg2.step hg3
      clear hg3 hvd hz hcl2
      go_wp2_with fail
      refine (dtcp_err src dst wd hob2 hsrc hdst (by rw [HLS.out]; omega) HNE.out).mono ?_
      rintro e we ⟨rfl, hg3⟩
      replace hg2 := hg2.step hg3
      have hE := HNE.out
      clear hg3 hob2 HNE HLS
      generalize dcTCP src dst L2 = E at *
      have hE2 : ((E : Int) == 0) = false := by simp; omega
      have hE3 : ¬ (E : Int) = 0 := by omega
      go_wp2_with fail
      case roundEnd =>
        exact ⟨⟨3 + 1, by omega, by simp, hcl.gr hg2, h0.gr hg2, h1.gr hg2, h2.gr hg2, h3.gr hg2, hG.step hg2⟩, by simp [intOf]⟩
    · skip
      go_wp2_with fail
      go_ret
      exact ⟨rfl, hG⟩
end Go.Proofs.Ytjpjnbgfodlkcaa
