/- Probes: Check on both sides, supported, flow. -/
import Derived.Test.YtkpejaiigopmgaaGreatDoorGF
import Derived.WalkKit
import Derived.WalkSpells
import Derived.WalkLawsBesides
import Derived.WalkSmall
import Derived.Handy
import Derived.BigQuiet
import Derived.Deep.QuietTactic
import Derived.Deep.RegionHeld3
import Derived.Deep.DeepFit
import Derived.Below
import Derived.Lib.Hide
import Derived.Lib.QuietBelow
namespace Go.Proofs.YtkpejaiigopmgaaGreatDoor
open Go Go.RowKit Go.Sort
set_option maxRecDepth 100000
set_option linter.unusedVariables false
set_option linter.unusedSimpArgs false
/-- a probe as a value -/
def prV (s d pr fl tg tt : Int) : Value := .agg #[.int .u32 s, .int .u32 d, .int .i64 pr, .int .i64 fl, .int .i64 tg, .int .i64 tt]
def Pr.v (p : Pr) : Value := prV p.src p.dst p.proto p.flow p.tag p.ttl
def sup (n : Int) : Prop := n = 1 ∨ n = 17 ∨ n = 6
instance (n : Int) : Decidable (sup n) := inferInstanceAs (Decidable (_ ∨ _))
def rngOk (fl tg tt : Int) : Prop := (0 ≤ fl ∧ fl ≤ 1023) ∧ (0 ≤ tg ∧ tg ≤ 65534) ∧ 1 ≤ tt ∧ tt ≤ 255
instance (a b c : Int) : Decidable (rngOk a b c) := inferInstanceAs (Decidable (_ ∧ _))
/-- the error of a probe -/
def prbE (pr fl tg tt : Int) : Nat := if ¬ sup pr then 16 else if rngOk fl tg tt then 0 else 1
theorem prbE_proto {pr fl tg tt : Int} (h : ¬ sup pr) : prbE pr fl tg tt = 16 := if_pos h
theorem prbE_range {pr fl tg tt : Int} (h : sup pr) (k : ¬ rngOk fl tg tt) : prbE pr fl tg tt = 1 := (if_neg (fun n => n h)).trans (if_neg k)
theorem prbE_ok {pr fl tg tt : Int} (h : sup pr) (k : rngOk fl tg tt) : prbE pr fl tg tt = 0 := (if_neg (fun n => n h)).trans (if_pos k)
theorem prbE_zero {pr fl tg tt : Int} (h : prbE pr fl tg tt = 0) : sup pr ∧ rngOk fl tg tt := by
  unfold prbE at h
  split at h
  · omega
  · split at h
    · next a b => exact ⟨Classical.byContradiction a, b⟩
    · omega
theorem Pr.e_ok {p : Pr} (k : p.ok) : prbE p.proto p.flow p.tag p.ttl = 0 := by
  have h1 := k.proto; have h2 := k.flow; have h3 := k.tag; have h4 := k.t0; have h5 := k.t1
  exact prbE_ok (by unfold sup; omega) (by unfold rngOk; omega)
/-- numbers that Check accepts are those of a probe -/
theorem pr_of {s d : Nat} {pr fl tg tt : Int} (hs : s < 4294967296) (hd : d < 4294967296) (h : prbE pr fl tg tt = 0) : ∃ p : Pr, p.ok ∧ prV s d pr fl tg tt = p.v ∧ p.src = s ∧ p.dst = d ∧ (p.proto : Int) = pr ∧ (p.flow : Int) = fl ∧ (p.tag : Int) = tg ∧ (p.ttl : Int) = tt := by
  obtain ⟨h1, h2⟩ := prbE_zero h
  unfold sup at h1
  unfold rngOk at h2
  obtain ⟨a, rfl⟩ := Int.eq_ofNat_of_zero_le (show 0 ≤ pr by omega)
  obtain ⟨b, rfl⟩ := Int.eq_ofNat_of_zero_le (show 0 ≤ fl by omega)
  obtain ⟨c, rfl⟩ := Int.eq_ofNat_of_zero_le (show 0 ≤ tg by omega)
  obtain ⟨e, rfl⟩ := Int.eq_ofNat_of_zero_le (show 0 ≤ tt by omega)
  exact ⟨⟨s, d, a, b, c, e⟩, ⟨hs, hd, by show a = 1 ∨ a = 17 ∨ a = 6; omega, by show b ≤ 1023; omega, by show c ≤ 65534; omega, by show 1 ≤ e; omega, by show e ≤ 255; omega⟩, rfl, rfl, rfl, rfl, rfl, rfl, rfl⟩
theorem CL.six {w : World} {g : Nat} {a b c d e f : Value} (h : CL w g [a, b, c, d, e, f]) :
    (w.cell? ⟨g, 0, none⟩ = some a ∧ w.cell? ⟨g, 1, none⟩ = some b ∧ w.cell? ⟨g, 2, none⟩ = some c ∧ w.cell? ⟨g, 3, none⟩ = some d ∧ w.cell? ⟨g, 4, none⟩ = some e ∧ w.cell? ⟨g, 5, none⟩ = some f) ∧
    w.frozen? ⟨g, 0, none⟩ = false ∧ w.frozen? ⟨g, 1, none⟩ = false ∧ w.frozen? ⟨g, 2, none⟩ = false ∧ w.frozen? ⟨g, 3, none⟩ = false ∧ w.frozen? ⟨g, 4, none⟩ = false ∧ w.frozen? ⟨g, 5, none⟩ = false :=
  ⟨⟨(h.at' 0 a rfl).1, (h.at' 1 b rfl).1, (h.at' 2 c rfl).1, (h.at' 3 d rfl).1, (h.at' 4 e rfl).1, (h.at' 5 f rfl).1⟩, (h.at' 0 a rfl).2, (h.at' 1 b rfl).2, (h.at' 2 c rfl).2, (h.at' 3 d rfl).2, (h.at' 4 e rfl).2, (h.at' 5 f rfl).2⟩
theorem CL.five {w : World} {g : Nat} {a b c d e : Value} (h : CL w g [a, b, c, d, e]) :
    (w.cell? ⟨g, 0, none⟩ = some a ∧ w.cell? ⟨g, 1, none⟩ = some b ∧ w.cell? ⟨g, 2, none⟩ = some c ∧ w.cell? ⟨g, 3, none⟩ = some d ∧ w.cell? ⟨g, 4, none⟩ = some e) ∧
    w.frozen? ⟨g, 0, none⟩ = false ∧ w.frozen? ⟨g, 1, none⟩ = false ∧ w.frozen? ⟨g, 2, none⟩ = false ∧ w.frozen? ⟨g, 3, none⟩ = false ∧ w.frozen? ⟨g, 4, none⟩ = false :=
  ⟨⟨(h.at' 0 a rfl).1, (h.at' 1 b rfl).1, (h.at' 2 c rfl).1, (h.at' 3 d rfl).1, (h.at' 4 e rfl).1⟩, (h.at' 0 a rfl).2, (h.at' 1 b rfl).2, (h.at' 2 c rfl).2, (h.at' 3 d rfl).2, (h.at' 4 e rfl).2⟩
theorem psup_yes (n : Int) (w : World) (h : sup n) :
    Calls Tryz.prog 104 #[.int .i64 n] w fun e w' => e = .returned (.bool true) ∧ w = w' := by
  rcases h with rfl | rfl | rfl
  all_goals
    go_enter Tryz.func104, Tryz.ntmps104
    go_wp2
    go_ret
    exact ⟨rfl, rfl⟩
theorem psup_no (n : Int) (w : World) (h : ¬ sup n) :
    Calls Tryz.prog 104 #[.int .i64 n] w fun e w' => e = .returned (.bool false) ∧ w = w' := by
  have d1 : (n == 1) = false := by simp; intro k; exact h (Or.inl k)
  have d2 : (n == 17) = false := by simp; intro k; exact h (Or.inr (Or.inl k))
  have d3 : (n == 6) = false := by simp; intro k; exact h (Or.inr (Or.inr k))
  clear h
  go_enter Tryz.func104, Tryz.ntmps104
  go_wp2
  go_ret
  exact ⟨rfl, rfl⟩
set_option maxHeartbeats 2000000 in
theorem pchk_sup (s d pr fl tg tt : Int) (w : World) (hp : sup pr) :
    Calls Tryz.prog 92 #[prV s d pr fl tg tt] w fun e w' => e = .returned (.int .i64 (if rngOk fl tg tt then 0 else 1)) ∧ Gr w w' := by
  have HK := Lib.hid (fun w => psup_yes pr w hp)
  clear hp
  obtain ⟨R, hR⟩ : ∃ R : Int, R = (if rngOk fl tg tt then 0 else 1) := ⟨_, rfl⟩
  rw [← hR]
  have HR := Lib.hid hR
  clear hR
  by_cases h0 : fl < 0
  · have d0 : decide (fl < 0) = true := by simpa using h0
    have H := Lib.hid (show R = 1 from HR.out.trans (if_neg (fun h => by have := h.1.1; omega)))
    clear h0
    unfold prV
    go_enter Tryz.func92, Tryz.ntmps92
    go_wp2_with fail
    refine (HK.out _).mono ?_
    rintro e w1 ⟨rfl, rfl⟩
    go_wp2_with fail
    go_ret
    exact ⟨ret_int H.out.symm, Gr.alloc (Gr.refl _) _⟩
  · have d0 : decide (fl < 0) = false := by simpa using h0
    by_cases h1 : 1023 < fl
    · have d1 : decide (1023 < fl) = true := by simpa using h1
      have H := Lib.hid (show R = 1 from HR.out.trans (if_neg (fun h => by have := h.1.2; omega)))
      clear h0 h1
      unfold prV
      go_enter Tryz.func92, Tryz.ntmps92
      go_wp2_with fail
      refine (HK.out _).mono ?_
      rintro e w1 ⟨rfl, rfl⟩
      go_wp2_with fail
      go_ret
      exact ⟨ret_int H.out.symm, Gr.alloc (Gr.refl _) _⟩
    · have d1 : decide (1023 < fl) = false := by simpa using h1
      by_cases h2 : tg < 0
      · have d2 : decide (tg < 0) = true := by simpa using h2
        have H := Lib.hid (show R = 1 from HR.out.trans (if_neg (fun h => by have := h.2.1.1; omega)))
        clear h0 h1 h2
        unfold prV
        go_enter Tryz.func92, Tryz.ntmps92
        go_wp2_with fail
        refine (HK.out _).mono ?_
        rintro e w1 ⟨rfl, rfl⟩
        go_wp2_with fail
        go_ret
        exact ⟨ret_int H.out.symm, Gr.alloc (Gr.refl _) _⟩
      · have d2 : decide (tg < 0) = false := by simpa using h2
        by_cases h3 : 65534 < tg
        · have d3 : decide (65534 < tg) = true := by simpa using h3
          have H := Lib.hid (show R = 1 from HR.out.trans (if_neg (fun h => by have := h.2.1.2; omega)))
          clear h0 h1 h2 h3
          unfold prV
          go_enter Tryz.func92, Tryz.ntmps92
          go_wp2_with fail
          refine (HK.out _).mono ?_
          rintro e w1 ⟨rfl, rfl⟩
          go_wp2_with fail
          go_ret
          exact ⟨ret_int H.out.symm, Gr.alloc (Gr.refl _) _⟩
        · have d3 : decide (65534 < tg) = false := by simpa using h3
          by_cases h4 : tt < 1
          · have d4 : decide (tt < 1) = true := by simpa using h4
            have H := Lib.hid (show R = 1 from HR.out.trans (if_neg (fun h => by have := h.2.2.1; omega)))
            clear h0 h1 h2 h3 h4
            unfold prV
            go_enter Tryz.func92, Tryz.ntmps92
            go_wp2_with fail
            refine (HK.out _).mono ?_
            rintro e w1 ⟨rfl, rfl⟩
            go_wp2_with fail
            go_ret
            exact ⟨ret_int H.out.symm, Gr.alloc (Gr.refl _) _⟩
          · have d4 : decide (tt < 1) = false := by simpa using h4
            by_cases h5 : 255 < tt
            · have d5 : decide (255 < tt) = true := by simpa using h5
              have H := Lib.hid (show R = 1 from HR.out.trans (if_neg (fun h => by have := h.2.2.2; omega)))
              clear h0 h1 h2 h3 h4 h5
              unfold prV
              go_enter Tryz.func92, Tryz.ntmps92
              go_wp2_with fail
              refine (HK.out _).mono ?_
              rintro e w1 ⟨rfl, rfl⟩
              go_wp2_with fail
              go_ret
              exact ⟨ret_int H.out.symm, Gr.alloc (Gr.refl _) _⟩
            · have d5 : decide (255 < tt) = false := by simpa using h5
              have H := Lib.hid (show R = 0 from HR.out.trans (if_pos ⟨by omega, by omega, by omega⟩))
              clear h0 h1 h2 h3 h4 h5
              unfold prV
              go_enter Tryz.func92, Tryz.ntmps92
              go_wp2_with fail
              refine (HK.out _).mono ?_
              rintro e w1 ⟨rfl, rfl⟩
              go_wp2_with fail
              go_ret
              exact ⟨ret_int H.out.symm, Gr.alloc (Gr.refl _) _⟩
theorem pchk_no (s d pr fl tg tt : Int) (w : World) (hp : ¬ sup pr) :
    Calls Tryz.prog 92 #[prV s d pr fl tg tt] w fun e w' => e = .returned (.int .i64 16) ∧ Gr w w' := by
  have HK := Lib.hid (fun w => psup_no pr w hp)
  clear hp
  unfold prV
  go_enter Tryz.func92, Tryz.ntmps92
  go_wp2_with fail
  refine (HK.out _).mono ?_
  rintro e w1 ⟨rfl, rfl⟩
  go_wp2_with fail
  go_ret
  exact ⟨rfl, Gr.alloc (Gr.refl _) _⟩
theorem pchk_any (s d pr fl tg tt : Int) (w : World) :
    Calls Tryz.prog 92 #[prV s d pr fl tg tt] w fun e w' => e = .returned (.int .i64 (prbE pr fl tg tt : Nat)) ∧ Gr w w' := by
  by_cases hp : sup pr
  · refine (pchk_sup s d pr fl tg tt w hp).mono ?_
    rintro e w' ⟨rfl, hg⟩
    refine ⟨ret_int ?_, hg⟩
    by_cases h : rngOk fl tg tt
    · rw [if_pos h, prbE_ok hp h]; rfl
    · rw [if_neg h, prbE_range hp h]; rfl
  · refine (pchk_no s d pr fl tg tt w hp).mono ?_
    rintro e w' ⟨rfl, hg⟩
    refine ⟨ret_int ?_, hg⟩
    rw [prbE_proto hp]; rfl
set_option maxHeartbeats 2000000 in
theorem rchk_one (s d pr fl tg tt : Int) (w : World) (hp : pr = 1) :
    Calls Tryz.prog 16 #[prV s d pr fl tg tt] w fun e w' => e = .returned (.int .i64 (if rngOk fl tg tt then 0 else 1)) ∧ Gr w w' := by
  subst hp
  obtain ⟨R, hR⟩ : ∃ R : Int, R = (if rngOk fl tg tt then 0 else 1) := ⟨_, rfl⟩
  rw [← hR]
  have HR := Lib.hid hR
  clear hR
  by_cases h0 : fl < 0
  · have d0 : decide (fl < 0) = true := by simpa using h0
    have H := Lib.hid (show R = 1 from HR.out.trans (if_neg (fun h => by have := h.1.1; omega)))
    clear h0
    unfold prV
    go_enter Tryz.func16, Tryz.ntmps16
    go_wp2_with fail
    go_ret
    exact ⟨ret_int H.out.symm, Gr.alloc (Gr.refl _) _⟩
  · have d0 : decide (fl < 0) = false := by simpa using h0
    by_cases h1 : 1023 < fl
    · have d1 : decide (1023 < fl) = true := by simpa using h1
      have H := Lib.hid (show R = 1 from HR.out.trans (if_neg (fun h => by have := h.1.2; omega)))
      clear h0 h1
      unfold prV
      go_enter Tryz.func16, Tryz.ntmps16
      go_wp2_with fail
      go_ret
      exact ⟨ret_int H.out.symm, Gr.alloc (Gr.refl _) _⟩
    · have d1 : decide (1023 < fl) = false := by simpa using h1
      by_cases h2 : tg < 0
      · have d2 : decide (tg < 0) = true := by simpa using h2
        have H := Lib.hid (show R = 1 from HR.out.trans (if_neg (fun h => by have := h.2.1.1; omega)))
        clear h0 h1 h2
        unfold prV
        go_enter Tryz.func16, Tryz.ntmps16
        go_wp2_with fail
        go_ret
        exact ⟨ret_int H.out.symm, Gr.alloc (Gr.refl _) _⟩
      · have d2 : decide (tg < 0) = false := by simpa using h2
        by_cases h3 : 65534 < tg
        · have d3 : decide (65534 < tg) = true := by simpa using h3
          have H := Lib.hid (show R = 1 from HR.out.trans (if_neg (fun h => by have := h.2.1.2; omega)))
          clear h0 h1 h2 h3
          unfold prV
          go_enter Tryz.func16, Tryz.ntmps16
          go_wp2_with fail
          go_ret
          exact ⟨ret_int H.out.symm, Gr.alloc (Gr.refl _) _⟩
        · have d3 : decide (65534 < tg) = false := by simpa using h3
          by_cases h4 : tt < 1
          · have d4 : decide (tt < 1) = true := by simpa using h4
            have H := Lib.hid (show R = 1 from HR.out.trans (if_neg (fun h => by have := h.2.2.1; omega)))
            clear h0 h1 h2 h3 h4
            unfold prV
            go_enter Tryz.func16, Tryz.ntmps16
            go_wp2_with fail
            go_ret
            exact ⟨ret_int H.out.symm, Gr.alloc (Gr.refl _) _⟩
          · have d4 : decide (tt < 1) = false := by simpa using h4
            by_cases h5 : 255 < tt
            · have d5 : decide (255 < tt) = true := by simpa using h5
              have H := Lib.hid (show R = 1 from HR.out.trans (if_neg (fun h => by have := h.2.2.2; omega)))
              clear h0 h1 h2 h3 h4 h5
              unfold prV
              go_enter Tryz.func16, Tryz.ntmps16
              go_wp2_with fail
              go_ret
              exact ⟨ret_int H.out.symm, Gr.alloc (Gr.refl _) _⟩
            · have d5 : decide (255 < tt) = false := by simpa using h5
              have H := Lib.hid (show R = 0 from HR.out.trans (if_pos ⟨by omega, by omega, by omega⟩))
              clear h0 h1 h2 h3 h4 h5
              unfold prV
              go_enter Tryz.func16, Tryz.ntmps16
              go_wp2_with fail
              go_ret
              exact ⟨ret_int H.out.symm, Gr.alloc (Gr.refl _) _⟩
set_option maxHeartbeats 2000000 in
theorem rchk_udp (s d pr fl tg tt : Int) (w : World) (hp : pr = 17) :
    Calls Tryz.prog 16 #[prV s d pr fl tg tt] w fun e w' => e = .returned (.int .i64 (if rngOk fl tg tt then 0 else 1)) ∧ Gr w w' := by
  subst hp
  obtain ⟨R, hR⟩ : ∃ R : Int, R = (if rngOk fl tg tt then 0 else 1) := ⟨_, rfl⟩
  rw [← hR]
  have HR := Lib.hid hR
  clear hR
  by_cases h0 : fl < 0
  · have d0 : decide (fl < 0) = true := by simpa using h0
    have H := Lib.hid (show R = 1 from HR.out.trans (if_neg (fun h => by have := h.1.1; omega)))
    clear h0
    unfold prV
    go_enter Tryz.func16, Tryz.ntmps16
    go_wp2_with fail
    go_ret
    exact ⟨ret_int H.out.symm, Gr.alloc (Gr.refl _) _⟩
  · have d0 : decide (fl < 0) = false := by simpa using h0
    by_cases h1 : 1023 < fl
    · have d1 : decide (1023 < fl) = true := by simpa using h1
      have H := Lib.hid (show R = 1 from HR.out.trans (if_neg (fun h => by have := h.1.2; omega)))
      clear h0 h1
      unfold prV
      go_enter Tryz.func16, Tryz.ntmps16
      go_wp2_with fail
      go_ret
      exact ⟨ret_int H.out.symm, Gr.alloc (Gr.refl _) _⟩
    · have d1 : decide (1023 < fl) = false := by simpa using h1
      by_cases h2 : tg < 0
      · have d2 : decide (tg < 0) = true := by simpa using h2
        have H := Lib.hid (show R = 1 from HR.out.trans (if_neg (fun h => by have := h.2.1.1; omega)))
        clear h0 h1 h2
        unfold prV
        go_enter Tryz.func16, Tryz.ntmps16
        go_wp2_with fail
        go_ret
        exact ⟨ret_int H.out.symm, Gr.alloc (Gr.refl _) _⟩
      · have d2 : decide (tg < 0) = false := by simpa using h2
        by_cases h3 : 65534 < tg
        · have d3 : decide (65534 < tg) = true := by simpa using h3
          have H := Lib.hid (show R = 1 from HR.out.trans (if_neg (fun h => by have := h.2.1.2; omega)))
          clear h0 h1 h2 h3
          unfold prV
          go_enter Tryz.func16, Tryz.ntmps16
          go_wp2_with fail
          go_ret
          exact ⟨ret_int H.out.symm, Gr.alloc (Gr.refl _) _⟩
        · have d3 : decide (65534 < tg) = false := by simpa using h3
          by_cases h4 : tt < 1
          · have d4 : decide (tt < 1) = true := by simpa using h4
            have H := Lib.hid (show R = 1 from HR.out.trans (if_neg (fun h => by have := h.2.2.1; omega)))
            clear h0 h1 h2 h3 h4
            unfold prV
            go_enter Tryz.func16, Tryz.ntmps16
            go_wp2_with fail
            go_ret
            exact ⟨ret_int H.out.symm, Gr.alloc (Gr.refl _) _⟩
          · have d4 : decide (tt < 1) = false := by simpa using h4
            by_cases h5 : 255 < tt
            · have d5 : decide (255 < tt) = true := by simpa using h5
              have H := Lib.hid (show R = 1 from HR.out.trans (if_neg (fun h => by have := h.2.2.2; omega)))
              clear h0 h1 h2 h3 h4 h5
              unfold prV
              go_enter Tryz.func16, Tryz.ntmps16
              go_wp2_with fail
              go_ret
              exact ⟨ret_int H.out.symm, Gr.alloc (Gr.refl _) _⟩
            · have d5 : decide (255 < tt) = false := by simpa using h5
              have H := Lib.hid (show R = 0 from HR.out.trans (if_pos ⟨by omega, by omega, by omega⟩))
              clear h0 h1 h2 h3 h4 h5
              unfold prV
              go_enter Tryz.func16, Tryz.ntmps16
              go_wp2_with fail
              go_ret
              exact ⟨ret_int H.out.symm, Gr.alloc (Gr.refl _) _⟩
set_option maxHeartbeats 2000000 in
theorem rchk_tcp (s d pr fl tg tt : Int) (w : World) (hp : pr = 6) :
    Calls Tryz.prog 16 #[prV s d pr fl tg tt] w fun e w' => e = .returned (.int .i64 (if rngOk fl tg tt then 0 else 1)) ∧ Gr w w' := by
  subst hp
  obtain ⟨R, hR⟩ : ∃ R : Int, R = (if rngOk fl tg tt then 0 else 1) := ⟨_, rfl⟩
  rw [← hR]
  have HR := Lib.hid hR
  clear hR
  by_cases h0 : fl < 0
  · have d0 : decide (fl < 0) = true := by simpa using h0
    have H := Lib.hid (show R = 1 from HR.out.trans (if_neg (fun h => by have := h.1.1; omega)))
    clear h0
    unfold prV
    go_enter Tryz.func16, Tryz.ntmps16
    go_wp2_with fail
    go_ret
    exact ⟨ret_int H.out.symm, Gr.alloc (Gr.refl _) _⟩
  · have d0 : decide (fl < 0) = false := by simpa using h0
    by_cases h1 : 1023 < fl
    · have d1 : decide (1023 < fl) = true := by simpa using h1
      have H := Lib.hid (show R = 1 from HR.out.trans (if_neg (fun h => by have := h.1.2; omega)))
      clear h0 h1
      unfold prV
      go_enter Tryz.func16, Tryz.ntmps16
      go_wp2_with fail
      go_ret
      exact ⟨ret_int H.out.symm, Gr.alloc (Gr.refl _) _⟩
    · have d1 : decide (1023 < fl) = false := by simpa using h1
      by_cases h2 : tg < 0
      · have d2 : decide (tg < 0) = true := by simpa using h2
        have H := Lib.hid (show R = 1 from HR.out.trans (if_neg (fun h => by have := h.2.1.1; omega)))
        clear h0 h1 h2
        unfold prV
        go_enter Tryz.func16, Tryz.ntmps16
        go_wp2_with fail
        go_ret
        exact ⟨ret_int H.out.symm, Gr.alloc (Gr.refl _) _⟩
      · have d2 : decide (tg < 0) = false := by simpa using h2
        by_cases h3 : 65534 < tg
        · have d3 : decide (65534 < tg) = true := by simpa using h3
          have H := Lib.hid (show R = 1 from HR.out.trans (if_neg (fun h => by have := h.2.1.2; omega)))
          clear h0 h1 h2 h3
          unfold prV
          go_enter Tryz.func16, Tryz.ntmps16
          go_wp2_with fail
          go_ret
          exact ⟨ret_int H.out.symm, Gr.alloc (Gr.refl _) _⟩
        · have d3 : decide (65534 < tg) = false := by simpa using h3
          by_cases h4 : tt < 1
          · have d4 : decide (tt < 1) = true := by simpa using h4
            have H := Lib.hid (show R = 1 from HR.out.trans (if_neg (fun h => by have := h.2.2.1; omega)))
            clear h0 h1 h2 h3 h4
            unfold prV
            go_enter Tryz.func16, Tryz.ntmps16
            go_wp2_with fail
            go_ret
            exact ⟨ret_int H.out.symm, Gr.alloc (Gr.refl _) _⟩
          · have d4 : decide (tt < 1) = false := by simpa using h4
            by_cases h5 : 255 < tt
            · have d5 : decide (255 < tt) = true := by simpa using h5
              have H := Lib.hid (show R = 1 from HR.out.trans (if_neg (fun h => by have := h.2.2.2; omega)))
              clear h0 h1 h2 h3 h4 h5
              unfold prV
              go_enter Tryz.func16, Tryz.ntmps16
              go_wp2_with fail
              go_ret
              exact ⟨ret_int H.out.symm, Gr.alloc (Gr.refl _) _⟩
            · have d5 : decide (255 < tt) = false := by simpa using h5
              have H := Lib.hid (show R = 0 from HR.out.trans (if_pos ⟨by omega, by omega, by omega⟩))
              clear h0 h1 h2 h3 h4 h5
              unfold prV
              go_enter Tryz.func16, Tryz.ntmps16
              go_wp2_with fail
              go_ret
              exact ⟨ret_int H.out.symm, Gr.alloc (Gr.refl _) _⟩
theorem rchk_sup (s d pr fl tg tt : Int) (w : World) (hp : sup pr) :
    Calls Tryz.prog 16 #[prV s d pr fl tg tt] w fun e w' => e = .returned (.int .i64 (if rngOk fl tg tt then 0 else 1)) ∧ Gr w w' := by
  rcases hp with h | h | h
  · exact rchk_one s d pr fl tg tt w h
  · exact rchk_udp s d pr fl tg tt w h
  · exact rchk_tcp s d pr fl tg tt w h
theorem rchk_no (s d pr fl tg tt : Int) (w : World) (hp : ¬ sup pr) :
    Calls Tryz.prog 16 #[prV s d pr fl tg tt] w fun e w' => e = .returned (.int .i64 16) ∧ Gr w w' := by
  have d1 : (pr != 1) = true := by rw [bne_iff_ne]; exact fun k => hp (Or.inl k)
  have d2 : (pr != 17) = true := by rw [bne_iff_ne]; exact fun k => hp (Or.inr (Or.inl k))
  have d3 : (pr != 6) = true := by rw [bne_iff_ne]; exact fun k => hp (Or.inr (Or.inr k))
  clear hp
  unfold prV
  go_enter Tryz.func16, Tryz.ntmps16
  go_wp2_with fail
  go_ret
  exact ⟨rfl, Gr.alloc (Gr.refl _) _⟩
theorem rchk_any (s d pr fl tg tt : Int) (w : World) :
    Calls Tryz.prog 16 #[prV s d pr fl tg tt] w fun e w' => e = .returned (.int .i64 (prbE pr fl tg tt : Nat)) ∧ Gr w w' := by
  by_cases hp : sup pr
  · refine (rchk_sup s d pr fl tg tt w hp).mono ?_
    rintro e w' ⟨rfl, hg⟩
    refine ⟨ret_int ?_, hg⟩
    by_cases h : rngOk fl tg tt
    · rw [if_pos h, prbE_ok hp h]; rfl
    · rw [if_neg h, prbE_range hp h]; rfl
  · refine (rchk_no s d pr fl tg tt w hp).mono ?_
    rintro e w' ⟨rfl, hg⟩
    refine ⟨ret_int ?_, hg⟩
    rw [prbE_proto hp]; rfl
end Go.Proofs.YtkpejaiigopmgaaGreatDoor
