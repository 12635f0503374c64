/- The document's Parse and ParsePrefix. -/
import Derived.Test.YtoaboflepfmkpaaDoorRefCut
import Derived.Test.YtoaboflepfmkpaaDoorParse
import Derived.WalkKit
import Derived.WalkSpells
import Derived.WalkLawsBesides
import Derived.WalkSmall
import Derived.Handy
import Derived.BigQuiet
import Derived.Deep.QuietTactic
import Derived.Deep.RegionHeld3
import Derived.Deep.DeepFit
import Derived.Below
import Derived.Lib.Hide
import Derived.Lib.QuietBelow
import Derived.Deep.DeepCutAuto
namespace Go.Proofs.YtoaboflepfmkpaaDoor
open Go Go.RowKit Go.Sort
set_option maxRecDepth 100000
set_option linter.unusedVariables false

theorem parts_len (c : UInt8) : ∀ (l : List UInt8), ∀ x ∈ parts c l, x.length ≤ l.length
  | [], x, hx => by simp [parts] at hx; subst hx; simp
  | y :: r, x, hx => by
    have ih := parts_len c r
    by_cases h : (y == c) = true
    · rw [parts_yes r h] at hx
      rcases List.mem_cons.1 hx with rfl | hx
      · simp
      · have := ih x hx; simp; omega
    · cases hp : parts c r with
      | nil => have := parts_ne' c r; rw [hp] at this; simp at this
      | cons p t =>
        rw [parts_not r h hp] at hx
        rw [hp] at ih
        rcases List.mem_cons.1 hx with rfl | hx
        · have := ih p (List.mem_cons_self ..); simp; omega
        · have := ih x (List.mem_cons_of_mem _ hx); simp; omega
/-- a list of texts in memory -/
def HasS (w : World) (p : Option Addr) (xs : List (List UInt8)) : Prop := ∀ (j : Nat) (x : List UInt8), xs[j]? = some x → ∃ g, p = some ⟨g, 0, none⟩ ∧ w.cell? ⟨g, j, none⟩ = some (.string (str x))
theorem HasS.gr {w w' : World} {p : Option Addr} {xs : List (List UInt8)} (h : HasS w p xs) (g : Gr w w') : HasS w' p xs := by
  intro j x hx
  obtain ⟨b, hp, h0⟩ := h j x hx
  exact ⟨b, hp, by rw [(Gr.cells g).1 _ _ (World.block_lt_of_cell? _ _ h0)]; exact h0⟩
theorem sv_form {w : World} {b : Nat} {e : TypeId} {v : Value} {xs : List (List UInt8)} (h : w.ownsRow b e 1 v xs.length (xs.map sv)) : ∃ (p : Option Addr) (cap : Nat), v = .slice p xs.length cap ∧ xs.length ≤ cap ∧ HasS w p xs := by
  obtain ⟨h1, ⟨rfl, h2⟩ | ⟨g, cap, cur, rfl, _, hg, hcap, _, _, hx⟩⟩ := h
  · exact ⟨none, 0, by rw [h2], by omega, fun j x hx => by rw [List.eq_nil_of_length_eq_zero h2] at hx; simp at hx⟩
  · refine ⟨some ⟨g, 0, none⟩, cap, rfl, hcap, fun j x hj => ?_⟩
    have hjl : j < xs.length := by
      apply Decidable.byContradiction; intro hc
      rw [List.getElem?_eq_none (by omega)] at hj; cases hj
    have a1 : (xs.map sv)[j]? = some (.string (str x)) := by rw [List.getElem?_map, hj]; rfl
    refine ⟨g, rfl, ?_⟩
    rw [← hx, List.getElem?_take, if_pos (by omega)] at a1
    simpa [World.cell?, hg] using a1
theorem ret_par {l : List UInt8} {a e : Int} (h1 : parV l = a) (h2 : parE l = e) : Ending.returned (.tuple #[.int .u32 a, .int .i64 e]) = .returned (.tuple #[.int .u32 (parV l), .int .i64 (parE l)]) := by rw [h1, h2]
theorem pow4 {k : Nat} (h : k < 4) : (256 : Int) ^ k ≤ 16777216 := by
  have : k = 0 ∨ k = 1 ∨ k = 2 ∨ k = 3 := by omega
  rcases this with rfl | rfl | rfl | rfl <;> decide
set_option maxHeartbeats 1000000 in
theorem rparse_any (s : ByteArray) (w : World) (hs : s.size ≤ 1000000) :
    Calls Tryd.prog 19 #[.string s] w fun e w' => e = .returned (.tuple #[.int .u32 (parV s.data.toList), .int .i64 (parE s.data.toList)]) ∧ Gr w w' := by
  have hPL := parts_len 46 s.data.toList
  have hpa : parseA s.data.toList = if (parts 46 s.data.toList).length = 4 then addrOf 0 (parts 46 s.data.toList) else none := rfl
  have hcut := fun w => rcut_any s 46 w hs
  rw [data_len] at hPL
  have HPL := Lib.hid hPL
  have HPA := Lib.hid hpa
  have HC := Lib.hid hcut
  clear hPL hpa hcut
  go_enter Tryd.func19, Tryd.ntmps19
  go_wp2_with fail
  refine (HC.out _).mono ?_
  rintro e w1 ⟨v, rfl, hown, hg1⟩
  obtain ⟨p, cp, rfl, hcp, hp⟩ := sv_form hown
  have HP := Lib.hid hp
  clear hp hown HC
  generalize parts 46 s.data.toList = ps at *
  by_cases h4 : ps.length = 4
  · have t4 : ((ps.length : Int) == 4) = true := by simp; omega
    have i4 : (ps.length : Int) = 4 := by omega
    rw [h4]
    rw [h4] at hcp
    go_wp2_with fail
    rw [if_pos h4] at HPA
    have hG1 : Gr w w1 := (by repeat' (first | (with_reducible exact Gr.refl _) | (with_reducible assumption) | (with_reducible refine Gr.drewN ?_ _) | (with_reducible refine Gr.drew ?_) | (with_reducible refine Gr.alloc ?_ _) | (with_reducible refine Gr.setCell ?_ ?_ _) | (with_reducible refine Gr.grow ?_ _ _) | (refine Gr.step ?_ (by with_reducible assumption)) | go_size))
    go_loopw [5, 6] (fun av iv wr => ∃ (k : Nat) (a : Int), k ≤ 4 ∧ iv = .int .i64 k ∧ av = .int .i64 a ∧ (0 ≤ a ∧ a < 256 ^ k) ∧ parseA s.data.toList = addrOf a (ps.drop k) ∧ Gr w1 wr) (fun _ iv _ => 4 - (intOf iv).toNat)
    case atStart => exact ⟨0, 0, by omega, rfl, rfl, by simp, HPA.out, Gr.refl _⟩
    case round =>
      obtain ⟨k, a, hk, rfl, rfl, ⟨b0, b1⟩, hpar, hgr⟩ := hrel
      have HR := Lib.hid hpar
      clear hpar
      by_cases hk4 : k < 4
      · obtain ⟨x, hx⟩ : ∃ x, ps[k]? = some x := ⟨_, List.getElem?_eq_getElem (by omega)⟩
        obtain ⟨g, rfl, g0⟩ := (HP.out.gr hgr) k x hx
        have hxl := HPL.out x (List.mem_of_getElem? hx)
        have hb := pow4 hk4
        have hdrop : ps.drop k = x :: ps.drop (k + 1) := by
          rw [List.drop_eq_getElem_cons (by omega)]
          rw [List.getElem?_eq_getElem (by omega)] at hx
          rw [Option.some.inj hx]
        have hst := HR.out
        rw [hdrop] at hst
        have hst2 : parseA s.data.toList = if numOk x 255 then addrOf (a * 256 + dval x) (ps.drop (k + 1)) else none := hst
        have HT := Lib.hid hst2
        have k0 : (k : Int) < 4 := by omega
        have kc : (k : Int) < (cp : Int) := by omega
        have SM := Lib.hid (fun w => small_any (str x) 255 w (by rw [str_size]; omega) (by omega) (by omega))
        have a1 : a < 16777216 := by omega
        have hb1 := b1
        clear hst hst2 hdrop hb b1
        go_wp2_with fail
        refine (SM.out _).mono ?_
        rintro e w3 ⟨v, rfl, hv, hg3⟩
        rw [str_data] at hv ⊢
        cases hok : numOk x 255
        · have hno := par_no (by rw [HT.out, hok]; rfl)
          have HN := Lib.hid hno
          clear hno
          go_wp2_with fail
          go_ret2
          exact ⟨ret_par HN.out.1 HN.out.2, (by repeat' (first | (with_reducible exact Gr.refl _) | (with_reducible assumption) | (with_reducible refine Gr.drewN ?_ _) | (with_reducible refine Gr.drew ?_) | (with_reducible refine Gr.alloc ?_ _) | (with_reducible refine Gr.setCell ?_ ?_ _) | (with_reducible refine Gr.grow ?_ _ _) | (refine Gr.step ?_ (by with_reducible assumption)) | go_size))⟩
        · obtain rfl := hv hok
          obtain ⟨v0, v1⟩ := numOk_le hok
          have hpn := pow_next hb1 v1
          go_wp2_with fail
          case roundEnd =>
            have e1 : 256 * a + dval x = a * 256 + dval x := by omega
            refine ⟨⟨k + 1, a * 256 + dval x, by omega, by simp, by rw [e1], ⟨by omega, hpn⟩, by rw [HT.out, hok]; rfl, (by repeat' (first | (with_reducible exact Gr.refl _) | (with_reducible assumption) | (with_reducible refine Gr.drewN ?_ _) | (with_reducible refine Gr.drew ?_) | (with_reducible refine Gr.alloc ?_ _) | (with_reducible refine Gr.setCell ?_ ?_ _) | (with_reducible refine Gr.grow ?_ _ _) | (refine Gr.step ?_ (by with_reducible assumption)) | go_size))⟩, by simp [intOf]; omega⟩
      · obtain rfl : k = 4 := by omega
        have hd : ps.drop 4 = [] := List.drop_eq_nil_of_le (by omega)
        have hf := HR.out
        rw [hd] at hf
        have hfin : parV s.data.toList = a ∧ parE s.data.toList = 0 := by
          have : parseA s.data.toList = some a := hf
          simp [parV, parE, this]
        have HF := Lib.hid hfin
        have a1 : a < 4294967296 := by simpa using b1
        clear hd hf hfin b1
        go_wp2_with fail
        go_ret2
        exact ⟨ret_par HF.out.1 HF.out.2, (by repeat' (first | (with_reducible exact Gr.refl _) | (with_reducible assumption) | (with_reducible refine Gr.drewN ?_ _) | (with_reducible refine Gr.drew ?_) | (with_reducible refine Gr.alloc ?_ _) | (with_reducible refine Gr.setCell ?_ ?_ _) | (with_reducible refine Gr.grow ?_ _ _) | (refine Gr.step ?_ (by with_reducible assumption)) | go_size))⟩
  · have t4 : ((ps.length : Int) == 4) = false := by simp; omega
    have hno := par_no (by rw [HPA.out, if_neg h4])
    have HN := Lib.hid hno
    clear hno
    go_wp2_with fail
    go_ret2
    exact ⟨ret_par HN.out.1 HN.out.2, (by repeat' (first | (with_reducible exact Gr.refl _) | (with_reducible assumption) | (with_reducible refine Gr.drewN ?_ _) | (with_reducible refine Gr.drew ?_) | (with_reducible refine Gr.alloc ?_ _) | (with_reducible refine Gr.setCell ?_ ?_ _) | (with_reducible refine Gr.grow ?_ _ _) | (refine Gr.step ?_ (by with_reducible assumption)) | go_size))⟩
end Go.Proofs.YtoaboflepfmkpaaDoor
