/- Plain mathematics of texts: no program is read here. -/
import Derived.WalkKit
import Derived.Lib.Bytealg
import Derived.Lib.IndexMore
import Derived.Lib.ItoaNum
import Derived.Lib.ItoaMem
import Derived.Test.YtikkobmccagdlaaGreatDoorMath
namespace Go.Proofs.YtikkobmccagdlaaGreatDoor
open Go Go.RowKit

def isDig (c : UInt8) : Bool := decide (48 ≤ (c.toNat : Int) ∧ (c.toNat : Int) ≤ 57)
/-- what decimal digits denote -/
def dval (l : List UInt8) : Int := l.foldl (fun n c => n * 10 + ((c.toNat : Int) - 48)) 0
theorem dval_snoc (l : List UInt8) (c : UInt8) : dval (l ++ [c]) = dval l * 10 + ((c.toNat : Int) - 48) := by simp [dval, List.foldl_append]
theorem take_snoc (s : ByteArray) (k : Nat) (h : k < s.size) : s.data.toList.take (k + 1) = s.data.toList.take k ++ [s[k]] := by
  rw [List.take_succ_eq_append_getElem (by simpa using h)]; rfl
theorem isDig_of {c : UInt8} (h0 : 48 ≤ (c.toNat : Int)) (h1 : (c.toNat : Int) ≤ 57) : isDig c = true := by simp [isDig]; omega
theorem all_take_succ (s : ByteArray) (k : Nat) (h : k < s.size) (ha : (s.data.toList.take k).all isDig = true) (hd : isDig s[k] = true) : (s.data.toList.take (k + 1)).all isDig = true := by
  rw [take_snoc s k h, List.all_append, ha]; simp [hd]
theorem snocInd {P : List UInt8 → Prop} (h0 : P []) (hs : ∀ l c, P l → P (l ++ [c])) (l : List UInt8) : P l := by
  rw [← List.reverse_reverse l]
  induction l.reverse with
  | nil => exact h0
  | cons c r ih => rw [List.reverse_cons]; exact hs _ _ ih
theorem dval_nonneg (l : List UInt8) : l.all isDig = true → 0 ≤ dval l := by
  induction l using snocInd with
  | h0 => intro _; simp [dval]
  | hs l c ih =>
    intro h
    rw [List.all_append] at h
    simp only [Bool.and_eq_true, List.all_cons, List.all_nil, Bool.and_true] at h
    have := ih h.1
    rw [dval_snoc]
    have h2 := h.2; simp [isDig] at h2; omega
/-- no leading zero, and not empty -/
def lead (l : List UInt8) : Bool := match l with | [] => false | [_] => true | c :: _ => !((c.toNat : Int) == 48)
/-- the text denotes a number of at most most -/
def numOk (l : List UInt8) (most : Int) : Bool := lead l && (l.all isDig && decide (dval l ≤ most))
def numV (l : List UInt8) (most : Int) : Int := if numOk l most then dval l else 0
theorem numOk_lead {l : List UInt8} {most : Int} (h : lead l = false) : numOk l most = false := by simp [numOk, h]
theorem numV_no {l : List UInt8} {most : Int} (h : numOk l most = false) : numV l most = 0 := by simp [numV, h]
theorem numV_yes {l : List UInt8} {most : Int} (h : numOk l most = true) : numV l most = dval l := by simp [numV, h]
theorem dval_append_le (r l : List UInt8) : l.all isDig = true → r.all isDig = true → dval l ≤ dval (l ++ r) := by
  induction r using snocInd with
  | h0 => intro _ _; simp
  | hs r c ih =>
    intro hl hr
    rw [List.all_append] at hr
    simp only [Bool.and_eq_true, List.all_cons, List.all_nil, Bool.and_true] at hr
    have h1 := ih hl hr.1
    have h0 := dval_nonneg l hl
    rw [← List.append_assoc, dval_snoc]
    have h2 := hr.2; simp [isDig] at h2; omega
theorem all_split (l : List UInt8) (k : Nat) (h : l.all isDig = true) : (l.take k).all isDig = true ∧ (l.drop k).all isDig = true := by
  rw [← List.take_append_drop k l, List.all_append] at h
  simpa using h
/-- a digit that is none, or a beginning that is too great, denies the whole -/
theorem numOk_bad (l : List UInt8) (most : Int) (k : Nat) (hk : k < l.length) (h : isDig l[k] = false) : numOk l most = false := by
  have : l.all isDig = false := by
    rw [List.all_eq_false]; exact ⟨l[k], List.getElem_mem hk, by simp [h]⟩
  simp [numOk, this]
theorem numOk_big (l : List UInt8) (most : Int) (k : Nat) (h : most < dval (l.take k)) : numOk l most = false := by
  cases ha : l.all isDig
  · simp [numOk, ha]
  · have ⟨h1, h2⟩ := all_split l k ha
    have := dval_append_le (l.drop k) (l.take k) h1 h2
    rw [List.take_append_drop] at this
    have : ¬ dval l ≤ most := by omega
    simp [numOk, this]
theorem numOk_good (l : List UInt8) (most : Int) (hl : lead l = true) (ha : l.all isDig = true) (h : dval l ≤ most) : numOk l most = true := by simp [numOk, hl, ha, h]

/-- the text in front of the first c, what follows it, and whether there is one -/
def cutAt (c : UInt8) : List UInt8 → List UInt8 × List UInt8 × Bool
  | [] => ([], [], false)
  | x :: r => if x == c then ([], r, true) else (x :: (cutAt c r).1, (cutAt c r).2.1, (cutAt c r).2.2)
theorem cutAt_yes {c x : UInt8} (r : List UInt8) (h : (x == c) = true) : cutAt c (x :: r) = ([], r, true) := by show (if x == c then _ else _) = _; rw [if_pos h]
theorem cutAt_not {c x : UInt8} (r : List UInt8) (h : ¬ (x == c) = true) : cutAt c (x :: r) = (x :: (cutAt c r).1, (cutAt c r).2.1, (cutAt c r).2.2) := by show (if x == c then _ else _) = _; rw [if_neg h]
theorem cutAt_index (c : UInt8) : ∀ l, cutAt c l = if 0 ≤ Lib.indexByte l c then (l.take (Lib.indexByte l c).toNat, l.drop ((Lib.indexByte l c).toNat + 1), true) else (l, [], false)
  | [] => by simp [cutAt, Lib.indexByte]
  | x :: r => by
    have ih := cutAt_index c r
    have hge := Lib.indexByte_ge r c
    by_cases hx : (x == c) = true
    · rw [cutAt_yes r hx]; simp [Lib.indexByte, hx]
    · rw [cutAt_not r hx, ih]
      have eI : Lib.indexByte (x :: r) c = if x == c then 0 else if Lib.indexByte r c == -1 then -1 else Lib.indexByte r c + 1 := rfl
      rw [eI]
      by_cases hm : Lib.indexByte r c = -1
      · simp [hm, hx]
      · have h0 : 0 ≤ Lib.indexByte r c := by omega
        have e : (Lib.indexByte r c + 1).toNat = (Lib.indexByte r c).toNat + 1 := by omega
        have e1 : 0 ≤ Lib.indexByte r c + 1 := by omega
        have e2 : (Lib.indexByte r c == -1) = false := by simpa using hm
        simp [h0, e2, e, e1, hx]
/-- all the parts between the c -/
def parts (c : UInt8) : List UInt8 → List (List UInt8)
  | [] => [[]]
  | x :: r => if x == c then [] :: parts c r else match parts c r with | [] => [[x]] | h :: t => (x :: h) :: t
theorem parts_yes {c x : UInt8} (r : List UInt8) (h : (x == c) = true) : parts c (x :: r) = [] :: parts c r := by show (if x == c then _ else _) = _; rw [if_pos h]
theorem parts_not {c x : UInt8} (r : List UInt8) (h : ¬ (x == c) = true) {p : List UInt8} {t : List (List UInt8)} (e : parts c r = p :: t) : parts c (x :: r) = (x :: p) :: t := by
  show (if x == c then _ else _) = _; rw [if_neg h, e]
theorem parts_cut (c : UInt8) : ∀ l, parts c l = if (cutAt c l).2.2 then (cutAt c l).1 :: parts c (cutAt c l).2.1 else [l]
  | [] => by simp [parts, cutAt]
  | x :: r => by
    by_cases hx : (x == c) = true
    · rw [cutAt_yes r hx, parts_yes r hx]; rfl
    · have ih := parts_cut c r
      rw [cutAt_not r hx]
      cases hc : (cutAt c r).2.2
      · rw [hc] at ih; simp only [Bool.false_eq_true, if_false] at ih; rw [parts_not r hx ih]; rfl
      · rw [hc] at ih; simp only [if_true] at ih; rw [parts_not r hx ih]; rfl
theorem parts_ne' (c : UInt8) (l : List UInt8) : 1 ≤ (parts c l).length := by
  rw [parts_cut]; split <;> simp
theorem cutAt_no (c : UInt8) : ∀ l, (cutAt c l).2.2 = false → (cutAt c l).1 = l
  | [], _ => rfl
  | x :: r, h => by
    by_cases hx : (x == c) = true
    · rw [cutAt_yes r hx] at h; simp at h
    · rw [cutAt_not r hx] at h ⊢
      have h : (cutAt c r).2.2 = false := h
      show x :: (cutAt c r).1 = _
      rw [cutAt_no c r h]
theorem cutAt_len (c : UInt8) : ∀ l, (cutAt c l).1.length + (cutAt c l).2.1.length ≤ l.length
  | [] => by simp [cutAt]
  | x :: r => by
    by_cases hx : (x == c) = true
    · rw [cutAt_yes r hx]; simp
    · rw [cutAt_not r hx]
      have := cutAt_len c r
      simp; omega

theorem lead_two {l : List UInt8} (h : 1 < l.length) : lead l = !((((l[0]'(by omega)).toNat : Nat) : Int) == 48) := by
  match l, h with
  | a :: b :: r, _ => rfl
theorem lead_one {l : List UInt8} (h : l.length = 1) : lead l = true := by
  match l, h with
  | [a], _ => rfl
theorem lead_zero {l : List UInt8} (h : l.length = 0) : lead l = false := by
  match l, h with
  | [], _ => rfl
/-- the address of parts that are numbers: what has been read so far, and the parts to come -/
def addrOf : Int → List (List UInt8) → Option Int
  | a, [] => some a
  | a, p :: r => if numOk p 255 then addrOf (a * 256 + dval p) r else none
def parseA (l : List UInt8) : Option Int := if (parts 46 l).length = 4 then addrOf 0 (parts 46 l) else none
/-- as the results of a call -/
def parV (l : List UInt8) : Int := (parseA l).getD 0
def parE (l : List UInt8) : Int := if (parseA l).isSome then 0 else 2
theorem indexByte_lt (c : UInt8) : ∀ l, Lib.indexByte l c < l.length
  | [] => by simp [Lib.indexByte]
  | x :: r => by
    have ih := indexByte_lt c r
    have eI : Lib.indexByte (x :: r) c = if x == c then 0 else if Lib.indexByte r c == -1 then -1 else Lib.indexByte r c + 1 := rfl
    rw [eI, List.length_cons]
    split
    · omega
    · split <;> omega
/-- what is known when some parts have been read -/
def ParP (l : List UInt8) (k : Nat) (a : Int) (r : List UInt8) : Prop :=
  if k < 4 then parseA l = (if (parts 46 r).length = 4 - k then addrOf a (parts 46 r) else none) else parseA l = some a
theorem parP_start (l : List UInt8) : ParP l 0 0 l := by simp [ParP, parseA]
theorem parP_num {l r : List UInt8} {k : Nat} {a : Int} (hk : k < 4) (h : ParP l k a r) (hn : numOk (cutAt 46 r).1 255 = false) : parseA l = none := by
  rw [ParP, if_pos hk] at h
  rw [h]
  split
  · rw [parts_cut]
    split
    · simp [addrOf, hn]
    · rename_i hc
      rw [cutAt_no 46 r (by simpa using hc)] at hn
      simp [addrOf, hn]
  · rfl
theorem parP_dot {l r : List UInt8} {k : Nat} {a : Int} (hk : k < 4) (h : ParP l k a r) (hn : ((cutAt 46 r).2.2 != decide ((k : Int) < 3)) = true) : parseA l = none := by
  rw [ParP, if_pos hk] at h
  rw [h, if_neg]
  rw [parts_cut]
  have hne := parts_ne' 46 (cutAt 46 r).2.1
  cases hd : (cutAt 46 r).2.2
  · rw [hd] at hn
    simp at hn
    simp; omega
  · rw [hd] at hn
    simp at hn
    simp; omega
theorem parP_next {l r : List UInt8} {k : Nat} {a : Int} (hk : k < 4) (h : ParP l k a r) (hn : numOk (cutAt 46 r).1 255 = true) (hd : ((cutAt 46 r).2.2 != decide ((k : Int) < 3)) = false) : ParP l (k + 1) (a * 256 + dval (cutAt 46 r).1) (cutAt 46 r).2.1 := by
  rw [ParP, if_pos hk] at h
  rw [parts_cut] at h
  unfold ParP
  cases hc : (cutAt 46 r).2.2
  · rw [hc] at hd h
    simp at hd
    have e : k = 3 := by omega
    subst e
    rw [cutAt_no 46 r hc] at hn ⊢
    simp [addrOf, hn] at h
    simp [h]
  · rw [hc] at hd h
    simp at hd
    have e : k < 3 := by omega
    rw [if_pos (by omega), h]
    simp only [if_true, List.length_cons, addrOf, hn]
    have : (parts 46 (cutAt 46 r).2.1).length + 1 = 4 - k ↔ (parts 46 (cutAt 46 r).2.1).length = 4 - (k + 1) := by omega
    simp [this]
theorem par_no {l : List UInt8} (h : parseA l = none) : parV l = 0 ∧ parE l = 2 := by simp [parV, parE, h]
theorem par_yes {l : List UInt8} {a : Int} (h : ParP l 4 a []) : parV l = a ∧ parE l = 0 := by
  have h : parseA l = some a := by simpa [ParP] using h
  simp [parV, parE, h]
theorem parP_four {l r r' : List UInt8} {a : Int} (h : ParP l 4 a r) : ParP l 4 a r' := by simpa [ParP] using h
end Go.Proofs.YtikkobmccagdlaaGreatDoor
