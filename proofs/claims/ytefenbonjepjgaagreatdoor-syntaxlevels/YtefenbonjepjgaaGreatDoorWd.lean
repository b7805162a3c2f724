/-
  Words as lists of bytes: what stands at a text's beginning, or why nothing does; all words of a text.
-/
import Derived.Test.YtefenbonjepjgaaGreatDoorKp
import Derived.Lib.ValidLaws
import Derived.Lib.ParseIntB
namespace Go.Proofs.YtefenbonjepjgaaGreatDoor
open Go.Lib
set_option linter.unusedSimpArgs false

/-- A letter. -/
def letB (c : Int) : Bool := decide (97 ≤ c) && decide (c ≤ 122) || decide (65 ≤ c) && decide (c ≤ 90) || decide (192 ≤ c) && decide (c ≤ 591) && !decide (c = 215) && !decide (c = 247)
def digB (c : Int) : Bool := decide (48 ≤ c) && decide (c ≤ 57)
/-- May a rune stand in a name, at its beginning or behind it? -/
def runeB (first : Bool) (c : Int) : Bool := letB c || decide (c = 95) || !first && digB c
def blankB (c : Int) : Bool := decide (c = 32) || decide (c = 9) || decide (c = 10) || decide (c = 13)
theorem letB_t (c : Int) : letB c = true ↔ (97 ≤ c ∧ c ≤ 122 ∨ 65 ≤ c ∧ c ≤ 90 ∨ 192 ≤ c ∧ c ≤ 591 ∧ ¬ c = 215 ∧ ¬ c = 247) := by
  simp [letB]
  omega
theorem digB_t (c : Int) : digB c = true ↔ (48 ≤ c ∧ c ≤ 57) := by simp [digB]
theorem blankB_t (c : Int) : blankB c = true ↔ (c = 32 ∨ c = 9 ∨ c = 10 ∨ c = 13) := by simp [blankB, or_assoc]

/-- How many bytes the runes have that stand ahead and are as p tells. -/
def spanG (p : Int → Bool) : Nat → List UInt8 → Nat
  | 0, _ => 0
  | n + 1, l => if l = [] then 0 else if p (decodeL l).1 then (decodeL l).2 + spanG p n (l.drop (decodeL l).2) else 0
def spanL (p : Int → Bool) (l : List UInt8) : Nat := spanG p l.length l
theorem spanG_fuel (p : Int → Bool) : ∀ (n m : Nat) (l : List UInt8), l.length ≤ n → l.length ≤ m → spanG p n l = spanG p m l
  | 0, 0, _, _, _ => rfl
  | 0, m + 1, l, h, _ => by
    have : l = [] := List.length_eq_zero_iff.1 (by omega)
    simp [spanG, this]
  | n + 1, 0, l, _, h => by
    have : l = [] := List.length_eq_zero_iff.1 (by omega)
    simp [spanG, this]
  | n + 1, m + 1, l, h, k => by
    unfold spanG
    split
    · rfl
    · have := decodeL_pos l
      split
      · rw [spanG_fuel p n m _ (by simp; omega) (by simp; omega)]
      · rfl
theorem spanL_nil (p : Int → Bool) : spanL p [] = 0 := rfl
theorem spanL_step (p : Int → Bool) (l : List UInt8) (hne : l ≠ []) : spanL p l = if p (decodeL l).1 then (decodeL l).2 + spanL p (l.drop (decodeL l).2) else 0 := by
  have hl : 0 < l.length := List.length_pos_iff.2 hne
  obtain ⟨n, hn⟩ : ∃ n, l.length = n + 1 := ⟨l.length - 1, by omega⟩
  unfold spanL
  have := decodeL_pos l
  rw [hn, spanG, if_neg hne]
  split
  · rw [spanG_fuel p n (l.drop (decodeL l).2).length _ (by simp; omega) (Nat.le_refl _)]
  · rfl
theorem spanL_le (p : Int → Bool) : ∀ (n : Nat) (l : List UInt8), l.length ≤ n → spanL p l ≤ l.length
  | 0, l, h => by
    have : l = [] := List.length_eq_zero_iff.1 (by omega)
    subst this; exact Nat.le_refl _
  | n + 1, l, h => by
    by_cases hne : l = []
    · subst hne; exact Nat.le_refl _
    · rw [spanL_step p l hne]
      have h1 := decodeL_pos l
      have h2 := decodeL_le l hne
      split
      · have := spanL_le p n (l.drop (decodeL l).2) (by simp; omega)
        simp at this; omega
      · exact Nat.zero_le _

/-- What a word is, how many bytes it has; or the error. -/
structure Wd where
  k : Int
  t : List UInt8
  n : Int
  len : Nat
  e : Int
def bad (e : Int) : Wd := ⟨0, [], 0, 0, e⟩
def nameW (l : List UInt8) : Wd :=
  if keyL (l.take (spanL (runeB false) l)) ≠ [] then ⟨2, keyL (l.take (spanL (runeB false) l)), 0, spanL (runeB false) l, 0⟩
  else if 32 < spanL (runeB false) l then bad 74
  else ⟨1, l.take (spanL (runeB false) l), 0, spanL (runeB false) l, 0⟩
/-- The number of digits, behind a number. -/
def numFrom (v : Nat) (l : List UInt8) : Nat := l.foldl (fun v b => 10 * v + (b.toNat - 48)) v
def maxI : Nat := 9223372036854775807
def numW (l : List UInt8) : Wd :=
  if numFrom 0 (l.take (spanL digB l)) ≤ maxI then ⟨3, [], numFrom 0 (l.take (spanL digB l)), spanL digB l, 0⟩ else bad 72
/-- Up to the closing quote: what stands there, and how many bytes. -/
def scanB : List UInt8 → Option (List UInt8 × Nat)
  | [] => none
  | b :: r =>
    if b = 39 then some ([], 0)
    else if b = 92 then
      match r with
      | [] => none
      | c :: r' =>
        if c = 39 ∨ c = 92 then (scanB r').map fun x => (c :: x.1, x.2 + 2)
        else if c = 110 then (scanB r').map fun x => (10 :: x.1, x.2 + 2)
        else none
    else (scanB r).map fun x => (b :: x.1, x.2 + 1)
/-- The same where it is UTF-8. -/
def textL (l : List UInt8) : Option (List UInt8 × Nat) :=
  match scanB l with
  | none => none
  | some x => if validD (l.take x.2) then some x else none
def textW (l : List UInt8) : Wd :=
  match textL l.tail with
  | none => bad 73
  | some x => ⟨4, x.1, 0, x.2 + 2, 0⟩
def twosL : List (List UInt8) := [[60, 62], [60, 61], [62, 61], [46, 46]]
def onesL : List (List UInt8) := [[40], [41], [91], [93], [45], [62], [60], [44], [58], [46], [61], [43], [42], [47], [37]]
def signsL : List (List UInt8) := twosL ++ onesL
def signL (l : List UInt8) : List UInt8 := (signsL.find? fun g => g.isPrefixOf l).getD []
def signW (l : List UInt8) : Wd := if signL l = [] then bad 71 else ⟨5, signL l, 0, (signL l).length, 0⟩
/-- The word with which a text begins. -/
def wordL (l : List UInt8) : Wd :=
  if (decodeL l).1 = 39 then textW l
  else if digB (decodeL l).1 then numW l
  else if runeB true (decodeL l).1 then nameW l
  else signW l
/-- A word in its place. -/
structure Tk where
  k : Int
  t : List UInt8
  n : Int
  at' : Nat
instance : Inhabited Tk := ⟨⟨0, [], 0, 0⟩⟩
def lexG : Nat → Nat → List UInt8 → List Tk → List Tk × Nat × Int
  | 0, _, _, acc => (acc, 0, 0)
  | n + 1, at', l, acc =>
    if l = [] then (acc, 0, 0)
    else if blankB (decodeL l).1 then lexG n (at' + 1) (l.drop 1) acc
    else if (wordL l).e = 0 then lexG n (at' + (wordL l).len) (l.drop (wordL l).len) (acc ++ [⟨(wordL l).k, (wordL l).t, (wordL l).n, at'⟩])
    else ([], at', (wordL l).e)
/-- A text's words, or where there is none, and why. -/
def lexL (l : List UInt8) : List Tk × Nat × Int := if 4096 < l.length then ([], 0, 2) else lexG l.length 0 l []
end Go.Proofs.YtefenbonjepjgaaGreatDoor
