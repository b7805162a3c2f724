/-
  Sya: turned for the seat of the expressions.
-/
import Derived.Test.YtkcnpbckmdgfnaaDoorLxa
namespace Go.Proofs.YtkcnpbckmdgfnaaDoor
set_option linter.unusedSimpArgs false
set_option linter.unusedVariables false
/-- An expression: of none, of one, of two others. -/
inductive Ex where
  | leaf (op : Int) (name prop : List UInt8) (k : Int) (b : Bool) (n : Int) (t : List UInt8)
  | one (op : Int) (a : Ex)
  | two (op : Int) (a b : Ex)
/-- What a reader of words comes to. -/
inductive Res (α : Type) where
  | ok (x : α) (L : List Tk)
  | bad (a : Nat) (y : Int)
/-- The place of the next word. -/
def placeL (E : Nat) : List Tk → Nat
  | [] => E
  | t :: _ => t.at'
/-- A reader of a part, so deep. -/
abbrev PR := Nat → List Tk → Res Ex
def deepP (E : Nat) (p : PR) : PR := fun d L => if d = 50 then .bad (placeL E L) 82 else p (d + 1) L.tail
/-- Patterns. -/
structure Nd where
  v : List UInt8
  l : List UInt8
structure Ed where
  v : List UInt8
  l : List UInt8
  back : Bool
  mode : Int
  lo : Int
  hi : Int
structure Pt where
  nodes : List Nd
  edges : List Ed
structure Itm where
  x : Ex
  n : List UInt8
structure Ky where
  n : List UInt8
  desc : Bool
structure Qy where
  pats : List Pt
  where' : List Ex
  dist : Bool
  items : List Itm
  keys : List Ky
  lim : Int
end Go.Proofs.YtkcnpbckmdgfnaaDoor
namespace Go.Proofs.YtkcnpbckmdgfnaaDoor
set_option linter.unusedSimpArgs false
set_option linter.unusedVariables false
/-- Gives back no more than it was handed. -/
def ShR {α : Type} (L : List Tk) (r : Res α) : Prop := ∀ x L', r = .ok x L' → L'.length ≤ L.length
def Sh (p : PR) : Prop := ∀ d L, ShR L (p d L)
theorem shr_bad {α : Type} (a : Nat) (y : Int) {L : List Tk} : ShR (α := α) L (.bad a y) := by
  intro x M e; cases e
theorem ShR.of {α : Type} {L M : List Tk} {r : Res α} (h : ShR M r) (hl : M.length ≤ L.length) : ShR L r := fun x L' e => Nat.le_trans (h x L' e) hl
theorem tail_len (L : List Tk) : L.tail.length ≤ L.length := by simp
theorem shr_ite {α : Type} {c : Prop} [Decidable c] {L : List Tk} {a b : Res α} (ha : ShR L a) (hb : ShR L b) : ShR L (if c then a else b) := by
  split <;> assumption
theorem Sh.deep {E : Nat} {p : PR} (h : Sh p) : Sh (deepP E p) := fun d L => shr_ite (shr_bad _ _) ((h (d + 1) L.tail).of (tail_len L))
end Go.Proofs.YtkcnpbckmdgfnaaDoor
