/-
  Sya: turned for the seats of values.
-/
import Derived.Test.YtokkmjcpjjiaaaaDoorZLxa
namespace Go.Proofs.YtokkmjcpjjiaaaaDoor.S9
set_option linter.unusedSimpArgs false
set_option linter.unusedVariables false
/-- An expression: of none, of one, of two others. -/
inductive Ex where
  | leaf (op : Int) (name prop : List UInt8) (k : Int) (b : Bool) (n : Int) (t : List UInt8)
  | one (op : Int) (a : Ex)
  | two (op : Int) (a b : Ex)
/-- What a reader of words comes to. -/
inductive Res (α : Type) where
  | ok (x : α) (L : List Tk)
  | bad (a : Nat) (y : Int)
/-- Patterns. -/
structure Nd where
  v : List UInt8
  l : List UInt8
structure Ed where
  v : List UInt8
  l : List UInt8
  back : Bool
  mode : Int
  lo : Int
  hi : Int
structure Pt where
  nodes : List Nd
  edges : List Ed
structure Itm where
  x : Ex
  n : List UInt8
structure Ky where
  n : List UInt8
  desc : Bool
structure Qy where
  pats : List Pt
  where' : List Ex
  dist : Bool
  items : List Itm
  keys : List Ky
  lim : Int
end Go.Proofs.YtokkmjcpjjiaaaaDoor.S9
namespace Go.Proofs.YtokkmjcpjjiaaaaDoor.S9
set_option linter.unusedSimpArgs false
set_option linter.unusedVariables false
/-- Gives back no more than it was handed. -/
def ShR {α : Type} (L : List Tk) (r : Res α) : Prop := ∀ x L', r = .ok x L' → L'.length ≤ L.length
theorem ShR.of {α : Type} {L M : List Tk} {r : Res α} (h : ShR M r) (hl : M.length ≤ L.length) : ShR L r := fun x L' e => Nat.le_trans (h x L' e) hl
end Go.Proofs.YtokkmjcpjjiaaaaDoor.S9
