/-
  Rdm: turned for the seat of the expressions.
-/
import Derived.Test.YtkcnpbckmdgfnaaDoorRdp
namespace Go.Proofs.YtkcnpbckmdgfnaaDoor
open Go.ChangeShapes Go.WideShapes Go.ChangeAt Go.RowKit
set_option linter.unusedSimpArgs false
set_option linter.unusedVariables false
theorem Only.lt {B : Nat} {w w' : World} (h : Only (· = B) w w') {k : Nat} (hk : k < w.heap.size) : k < w'.heap.size := Nat.lt_of_lt_of_le hk h.size
end Go.Proofs.YtkcnpbckmdgfnaaDoor
