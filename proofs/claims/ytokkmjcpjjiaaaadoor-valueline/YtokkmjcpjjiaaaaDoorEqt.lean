/-
  Equal and Less of the program and of the document.
-/
import Derived.Test.YtokkmjcpjjiaaaaDoorOrd
import Derived.Test.YtokkmjcpjjiaaaaDoorRnd
import Derived.Test.YtokkmjcpjjiaaaaDoorDec
namespace Go.Proofs.YtokkmjcpjjiaaaaDoor
open Go.RowKit
set_option linter.unusedSimpArgs false
set_option linter.unusedVariables false

/-- Equal, by kinds and how they stand. -/
def eqT (k1 k2 : Int) (ov : Int) : Value := if k1 = 0 ∨ k2 = 0 then tv 0 false else if k1 = 7 ∨ k2 = 7 then tv 7 false else tv 1 (ov == 0)
def lessT (k1 k2 : Int) (ov : Int) : Value := if k1 = 0 ∨ k2 = 0 then tv 0 false else if k1 = 7 ∨ k2 = 7 ∨ k1 ≠ k2 then tv 7 false else tv 1 (decide (ov < 0))
end Go.Proofs.YtokkmjcpjjiaaaaDoor
