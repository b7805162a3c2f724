/-
  Rdp: turned for the seat of the expressions.
-/
import Derived.Test.YtkcnpbckmdgfnaaDoorRdr
namespace Go.Proofs.YtkcnpbckmdgfnaaDoor
open Go.ChangeShapes Go.WideShapes Go.ChangeAt Go.RowKit
set_option linter.unusedSimpArgs false
set_option linter.unusedVariables false
/-- A block that is new: its cells, as long as it is not B. -/
theorem alloc_cell (w : World) {cs : Array Value} {t i : Nat} {v : Value} (h : cs[i]? = some v) : (w.alloc (.cells cs t)).cell? ⟨w.heap.size, i, none⟩ = some v := by
  simp only [World.cell?, heap_alloc_new]
  exact h
end Go.Proofs.YtkcnpbckmdgfnaaDoor
