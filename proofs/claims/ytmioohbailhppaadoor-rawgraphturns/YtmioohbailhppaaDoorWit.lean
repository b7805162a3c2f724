/-
  A world in which the listed tables hold what the program's text lays.
-/
import Derived.Test.YtmioohbailhppaaDoorVal
namespace Go.Proofs.YtmioohbailhppaaDoor
open Go.ChangeShapes Go.WideShapes Go.ChangeAt Go.RowKit
set_option linter.unusedSimpArgs false
set_option linter.unusedVariables false

/-- A block with other cells. -/
def holdsNow (cs : Array Value) : Obj → Obj
  | .cells _ t frozen => .cells cs t frozen
  | o => o
def u8s (l : List Nat) : Array Value := (l.map fun z => Value.int .u8 (Int.ofNat z)).toArray
def accepts : List Nat := [128, 191, 160, 191, 128, 159, 144, 191, 128, 143, 0, 0, 0, 0, 0, 0, 0, 0, 0, 0, 0, 0, 0, 0, 0, 0, 0, 0, 0, 0, 0, 0]
/-- Blocks, the listed tables among them holding their numbers. -/
def laidHeap (h : Array Obj) : Array Obj := (h.modify 0 (holdsNow (u8s Go.Pinned.utf8FirstZ))).modify 1 (holdsNow (u8s accepts))
/-- The settled world, each listed table holding its numbers. -/
noncomputable def laidWorld (os : Os) : World :=
  { World.holding Tryd.prog os ⟨#[], #[], []⟩ with heap := laidHeap (World.holding Tryd.prog os ⟨#[], #[], []⟩).heap }
theorem laid_met (os : Os) (args : Array Value) : laidMet Tryd.prog Rows.rawgraphNamesRow.laid ((laidWorld os).forCall (fun _ _ => 0) ⟨#[], args, []⟩).memory :=
  laidMet_of_run' 8 (by kernel_rfl) (by kernel_rfl)
end Go.Proofs.YtmioohbailhppaaDoor
