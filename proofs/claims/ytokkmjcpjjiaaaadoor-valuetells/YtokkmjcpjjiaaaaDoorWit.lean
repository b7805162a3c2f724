/-
  A world in which the listed tables hold what the program's text lays.
-/
import Derived.Test.YtokkmjcpjjiaaaaDoorOpn
namespace Go.Proofs.YtokkmjcpjjiaaaaDoor
open Go.ChangeShapes Go.WideShapes Go.ChangeAt Go.RowKit
set_option linter.unusedSimpArgs false
set_option linter.unusedVariables false

/-- A block with other cells. -/
def holdsNow (cs : Array Value) : Obj → Obj
  | .cells _ t frozen => .cells cs t frozen
  | o => o
def u8s (l : List Nat) : Array Value := (l.map fun z => Value.int .u8 (Int.ofNat z)).toArray
def u64s (l : List Int) : Array Value := (l.map fun z => Value.int .u64 z).toArray
def accepts : List Nat := [128, 191, 160, 191, 128, 159, 144, 191, 128, 143, 0, 0, 0, 0, 0, 0, 0, 0, 0, 0, 0, 0, 0, 0, 0, 0, 0, 0, 0, 0, 0, 0]
def bruijn32 : List Nat := [0, 1, 28, 2, 29, 14, 24, 3, 30, 22, 20, 15, 25, 17, 4, 8, 31, 27, 13, 23, 21, 19, 16, 7, 26, 12, 18, 6, 11, 5, 10, 9]
def bruijn64 : List Nat := [0, 1, 56, 2, 57, 49, 28, 3, 61, 58, 42, 50, 38, 29, 17, 4, 62, 47, 59, 36, 45, 43, 51, 22, 53, 39, 33, 30, 24, 18, 12, 5, 63, 55, 48, 27, 60, 41, 37, 16, 46, 35, 44, 21, 52, 32, 23, 11, 54, 26, 40, 15, 34, 20, 31, 10, 25, 14, 19, 9, 13, 8, 7, 6]
/-- Blocks, the listed tables among them holding their numbers. -/
def laidHeap (h : Array Obj) : Array Obj :=
  ((((h.modify 0 (holdsNow (u8s Go.Pinned.utf8FirstZ))).modify 1 (holdsNow (u8s accepts))).modify 3 (holdsNow (u64s tens))).modify 4 (holdsNow (u8s bruijn32))).modify 5 (holdsNow (u8s bruijn64))
/-- The settled world, each listed table holding its numbers. -/
noncomputable def laidWorld (os : Os) : World :=
  { World.holding Tryd.prog os ⟨#[], #[], []⟩ with heap := laidHeap (World.holding Tryd.prog os ⟨#[], #[], []⟩).heap }
/-- Null. -/
def nul : Value := .agg #[.int .i64 0, .bool false, .int .i64 0, .string ⟨#[]⟩, .slice none 0 0]
theorem laid_met (os : Os) (args : Array Value) : laidMet Tryd.prog Rows.valueTruthsRow.laid ((laidWorld os).forCall (fun _ _ => 0) ⟨#[], args, []⟩).memory :=
  laidMet_of_run' 8 (by kernel_rfl) (by kernel_rfl)
theorem laid_met2 (os : Os) : laidMet Tryd.prog Rows.valueTruthsRow.laid ((laidWorld os).forCall (fun _ _ => 0) ⟨#[], #[nul, nul], []⟩).memory := laid_met os _
end Go.Proofs.YtokkmjcpjjiaaaaDoor
