/-
  Tok: turned for the seats of values.
-/
import Derived.Test.YtokkmjcpjjiaaaaDoorZNma
import Derived.Laws.Rows
namespace Go.Proofs.YtokkmjcpjjiaaaaDoor.S9
open Go.ChangeShapes Go.WideShapes Go.ChangeAt Go.RowKit
set_option linter.unusedSimpArgs false
set_option linter.unusedVariables false
/-- A word's four fields in a block of its own. -/
structure BoxAt (w : World) (x : Nat) (k : Int) (t : ByteArray) (n a : Int) : Prop where
  c0 : w.cell? ⟨x, 0, none⟩ = some (.int .i64 k)
  c1 : w.cell? ⟨x, 1, none⟩ = some (.string t)
  c2 : w.cell? ⟨x, 2, none⟩ = some (.int .i64 n)
  c3 : w.cell? ⟨x, 3, none⟩ = some (.int .i64 a)
  fr : ∀ j, w.frozen? ⟨x, j, none⟩ = false
theorem BoxAt.lt {w : World} {x : Nat} {k : Int} {t : ByteArray} {n a : Int} (h : BoxAt w x k t n a) : x < w.heap.size := World.block_lt_of_cell? w _ h.c0
theorem BoxAt.below {w w' : World} {x : Nat} {k : Int} {t : ByteArray} {n a : Int} (h : BoxAt w x k t n a) (hb : Below w.heap.size w w') : BoxAt w' x k t n a :=
  ⟨(hb.cell h.lt).trans h.c0, (hb.cell h.lt).trans h.c1, (hb.cell h.lt).trans h.c2, (hb.cell h.lt).trans h.c3, fun j => (hb.frozen h.lt).trans (h.fr j)⟩
theorem BoxAt.alloc {w : World} {x : Nat} {k : Int} {t : ByteArray} {n a : Int} (h : BoxAt w x k t n a) (o : Obj) : BoxAt (w.alloc o) x k t n a :=
  h.below ((Below.refl _ _).alloc (Nat.le_refl _) o)
end Go.Proofs.YtokkmjcpjjiaaaaDoor.S9
