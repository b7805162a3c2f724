/-
  Val: turned for the seats of values.
-/
import Derived.Test.YtokkmjcpjjiaaaaDoorCards
import Derived.Test.YtokkmjcpjjiaaaaDoorTie
import Derived.Test.YtokkmjcpjjiaaaaDoorProg
import Derived.Test.YtokkmjcpjjiaaaaDoorZShb
import Derived.Test.YtokkmjcpjjiaaaaDoorZLxa
import Derived.WalkKit
import Derived.WalkMore
import Derived.Handy
import Derived.ProofKit
import Derived.OpenShut
import Derived.ShutString
import Derived.ChangeOld
import Derived.Below
import Derived.SizedLaws
import Derived.Deep.DeepHandedRow
import Derived.Lib.LaidTab
import Derived.Lib.SmallJoins
import Derived.LaidSub
import Derived.Deep.Slices
import Derived.Laws.RangeAny
import Derived.LoopTactic
namespace Go.Proofs.YtokkmjcpjjiaaaaDoor.S9
open Go.ChangeShapes Go.WideShapes Go.ChangeAt Go.RowKit
set_option linter.unusedSimpArgs false
set_option linter.unusedVariables false
/-- A world in which nothing elder has turned, behind two steps. -/
theorem below_on {a w w' : World} (h : Below a.heap.size a w) (k : Below w.heap.size w w') : Below a.heap.size a w' := h.trans (k.mono h.size)
theorem below_new (w : World) (o : Obj) : Below w.heap.size w (w.alloc o) := (Below.refl _ _).alloc (Nat.le_refl _) o
/-- A text of these bytes. -/
def txt (l : List UInt8) : ByteArray := ⟨l.toArray⟩
theorem txt_of (s : ByteArray) : txt s.data.toList = s := by simp [txt]
end Go.Proofs.YtokkmjcpjjiaaaaDoor.S9
