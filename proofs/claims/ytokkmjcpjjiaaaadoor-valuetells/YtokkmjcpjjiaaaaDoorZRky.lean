/-
  Rky: turned for the seats of values.
-/
import Derived.Ground.NamesProg
import Derived.Shelf.Unicode.ValidAny
import Derived.Test.YtokkmjcpjjiaaaaDoorProg
import Derived.Test.YtokkmjcpjjiaaaaDoorZWra
import Derived.BigQuiet
import Derived.Test.YtokkmjcpjjiaaaaDoorZVal
import Derived.Lib.LaidU8T
import Derived.Lay
import Derived.LaidLaws
import Derived.OpenShut
import Derived.ChangeSlices
import Derived.Laws.BytesArg
import Derived.Deep.QuietTactic
import Derived.Lib.ConvBytes
import Derived.Lib.AtoiErrMem
namespace Go.Proofs.YtokkmjcpjjiaaaaDoor.S9
open Go.RowKit
set_option linter.unusedSimpArgs false
set_option linter.unusedVariables false
/-- Bytes in a row of the call's own. -/
structure BR (w : World) (g : Nat) (B : List UInt8) : Prop where
  c : ∀ i, i < B.length → w.cell? ⟨g, i, none⟩ = some (.int .u8 (B.getD i 0).toNat)
  f : ∀ i, i < B.length → w.frozen? ⟨g, i, none⟩ = false
theorem BR.below {w w' : World} {g : Nat} {B : List UInt8} (h : BR w g B) (hb : Below w.heap.size w w') : BR w' g B :=
  ⟨fun i hi => (hb.cell (World.block_lt_of_cell? w _ (h.c i hi))).trans (h.c i hi), fun i hi => (hb.frozen (p := ⟨g, i, none⟩) (World.block_lt_of_cell? w _ (h.c i hi))).trans (h.f i hi)⟩
end Go.Proofs.YtokkmjcpjjiaaaaDoor.S9
