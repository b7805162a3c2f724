/-
  Wra: turned for the seats of values.
-/
import Derived.Test.YtokkmjcpjjiaaaaDoorProg
import Derived.WalkKit
import Derived.WalkMore
import Derived.Handy
import Derived.ProofKit
import Derived.Shelf.RegionOpenPlain
import Derived.Lib.Strings
import Derived.Lib.Slices
import Derived.Lib.Walk
import Derived.Lib.Builder
import Derived.Lib.AppendStr
import Derived.Lib.UnsafeStr
import Derived.Lib.MakeNoZero
import Derived.Lib.OthersKept
import Derived.Laws.Externs
import Derived.Laws.IdiomCopy
import Derived.Test.YtokkmjcpjjiaaaaDoorZLxa
import Derived.Test.YtokkmjcpjjiaaaaDoorZVal
import Derived.LoopTactic
import Derived.Laws.RangeAny
import Derived.Test.YtokkmjcpjjiaaaaDoorZSya
import Derived.Lib.ItoaNum
import Derived.Test.YtokkmjcpjjiaaaaDoorZTok
import Derived.Recover
import Derived.Defers
import Derived.WalkLawsBesides
namespace Go.Proofs.YtokkmjcpjjiaaaaDoor.S9
open Go.ChangeShapes Go.WideShapes Go.ChangeAt Go.RowKit
set_option linter.unusedSimpArgs false
set_option linter.unusedVariables false
theorem infoB : (Tryd.prog.info? 5).map (fun i => (i.zero, i.size, i.bytes)) = some (some (.int .u8 0), 1, 1) := by kernel_rfl
end Go.Proofs.YtokkmjcpjjiaaaaDoor.S9
namespace Go.Proofs.YtokkmjcpjjiaaaaDoor.S9
open Go.ChangeShapes Go.WideShapes Go.ChangeAt Go.RowKit
set_option linter.unusedSimpArgs false
set_option linter.unusedVariables false
/-- What the writing of a text may turn: nothing below B; of all else the text's own block, rows of bytes, and what is new. -/
structure Kps (B b : Nat) (w w' : World) : Prop where
  bel : Below B w w'
  oth : Lib.OthersKept 5 (some b) w w'
theorem Kps.refl (B b : Nat) (w : World) : Kps B b w w := ⟨Below.refl _ _, Lib.OthersKept.refl _ _ _⟩
theorem Kps.trans {B b : Nat} {a c d : World} (h : Kps B b a c) (k : Kps B b c d) : Kps B b a d := ⟨h.bel.trans k.bel, h.oth.trans k.oth⟩
theorem Kps.of {B b : Nat} {w w' : World} (h : Below w.heap.size w w') (hB : B ≤ w.heap.size) : Kps B b w w' :=
  ⟨h.mono hB, fun k o hk _ _ => (h.block k (Array.getElem?_eq_some_iff.1 hk).1).trans hk⟩
theorem Kps.size {B b : Nat} {w w' : World} (h : Kps B b w w') : w.heap.size ≤ w'.heap.size := h.bel.size
end Go.Proofs.YtokkmjcpjjiaaaaDoor.S9
