/-
  Val: turned for the seat of the expressions.
-/
import Derived.Test.YtkcnpbckmdgfnaaDoorCards
import Derived.Test.YtkcnpbckmdgfnaaDoorTie
import Derived.Test.YtkcnpbckmdgfnaaDoorProg
import Derived.Test.YtkcnpbckmdgfnaaDoorShb
import Derived.Test.YtkcnpbckmdgfnaaDoorLxa
import Derived.WalkKit
import Derived.WalkMore
import Derived.Handy
import Derived.ProofKit
import Derived.OpenShut
import Derived.ShutString
import Derived.ChangeOld
import Derived.Below
import Derived.SizedLaws
import Derived.Deep.DeepHandedRow
import Derived.Lib.LaidTab
import Derived.Lib.SmallJoins
import Derived.LaidSub
import Derived.Deep.Slices
import Derived.Laws.RangeAny
import Derived.LoopTactic
namespace Go.Proofs.YtkcnpbckmdgfnaaDoor
open Go.ChangeShapes Go.WideShapes Go.ChangeAt Go.RowKit
set_option linter.unusedSimpArgs false
set_option linter.unusedVariables false
/-- A world in which nothing elder has turned, behind two steps. -/
theorem below_on {a w w' : World} (h : Below a.heap.size a w) (k : Below w.heap.size w w') : Below a.heap.size a w' := h.trans (k.mono h.size)
theorem below_new (w : World) (o : Obj) : Below w.heap.size w (w.alloc o) := (Below.refl _ _).alloc (Nat.le_refl _) o
/-- A text of these bytes. -/
def txt (l : List UInt8) : ByteArray := ⟨l.toArray⟩
theorem txt_list (l : List UInt8) : (txt l).data.toList = l := by simp [txt]
theorem txt_size (l : List UInt8) : (txt l).size = l.length := by simp [txt, ByteArray.size]
theorem txt_of (s : ByteArray) : txt s.data.toList = s := by simp [txt]
/-- A row of texts in a variable. -/
def rowT (L : List (List UInt8)) : Array Value := (L.map fun k => Value.string (txt k)).toArray
/-- The tables that the program reads. -/
structure Tabs (w : World) : Prop where
  u8 : Lib.Utf8Tabs 2 3 w
  keys : ∃ t fr, w.heap[1]? = some (.cells (rowT keysL) t fr)
  p10 : Lib.TabIs Tryd.prog w "internal/strconv.uint64pow10" .u64 Lib.pow10Tab
  sz : 5 ≤ w.heap.size
theorem pow10_named : Tryd.prog.globalNamed "internal/strconv.uint64pow10" = some 4 := by kernel_rfl
theorem Tabs.below {w w' : World} (h : Tabs w) (hb : Below w.heap.size w w') : Tabs w' := by
  have hz := h.sz
  obtain ⟨t, fr, h0⟩ := h.keys
  refine ⟨Utf8Tabs_below h.u8 hb, ⟨t, fr, (hb.block 1 (by omega)).trans h0⟩, ?_, Nat.le_trans hz hb.size⟩
  have hp := h.p10
  unfold Lib.TabIs World.var? at hp ⊢
  rw [pow10_named] at hp ⊢
  simp only [Option.bind_some] at hp ⊢
  rw [hb.block 4 (by omega)]
  exact hp
end Go.Proofs.YtkcnpbckmdgfnaaDoor
