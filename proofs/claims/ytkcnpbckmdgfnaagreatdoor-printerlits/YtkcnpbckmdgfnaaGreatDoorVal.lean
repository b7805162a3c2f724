/-
  What the walks share: worlds in which nothing elder has turned; the tables that the program reads.
-/
import Derived.Test.YtkcnpbckmdgfnaaGreatDoorCards
import Derived.Test.YtkcnpbckmdgfnaaGreatDoorTie
import Derived.Test.YtkcnpbckmdgfnaaGreatDoorProg
import Derived.Test.YtkcnpbckmdgfnaaGreatDoorSha
import Derived.Test.YtkcnpbckmdgfnaaGreatDoorLxa
import Derived.WalkKit
import Derived.WalkMore
import Derived.Handy
import Derived.ProofKit
import Derived.OpenShut
import Derived.ShutString
import Derived.ChangeOld
import Derived.Below
import Derived.SizedLaws
import Derived.Deep.DeepHandedRow
import Derived.Lib.LaidTab
import Derived.Lib.SmallJoins
import Derived.LaidSub
import Derived.Deep.Slices
import Derived.Laws.RangeAny
import Derived.LoopTactic
namespace Go.Proofs.YtkcnpbckmdgfnaaGreatDoor
open Go.ChangeShapes Go.WideShapes Go.ChangeAt Go.RowKit
set_option linter.unusedSimpArgs false
set_option linter.unusedVariables false

/-- A world in which nothing elder has turned, behind two steps. -/
theorem below_on {a w w' : World} (h : Below a.heap.size a w) (k : Below w.heap.size w w') : Below a.heap.size a w' := h.trans (k.mono h.size)
theorem below_new (w : World) (o : Obj) : Below w.heap.size w (w.alloc o) := (Below.refl _ _).alloc (Nat.le_refl _) o
theorem cell_keep {w : World} {a : Addr} {v : Value} (o : Obj) (h : w.cell? a = some v) : (w.alloc o).cell? a = some v := by
  have hb : Below w.heap.size w (w.alloc o) := (Below.refl _ _).alloc (Nat.le_refl _) o
  exact (hb.cell (World.block_lt_of_cell? w _ h)).trans h

/-- A text of these bytes. -/
def txt (l : List UInt8) : ByteArray := ⟨l.toArray⟩
theorem txt_list (l : List UInt8) : (txt l).data.toList = l := by simp [txt]
theorem txt_size (l : List UInt8) : (txt l).size = l.length := by simp [txt, ByteArray.size]
theorem txt_of (s : ByteArray) : txt s.data.toList = s := by simp [txt]
/-- A row of texts in a variable. -/
def rowT (L : List (List UInt8)) : Array Value := (L.map fun k => Value.string (txt k)).toArray
/-- The tables that the program reads. -/
structure Tabs (w : World) : Prop where
  u8 : Lib.Utf8Tabs 2 3 w
  keys : ∃ t fr, w.heap[1]? = some (.cells (rowT keysL) t fr)
  signs : ∃ t fr, w.heap[5]? = some (.cells (rowT signsL) t fr)
  p10 : Lib.TabIs Tryz.prog w "internal/strconv.uint64pow10" .u64 Lib.pow10Tab
  rng : ∃ ev, w.cell? ⟨9, 0, none⟩ = some ev ∧ (ev = .nilIface ∨ ∃ te pe, ev = .iface te pe)
  sz : 9 ≤ w.heap.size
theorem pow10_named : Tryz.prog.globalNamed "internal/strconv.uint64pow10" = some 4 := by kernel_rfl
theorem Tabs.below {w w' : World} (h : Tabs w) (hb : Below w.heap.size w w') : Tabs w' := by
  have hz := h.sz
  obtain ⟨t, fr, h0⟩ := h.keys
  obtain ⟨t3, fr3, h3⟩ := h.signs
  obtain ⟨ev, h6, h6'⟩ := h.rng
  refine ⟨Utf8Tabs_below h.u8 hb, ⟨t, fr, (hb.block 1 (by omega)).trans h0⟩, ⟨t3, fr3, (hb.block 5 (by omega)).trans h3⟩, ?_, ⟨ev, (hb.cell (p := ⟨9, 0, none⟩) (World.block_lt_of_cell? w _ h6)).trans h6, h6'⟩, Nat.le_trans hz hb.size⟩
  have hp := h.p10
  unfold Lib.TabIs World.var? at hp ⊢
  rw [pow10_named] at hp ⊢
  simp only [Option.bind_some] at hp ⊢
  rw [hb.block 4 (by omega)]
  exact hp
end Go.Proofs.YtkcnpbckmdgfnaaGreatDoor
