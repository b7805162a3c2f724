/-
  The numbers of a path in memory.
-/
import Derived.Test.YtokkmjcpjjiaaaaDoorVal
namespace Go.Proofs.YtokkmjcpjjiaaaaDoor
open Go.RowKit

/-- The numbers of a path that came in. -/
def PathAt (w : World) (a : Option Addr) (zs : List Int) : Prop := zs = [] ∨ ∃ b off, a = some ⟨b, off, none⟩ ∧ ∀ i, i < zs.length → w.cell? ⟨b, off + i, none⟩ = some (.int .i64 (zs.getD i 0))
theorem PathAt.below {w w' : World} {a : Option Addr} {zs : List Int} (h : PathAt w a zs) (hb : Below w.heap.size w w') : PathAt w' a zs := by
  rcases h with h | ⟨b, off, e, h⟩
  · exact .inl h
  · exact .inr ⟨b, off, e, fun i hi => (hb.cell (World.block_lt_of_cell? w _ (h i hi))).trans (h i hi)⟩
theorem PathAt.alloc {w : World} {a : Option Addr} {zs : List Int} (h : PathAt w a zs) (o : Obj) : PathAt (w.alloc o) a zs := h.below ((Below.refl _ _).alloc (Nat.le_refl _) o)
/-- Its number at a place. -/
theorem PathAt.num {w : World} {a : Option Addr} {zs : List Int} (h : PathAt w a zs) (i : Nat) (hi : i < zs.length) : ∃ b off, a = some ⟨b, off, none⟩ ∧ w.cell? ⟨b, off + i, none⟩ = some (.int .i64 (zs.getD i 0)) := by
  rcases h with rfl | ⟨b, off, e, h⟩
  · simp at hi
  · exact ⟨b, off, e, h i hi⟩
end Go.Proofs.YtokkmjcpjjiaaaaDoor
