/-
  Row: turned for the seats of values.
-/
import Derived.Test.YtokkmjcpjjiaaaaDoorZTok
import Derived.Test.YtokkmjcpjjiaaaaDoorZLxa
import Derived.Lib.AtoiErrMem
import Derived.ScopeJumps
import Derived.Shelf.Strings.BuilderK
import Derived.Maps.AppendAt
import Derived.Laws.OwnMore
import Derived.Deep.AppendLies
namespace Go.Proofs.YtokkmjcpjjiaaaaDoor.S9
open Go.RowKit
set_option linter.unusedSimpArgs false
set_option linter.unusedVariables false
theorem info_parts {P : Program} {e : TypeId} {z : Value} {size bytes : Nat} (h : (P.info? e).map (fun i => (i.zero, i.size, i.bytes)) = some (some z, size, bytes)) : ∃ i, P.info? e = some i ∧ i.zero = some z ∧ i.size = size ∧ i.bytes = bytes := by
  obtain ⟨i, hi, he⟩ := Option.map_eq_some_iff.1 h
  simp only [Prod.mk.injEq] at he
  exact ⟨i, hi, he.1, he.2.1, he.2.2⟩
/-- A world in which nothing elder has turned, but for a row of the call's own. -/
theorem below_row {B : Nat} {W w w' : World} {v : Value} {e : TypeId} {k n : Nat} {xs : List Value} (h : Below B W w) (hg : w.grownBy w' v.ownBlock) (ho : w.ownsRow B e k v n xs) (hB : B ≤ W.heap.size) : Below B W w' := by
  refine ⟨hg.os.trans h.os, hg.tape.trans h.tape, hg.output.trans h.output, Nat.le_trans h.size hg.size, fun i hi => ?_⟩
  have hs := h.size
  refine (hg.block i (by omega) ?_).trans (h.block i hi)
  obtain ⟨_, ⟨e1, _⟩ | ⟨g, cap, cur, e1, e2, _⟩⟩ := ho
  · rw [e1]; simp [Value.ownBlock]
  · rw [e1]
    simp [Value.ownBlock]
    omega
end Go.Proofs.YtokkmjcpjjiaaaaDoor.S9
