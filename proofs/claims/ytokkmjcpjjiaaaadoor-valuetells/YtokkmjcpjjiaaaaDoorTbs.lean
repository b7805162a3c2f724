/-
  The tables of package utf8, as the rows list them; utf8.ValidString at every text.
-/
import Derived.Test.YtokkmjcpjjiaaaaDoorVsh
import Derived.Test.YtokkmjcpjjiaaaaDoorOpn
import Derived.Lib.LaidU8T
namespace Go.Proofs.YtokkmjcpjjiaaaaDoor
open Go.ChangeShapes Go.WideShapes Go.ChangeAt Go.RowKit Go.Lib
set_option linter.unusedSimpArgs false
set_option linter.unusedVariables false

def Tabs (w : World) : Prop := Lib.Utf8Tabs (Tryd.laysValid_ren.g 3) (Tryd.laysValid_ren.g 4) w
theorem Tabs.below {w w' : World} (h : Tabs w) (hb : Below w.heap.size w w') : Tabs w' := Utf8Tabs_below h hb
theorem valid_any (s : ByteArray) (hs : s.size ≤ maxLen) (w : World) (hT : Tabs w) : ∀ w', Below w.heap.size w w' → Calls Tryd.prog 40 #[.string s] w' fun e w'' => e = .returned (.bool (Lib.validD s.data.toList)) ∧ Below w'.heap.size w' w'' := fun w' hb =>
  Tryd.validString s w' (by unfold maxLen at hs; omega) (hT.below hb)
theorem laid_eq : Rows.valueTruthsRow.laid.drop 3 = [("unicode/utf8.acceptRanges", acceptData), ("unicode/utf8.first", firstData)] := by kernel_rfl
theorem tabs_of {W : World} (hL : laidMetH Tryd.prog Rows.valueTruthsRow.laid W) : Tabs W := by
  have hm : ∀ x ∈ Rows.valueTruthsRow.laid.drop 3, x ∈ Rows.valueTruthsRow.laid := fun x hx => List.mem_of_mem_drop hx
  rw [laid_eq] at hm
  exact utf8Tabs_of_readsT (U8Types.of196 Tryd.laysValid) ⟨by kernel_rfl, by kernel_rfl, by kernel_rfl, by kernel_rfl, by kernel_rfl, by kernel_rfl, by kernel_rfl⟩ (Lib.laidMet.reads hL (hm _ (.tail _ (.head _)))) (Lib.laidMet.reads hL (hm _ (.head _)))
end Go.Proofs.YtokkmjcpjjiaaaaDoor
