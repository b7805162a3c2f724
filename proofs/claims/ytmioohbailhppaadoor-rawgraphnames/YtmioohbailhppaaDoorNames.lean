/-
  RawgraphNames: its own walk.
-/
import Derived.Test.YtmioohbailhppaaDoorHead
import Derived.Test.YtmioohbailhppaaDoorNr
namespace Go.Proofs.YtmioohbailhppaaDoor
open Go.RowKit
set_option linter.unusedSimpArgs false
set_option linter.unusedVariables false

set_option maxRecDepth 100000 in
theorem Names_walk (s : ByteArray) (w : World) (hs : s.size ≤ maxLen) (hT : Tabs w) : Calls Tryd.prog 3 #[.string s] w fun e w' => e = .returned (.bool true) ∧ Below w.heap.size w w' := by
  have hH := head_any w hT
  have hN := fun w => Name_any s w hs
  have hR := fun w h => refName_any s w hs h
  generalize nameB s = x at hN hR
  replace hH : Hid _ := hH
  replace hN : Hid _ := hN
  replace hR : Hid _ := hR
  go_enter Tryd.func3, Tryd.ntmps3
  go_wp2_with (first
    | (go_at_call 8; refine Calls.mono hH.out ?_; rintro e w1 ⟨rfl, hb1⟩)
    | (go_at_call 9; refine Calls.mono (hN.out _) ?_; rintro e w2 ⟨rfl, hb2⟩)
    | (go_at_call 10; refine Calls.mono (hR.out _ (hT.below (below_on hb1 hb2))) ?_; rintro e w3 ⟨rfl, hb3⟩))
  go_returns
  exact ⟨by simp, below_on (below_on hb1 hb2) hb3⟩
end Go.Proofs.YtmioohbailhppaaDoor
