/-
  LexKeys: its own walk.
-/
import Derived.Test.YtdnlnghgjjiajaaDoorRky
namespace Go.Proofs.YtdnlnghgjjiajaaDoor
open Go.RowKit
set_option linter.unusedSimpArgs false
set_option linter.unusedVariables false

set_option maxRecDepth 100000 in
theorem Keys_walk (s : ByteArray) (hs : s.size < 35184372088832) (w : World) (hT : Tabs w) : Calls Tryd.prog 6 #[.string s] w fun e w' => e = .returned (.bool true) ∧ Below w.heap.size w w' := by
  have hH := head_any w hT
  have hK := fun w hT => Key_any s hs w hT
  have hR := fun w => refKey_any s (by unfold maxLen; omega) w
  generalize txt (keyL s.data.toList) = x at hK hR
  replace hH : Hid _ := hH
  replace hK : Hid _ := hK
  replace hR : Hid _ := hR
  go_enter Tryd.func6, Tryd.ntmps6
  go_wp2_with (first
    | (go_at_call 9; refine Calls.mono hH.out ?_; rintro e w1 ⟨rfl, hb1⟩)
    | (go_at_call 13; refine Calls.mono (hK.out _ (hT.below hb1)) ?_; rintro e w2 ⟨rfl, hb2⟩)
    | (go_at_call 14; refine Calls.mono (hR.out _) ?_; rintro e w3 ⟨rfl, hb3⟩))
  go_returns
  exact ⟨by simp, below_on (below_on hb1 hb2) hb3⟩
end Go.Proofs.YtdnlnghgjjiajaaDoor
