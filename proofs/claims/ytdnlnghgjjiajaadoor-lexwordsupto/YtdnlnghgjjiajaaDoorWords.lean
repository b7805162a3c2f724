/-
  LexWords: its own walk.
-/
import Derived.Test.YtdnlnghgjjiajaaDoorRlx
namespace Go.Proofs.YtdnlnghgjjiajaaDoor
open Go.RowKit
set_option linter.unusedSimpArgs false
set_option linter.unusedVariables false

set_option maxRecDepth 100000 in
set_option maxHeartbeats 2000000 in
theorem Words_walk (s : ByteArray) (hs : s.size ≤ 1048576) (w : World) (hT : Tabs w) : Calls Tryd.prog 3 #[.string s] w fun e w' => e = .returned (.bool true) ∧ Below w.heap.size w w' := by
  have hz : s.data.toList.length = s.size := Array.length_toList
  have hH := head_any w hT
  have hL := fun w hT => Lex_two s (by unfold maxLen; omega) w hT
  have hR := fun w hT => refLex_any s (by unfold maxLen; omega) w hT
  have hcnt := lex_count s.data.toList
  have hK := fun w hT => Key_any s (by omega) w hT
  have hM := fun w => refKey_any s (by unfold maxLen; omega) w
  generalize txt (keyL s.data.toList) = x at hK hM
  generalize lexL s.data.toList = X at *
  obtain ⟨A, n, f⟩ := X
  dsimp only at *
  have hS := fun p1 p2 c1 c2 w h1 h2 => Same_yes A (by omega) p1 p2 c1 c2 w h1 h2
  replace hH : Hid _ := hH
  replace hL : Hid _ := hL
  replace hR : Hid _ := hR
  replace hK : Hid _ := hK
  replace hM : Hid _ := hM
  replace hS : Hid _ := hS
  go_enter Tryd.func3, Tryd.ntmps3
  go_wp2_with (first
    | (have hq := hM.out w5; (go_at_call 14); refine Calls.mono hq ?_; clear hq; rintro e w6 ⟨rfl, hb6⟩)
    | (have hq := hK.out _ (hT.below (below_on (below_on (below_on hb1 hb2) hb3) hb4)); (go_at_call 13); refine Calls.mono hq ?_; clear hq; rintro e w5 ⟨rfl, hb5⟩)
    | (have hq := hS.out p2 p3 c2 c3 w3 (Tks2.below (p := p2) (L := A) ht2.out hb3) ht3.out; (go_at_call 12); refine Calls.mono hq ?_; clear hq; rintro e w4 ⟨rfl, hb4⟩)
    | (have hq := hR.out _ (hT.below (below_on hb1 hb2)); (go_at_call 11); refine Calls.mono hq ?_; clear hq; rintro e w3 ⟨p3, c3, rfl, ht3, hb3⟩; replace ht3 : Hid _ := ht3)
    | (have hq := hL.out _ (hT.below hb1); (go_at_call 10); refine Calls.mono hq ?_; clear hq; rintro e w2 ⟨p2, c2, rfl, ht2, hb2⟩; replace ht2 : Hid _ := ht2)
    | (go_at_call 9; refine Calls.mono hH.out ?_; rintro e w1 ⟨rfl, hb1⟩))
  go_returns
  exact ⟨by simp, below_on (below_on (below_on (below_on (below_on hb1 hb2) hb3) hb4) hb5) hb6⟩
end Go.Proofs.YtdnlnghgjjiajaaDoor
