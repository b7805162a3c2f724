/-
  CsrMeets: its own walk.
-/
import Derived.Test.YthdeifjnfcjaaaaHead
namespace Go.Proofs.Ythdeifjnfcjaaaa
open Go.RowKit
set_option linter.unusedSimpArgs false
set_option linter.unusedVariables false

theorem sameB_yes {A B : List Int} (h : A = B) : sameB A B = true := by simp [sameB, h]
set_option maxRecDepth 100000 in
set_option maxHeartbeats 2000000 in
theorem Meets_walk (a : Option Addr) (n c : Nat) (L : List IL) (w : World) (hn : L.length = n) (hL : ILsAt w a L) (hX : n * 24 ≤ 140737488351232) :
    Calls Try.prog 3 #[.slice a n c] w fun e w' => e = .returned (.bool true) ∧ Below w.heap.size w w' := by
  have hH := head_any w
  have hM := fun w' (hb : Below w.heap.size w w') => Meet_any a n c L w' hn (hL.below hb) (by omega)
  have hR := fun w' (hb : Below w.heap.size w w') => refMeet_any a n c L w' hn (hL.below hb) (by omega)
  have hl0 : (L.getD 0 default).l * 8 ≤ 140737488351232 := by
    by_cases h0 : L = []
    · rw [h0]; decide
    · exact (hL.oks 0 (List.length_pos_iff.2 h0)).lb
  replace hH : Hid _ := hH
  replace hM : Hid _ := hM
  replace hR : Hid _ := hR
  clear hL hn
  go_enter Try.func3, Try.ntmps3
  go_wp2_with (first
    | (go_at_call 6; refine Calls.mono hH.out ?_; rintro e w1 ⟨rfl, hb1⟩)
    | (go_at_call 7; refine Calls.mono (hM.out _ hb1) ?_; rintro e w2 ⟨p, c2, A, rfl, hp, hAl, hA1, hA2, hb2⟩; replace hb2 := below_on hb1 hb2)
    | (go_at_call 8; refine Calls.mono (hR.out _ hb2) ?_; rintro e w3 ⟨q, c3, B, rfl, hq, hBl, hB1, hB2, hb3⟩; replace hp := PathAt.below hp hb3; replace hb3 := below_on hb2 hb3)
    | (go_at_call 9; have hAB : A = B := (by by_cases h : metE L = 0; exact (hA1 h).one (hB1 h); rw [hA2 h, hB2 h]); have hS := same_any p A.length c2 A q B.length c3 B w3 rfl rfl (by unfold maxLen; omega) (by unfold maxLen; omega) hp hq; rw [sameB_yes hAB] at hS; refine Calls.mono hS ?_; clear hS hAB hA1 hA2 hB1 hB2; rintro e w4 ⟨rfl, hb4⟩))
  go_returns
  exact ⟨by simp, below_on hb3 hb4⟩
end Go.Proofs.Ythdeifjnfcjaaaa
