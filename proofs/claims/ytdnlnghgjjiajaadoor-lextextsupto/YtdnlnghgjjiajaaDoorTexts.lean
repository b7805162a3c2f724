/-
  LexTexts: its own walk.
-/
import Derived.Test.YtdnlnghgjjiajaaDoorQuo
namespace Go.Proofs.YtdnlnghgjjiajaaDoor
open Go.RowKit
set_option linter.unusedSimpArgs false
set_option linter.unusedVariables false

theorem Lex_quoted (s : ByteArray) (hv : Lib.validD s.data.toList = true) (hz : (txt (quoL s.data.toList)).size ≤ 4096) (w : World) (hT : Tabs w) :
    Calls Tryd.prog 10 #[.string (txt (quoL s.data.toList))] w fun e w' => (∃ g cap, e = .returned (.tuple #[.slice (some ⟨g, 0, none⟩) 1 cap, .int .i64 0, .int .i64 0]) ∧
      w'.cell? ⟨g, 0, none⟩ = some (.int .i64 4) ∧ w'.cell? ⟨g, 1, none⟩ = some (.string s) ∧ w'.cell? ⟨g, 3, none⟩ = some (.int .i64 0)) ∧ Below w.heap.size w w' := by
  have hz2 : (quoL s.data.toList).length ≤ 4096 := by rw [txt_size] at hz; exact hz
  refine (Lex_at _ (by unfold maxLen; omega) w hT).mono ?_
  rw [txt_list, lex_quoted _ hv hz2]
  rintro e w' ⟨v, rfl, ht, hb⟩
  rcases ht with ⟨_, ht⟩ | ⟨g, cap, rfl, hc⟩
  · cases ht
  · refine ⟨⟨g, cap, rfl, (hc 0 (show 0 < 1 by omega)).1, ?_, (hc 0 (show 0 < 1 by omega)).2.2.2⟩, hb⟩
    have := (hc 0 (show 0 < 1 by omega)).2.1
    rw [show txt (([⟨4, s.data.toList, 0, 0⟩] : List Tk).getD 0 default).t = s from txt_of s] at this
    exact this
set_option maxRecDepth 100000 in
set_option maxHeartbeats 2000000 in
theorem Texts_walk (s : ByteArray) (hs : s.size ≤ 1048576) (w : World) (hT : Tabs w) : Calls Tryd.prog 7 #[.string s] w fun e w' => e = .returned (.bool true) ∧ Below w.heap.size w w' := by
  have hH := head_any w hT
  have hR := fun w hT => Right_text s hs w hT
  have hQ := fun w => Quoted_any s hs w
  have hL := fun hv hz w hT => Lex_quoted s hv hz w hT
  generalize txt (quoL s.data.toList) = X at *
  generalize Lib.validD s.data.toList = V at *
  replace hH : Hid _ := hH
  replace hR : Hid _ := hR
  replace hQ : Hid _ := hQ
  replace hL : Hid _ := hL
  by_cases hz : X.size ≤ 4096
  · go_enter Tryd.func7, Tryd.ntmps7
    go_wp2_with (first
      | (have hq := hL.out (by first | rfl | exact hbv | exact hbv rfl | exact hbv trivial | simpa using hbv) (by first | exact hz | omega) _ (hT.below (below_on (below_on hb1 hb2) hb3)); (go_at_call 10); refine Calls.mono hq ?_; clear hq; rintro e w4 ⟨⟨g, cap, rfl, x0, x1, x3⟩, hb4⟩)
      | (have hq := hQ.out w2; (go_at_call 17); refine Calls.mono hq ?_; clear hq; rintro e w3 ⟨rfl, hb3⟩)
      | (have hq := hR.out (w1.alloc (.cells #[.int .i64 3, .bool false, .int .i64 0, .string s, .slice none 0 0] 42)) (hT.below (below_on hb1 (below_new _ _))); (go_at_call 16); refine Calls.mono hq ?_; clear hq; rintro e w2 ⟨⟨b, rfl, hbv⟩, hb2a⟩; have hb2 := below_on (below_new w1 _) hb2a; clear hb2a; (cases b))
      | (go_at_call 9; refine Calls.mono hH.out ?_; rintro e w1 ⟨rfl, hb1⟩))
    · go_returns
      exact ⟨rfl, below_on (below_on hb1 hb2) hb3⟩
    · go_returns
      exact ⟨by simp, below_on (below_on (below_on hb1 hb2) hb3) hb4⟩
  · go_enter Tryd.func7, Tryd.ntmps7
    go_wp2_with (first
      | (have hq := hQ.out w2; (go_at_call 17); refine Calls.mono hq ?_; clear hq; rintro e w3 ⟨rfl, hb3⟩)
      | (have hq := hR.out (w1.alloc (.cells #[.int .i64 3, .bool false, .int .i64 0, .string s, .slice none 0 0] 42)) (hT.below (below_on hb1 (below_new _ _))); (go_at_call 16); refine Calls.mono hq ?_; clear hq; rintro e w2 ⟨⟨b, rfl, hbv⟩, hb2a⟩; have hb2 := below_on (below_new w1 _) hb2a; clear hb2a; (cases b))
      | (go_at_call 9; refine Calls.mono hH.out ?_; rintro e w1 ⟨rfl, hb1⟩))
    · go_returns
      exact ⟨rfl, below_on (below_on hb1 hb2) hb3⟩
    · go_returns
      exact ⟨rfl, below_on (below_on hb1 hb2) hb3⟩
end Go.Proofs.YtdnlnghgjjiajaaDoor
