/-
  The live question that every statement of layer 2 asks first is answered true.
-/
import Derived.Test.YtokkmjcpjjiaaaaDoorFmt
import Derived.Test.YtokkmjcpjjiaaaaDoorRnd
import Derived.Test.YtokkmjcpjjiaaaaDoorBox
namespace Go.Proofs.YtokkmjcpjjiaaaaDoor
open Go.RowKit
set_option linter.unusedSimpArgs false
set_option linter.unusedVariables false

set_option maxRecDepth 100000 in
theorem others7 (w : World) : Calls Tryd.prog 38 #[.agg #[.int .i64 2, .bool false, .int .i64 (-7), .string ⟨#[]⟩, .slice none 0 0]] w fun e w' => e = .returned (.bool true) ∧ Below w.heap.size w w' := by
  go_enter Tryd.func38, Tryd.ntmps38
  go_wp2
  go_returns
  exact ⟨rfl, by go_grown⟩
set_option maxRecDepth 100000 in
theorem fits7 (w : World) : Calls Tryd.prog 39 #[.agg #[.int .i64 2, .bool false, .int .i64 (-7), .string ⟨#[]⟩, .slice none 0 0]] w fun e w' => e = .returned (.bool true) ∧ Below w.heap.size w w' := by
  go_enter Tryd.func39, Tryd.ntmps39
  go_wp2
  go_returns
  exact ⟨rfl, by go_grown⟩
set_option maxRecDepth 100000 in
theorem right7 (w : World) : Calls Tryd.prog 12 #[.agg #[.int .i64 2, .bool false, .int .i64 (-7), .string ⟨#[]⟩, .slice none 0 0]] w fun e w' => e = .returned (.bool true) ∧ Below w.heap.size w w' := by
  have hbx := BoxAt.new w 2 false (-7) ⟨#[]⟩ none 0 0 rfl
  go_enter Tryd.func12, Tryd.ntmps12
  go_wp2_with (first | (go_at_call 38; refine (others7 _).mono ?_; rintro e w1 ⟨rfl, h1⟩; obtain ⟨c0, c1, c2, c3, c4, -⟩ := hbx.below h1) | (go_at_call 39; refine (fits7 _).mono ?_; rintro e w2 ⟨rfl, h2⟩))
  go_returns
  exact ⟨rfl, below_on (below_on (below_new _ _) h1) h2⟩

set_option maxRecDepth 100000 in
theorem show7 (w : World) (h : w.cell? ⟨3, 0, none⟩ = some (.int .u64 1)) : Calls Tryd.prog 14 #[.agg #[.int .i64 2, .bool false, .int .i64 (-7), .string ⟨#[]⟩, .slice none 0 0]] w fun e w' => e = .returned (.string ⟨#[45, 55]⟩) ∧ Below w.heap.size w w' := by
  have hbx := BoxAt.new w 2 false (-7) ⟨#[]⟩ none 0 0 rfl
  go_enter Tryd.func14, Tryd.ntmps14
  go_wp2_with (first | (go_at_call 12; refine (right7 _).mono ?_; rintro e w1 ⟨rfl, h1⟩; obtain ⟨c0, c1, c2, c3, c4, -⟩ := hbx.below h1) | (go_at_call 43; refine (formatInt7 _ ?_).mono ?_; (focus exact (h1.cell (p := ⟨3, 0, none⟩) (World.block_lt_of_cell? _ _ (cell_keep _ h))).trans (cell_keep _ h)); rintro e w2 ⟨rfl, h2⟩))
  go_returns
  exact ⟨rfl, below_on (below_on (below_new _ _) h1) h2⟩

set_option maxRecDepth 100000 in
theorem hashNil (w : World) : Calls Tryd.prog 17 #[.slice none 0 0] w fun e w' => e = .returned (.int .u64 14695981039346656037) ∧ w' = w := by
  go_enter Tryd.func17, Tryd.ntmps17
  go_wp2
  go_rounds 1
  go_returns
  exact ⟨rfl, rfl⟩

set_option maxRecDepth 100000 in
theorem compare01 (w : World) : Calls Tryd.prog 50 #[.int .i64 0, .int .i64 1] w fun e w' => e = .returned (.int .i64 (-1)) ∧ w' = w := by
  go_enter Tryd.func50, Tryd.ntmps50
  go_wp2
  go_returns
  exact ⟨rfl, rfl⟩
set_option maxRecDepth 100000 in
theorem order01 (w : World) : Calls Tryd.prog 21 #[.agg #[.int .i64 0, .bool false, .int .i64 0, .string ⟨#[]⟩, .slice none 0 0], .agg #[.int .i64 1, .bool false, .int .i64 0, .string ⟨#[]⟩, .slice none 0 0]] w fun e w' => e = .returned (.int .i64 (-1)) ∧ Below w.heap.size w w' := by
  go_enter Tryd.func21, Tryd.ntmps21
  go_wp2_with (go_at_call 50; refine (compare01 _).mono ?_; rintro e w1 ⟨rfl, rfl⟩)
  go_returns
  exact ⟨rfl, by go_grown⟩

set_option maxRecDepth 100000 in
theorem head_any (w : World) (h : w.cell? ⟨3, 0, none⟩ = some (.int .u64 1)) : Calls Tryd.prog 9 #[] w fun e w' => e = .returned (.bool true) ∧ Below w.heap.size w w' := by
  go_enter Tryd.func9, Tryd.ntmps9
  go_wp2_with (first | (go_at_call 14; refine (show7 _ h).mono ?_; rintro e w1 ⟨rfl, h1⟩) | (go_at_call 17; refine (hashNil _).mono ?_; rintro e w2 ⟨rfl, rfl⟩) | (go_at_call 35; refine (Truth_raw _ _).mono ?_; rintro e w3 ⟨rfl, rfl⟩) | (go_at_call 21; refine (order01 _).mono ?_; rintro e w4 ⟨rfl, h4⟩))
  go_returns
  exact ⟨rfl, below_on (below_on h1 (below_new _ _)) h4⟩
end Go.Proofs.YtokkmjcpjjiaaaaDoor
