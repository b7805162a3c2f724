/-
  The live question that every statement of layer 2 asks first is answered true.
-/
import Derived.Test.YtokkmjcpjjiaaabDoorFmt
import Derived.Test.YtokkmjcpjjiaaabDoorRnd
import Derived.Test.YtokkmjcpjjiaaabDoorBox
namespace Go.Proofs.YtokkmjcpjjiaaabDoor
open Go.RowKit
set_option linter.unusedSimpArgs false
set_option linter.unusedVariables false

set_option maxRecDepth 100000 in
theorem others7 (w : World) : Calls Tryd.prog 26 #[.agg #[.int .i64 2, .bool false, .int .i64 (-7), .string ⟨#[]⟩, .slice none 0 0]] w fun e w' => e = .returned (.bool true) ∧ Below w.heap.size w w' := by
  go_enter Tryd.func26, Tryd.ntmps26
  go_wp2
  go_returns
  exact ⟨rfl, by go_grown⟩
set_option maxRecDepth 100000 in
theorem fits7 (w : World) : Calls Tryd.prog 27 #[.agg #[.int .i64 2, .bool false, .int .i64 (-7), .string ⟨#[]⟩, .slice none 0 0]] w fun e w' => e = .returned (.bool true) ∧ Below w.heap.size w w' := by
  go_enter Tryd.func27, Tryd.ntmps27
  go_wp2
  go_returns
  exact ⟨rfl, by go_grown⟩
set_option maxRecDepth 100000 in
theorem right7 (w : World) : Calls Tryd.prog 11 #[.agg #[.int .i64 2, .bool false, .int .i64 (-7), .string ⟨#[]⟩, .slice none 0 0]] w fun e w' => e = .returned (.bool true) ∧ Below w.heap.size w w' := by
  have hbx := BoxAt.new w 2 false (-7) ⟨#[]⟩ none 0 0 rfl
  go_enter Tryd.func11, Tryd.ntmps11
  go_wp2_with (first | (go_at_call 26; refine (others7 _).mono ?_; rintro e w1 ⟨rfl, h1⟩; obtain ⟨c0, c1, c2, c3, c4, -⟩ := hbx.below h1) | (go_at_call 27; refine (fits7 _).mono ?_; rintro e w2 ⟨rfl, h2⟩))
  go_returns
  exact ⟨rfl, below_on (below_on (below_new _ _) h1) h2⟩

set_option maxRecDepth 100000 in
theorem show7 (w : World) (h : w.cell? ⟨3, 0, none⟩ = some (.int .u64 1)) : Calls Tryd.prog 15 #[.agg #[.int .i64 2, .bool false, .int .i64 (-7), .string ⟨#[]⟩, .slice none 0 0]] w fun e w' => e = .returned (.string ⟨#[45, 55]⟩) ∧ Below w.heap.size w w' := by
  have hbx := BoxAt.new w 2 false (-7) ⟨#[]⟩ none 0 0 rfl
  go_enter Tryd.func15, Tryd.ntmps15
  go_wp2_with (first | (go_at_call 11; refine (right7 _).mono ?_; rintro e w1 ⟨rfl, h1⟩; obtain ⟨c0, c1, c2, c3, c4, -⟩ := hbx.below h1) | (go_at_call 32; refine (formatInt7 _ ?_).mono ?_; (focus exact (h1.cell (p := ⟨3, 0, none⟩) (World.block_lt_of_cell? _ _ (cell_keep _ h))).trans (cell_keep _ h)); rintro e w2 ⟨rfl, h2⟩))
  go_returns
  exact ⟨rfl, below_on (below_on (below_new _ _) h1) h2⟩

set_option maxRecDepth 100000 in
theorem hashNil (w : World) : Calls Tryd.prog 18 #[.slice none 0 0] w fun e w' => e = .returned (.int .u64 14695981039346656037) ∧ w' = w := by
  go_enter Tryd.func18, Tryd.ntmps18
  go_wp2
  go_rounds 1
  go_returns
  exact ⟨rfl, rfl⟩

set_option maxRecDepth 100000 in
theorem compare01 (w : World) : Calls Tryd.prog 41 #[.int .i64 0, .int .i64 1] w fun e w' => e = .returned (.int .i64 (-1)) ∧ w' = w := by
  go_enter Tryd.func41, Tryd.ntmps41
  go_wp2
  go_returns
  exact ⟨rfl, rfl⟩
set_option maxRecDepth 100000 in
theorem order01 (w : World) : Calls Tryd.prog 22 #[.agg #[.int .i64 0, .bool false, .int .i64 0, .string ⟨#[]⟩, .slice none 0 0], .agg #[.int .i64 1, .bool false, .int .i64 0, .string ⟨#[]⟩, .slice none 0 0]] w fun e w' => e = .returned (.int .i64 (-1)) ∧ Below w.heap.size w w' := by
  go_enter Tryd.func22, Tryd.ntmps22
  go_wp2_with (go_at_call 41; refine (compare01 _).mono ?_; rintro e w1 ⟨rfl, rfl⟩)
  go_returns
  exact ⟨rfl, by go_grown⟩

set_option maxRecDepth 100000 in
theorem head_any (w : World) (h : w.cell? ⟨3, 0, none⟩ = some (.int .u64 1)) : Calls Tryd.prog 9 #[] w fun e w' => e = .returned (.bool true) ∧ Below w.heap.size w w' := by
  go_enter Tryd.func9, Tryd.ntmps9
  go_wp2_with (first | (go_at_call 15; refine (show7 _ h).mono ?_; rintro e w1 ⟨rfl, h1⟩) | (go_at_call 18; refine (hashNil _).mono ?_; rintro e w2 ⟨rfl, rfl⟩) | (go_at_call 23; refine (Truth_raw _ _).mono ?_; rintro e w3 ⟨rfl, rfl⟩) | (go_at_call 22; refine (order01 _).mono ?_; rintro e w4 ⟨rfl, h4⟩))
  go_returns
  exact ⟨rfl, below_on (below_on h1 (below_new _ _)) h4⟩
end Go.Proofs.YtokkmjcpjjiaaabDoor
