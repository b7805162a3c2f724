/-
  The level of an Op; the level that a place asks for.
-/
import Derived.Test.YtkcnpbckmdgfnaaGreatDoorRfx
namespace Go.Proofs.YtkcnpbckmdgfnaaGreatDoor
open Go.ChangeShapes Go.WideShapes Go.ChangeAt Go.RowKit
set_option linter.unusedSimpArgs false
set_option linter.unusedVariables false

theorem lv_1 (w : World) : Calls Tryz.prog 17 #[.int .i64 1] w fun e w' => e = .returned (.int .i64 8) ∧ w' = w := by
  go_enter Tryz.func17, Tryz.ntmps17
  go_wp2_with fail
  go_returns
  exact ⟨rfl, rfl⟩
theorem lv_2 (w : World) : Calls Tryz.prog 17 #[.int .i64 2] w fun e w' => e = .returned (.int .i64 8) ∧ w' = w := by
  go_enter Tryz.func17, Tryz.ntmps17
  go_wp2_with fail
  go_returns
  exact ⟨rfl, rfl⟩
theorem lv_3 (w : World) : Calls Tryz.prog 17 #[.int .i64 3] w fun e w' => e = .returned (.int .i64 8) ∧ w' = w := by
  go_enter Tryz.func17, Tryz.ntmps17
  go_wp2_with fail
  go_returns
  exact ⟨rfl, rfl⟩
theorem lv_4 (w : World) : Calls Tryz.prog 17 #[.int .i64 4] w fun e w' => e = .returned (.int .i64 1) ∧ w' = w := by
  go_enter Tryz.func17, Tryz.ntmps17
  go_wp2_with fail
  go_returns
  exact ⟨rfl, rfl⟩
theorem lv_5 (w : World) : Calls Tryz.prog 17 #[.int .i64 5] w fun e w' => e = .returned (.int .i64 2) ∧ w' = w := by
  go_enter Tryz.func17, Tryz.ntmps17
  go_wp2_with fail
  go_returns
  exact ⟨rfl, rfl⟩
theorem lv_6 (w : World) : Calls Tryz.prog 17 #[.int .i64 6] w fun e w' => e = .returned (.int .i64 4) ∧ w' = w := by
  go_enter Tryz.func17, Tryz.ntmps17
  go_wp2_with fail
  go_returns
  exact ⟨rfl, rfl⟩
theorem lv_7 (w : World) : Calls Tryz.prog 17 #[.int .i64 7] w fun e w' => e = .returned (.int .i64 4) ∧ w' = w := by
  go_enter Tryz.func17, Tryz.ntmps17
  go_wp2_with fail
  go_returns
  exact ⟨rfl, rfl⟩
theorem lv_8 (w : World) : Calls Tryz.prog 17 #[.int .i64 8] w fun e w' => e = .returned (.int .i64 4) ∧ w' = w := by
  go_enter Tryz.func17, Tryz.ntmps17
  go_wp2_with fail
  go_returns
  exact ⟨rfl, rfl⟩
theorem lv_9 (w : World) : Calls Tryz.prog 17 #[.int .i64 9] w fun e w' => e = .returned (.int .i64 4) ∧ w' = w := by
  go_enter Tryz.func17, Tryz.ntmps17
  go_wp2_with fail
  go_returns
  exact ⟨rfl, rfl⟩
theorem lv_10 (w : World) : Calls Tryz.prog 17 #[.int .i64 10] w fun e w' => e = .returned (.int .i64 4) ∧ w' = w := by
  go_enter Tryz.func17, Tryz.ntmps17
  go_wp2_with fail
  go_returns
  exact ⟨rfl, rfl⟩
theorem lv_11 (w : World) : Calls Tryz.prog 17 #[.int .i64 11] w fun e w' => e = .returned (.int .i64 4) ∧ w' = w := by
  go_enter Tryz.func17, Tryz.ntmps17
  go_wp2_with fail
  go_returns
  exact ⟨rfl, rfl⟩
theorem lv_12 (w : World) : Calls Tryz.prog 17 #[.int .i64 12] w fun e w' => e = .returned (.int .i64 5) ∧ w' = w := by
  go_enter Tryz.func17, Tryz.ntmps17
  go_wp2_with fail
  go_returns
  exact ⟨rfl, rfl⟩
theorem lv_13 (w : World) : Calls Tryz.prog 17 #[.int .i64 13] w fun e w' => e = .returned (.int .i64 5) ∧ w' = w := by
  go_enter Tryz.func17, Tryz.ntmps17
  go_wp2_with fail
  go_returns
  exact ⟨rfl, rfl⟩
theorem lv_14 (w : World) : Calls Tryz.prog 17 #[.int .i64 14] w fun e w' => e = .returned (.int .i64 6) ∧ w' = w := by
  go_enter Tryz.func17, Tryz.ntmps17
  go_wp2_with fail
  go_returns
  exact ⟨rfl, rfl⟩
theorem lv_15 (w : World) : Calls Tryz.prog 17 #[.int .i64 15] w fun e w' => e = .returned (.int .i64 6) ∧ w' = w := by
  go_enter Tryz.func17, Tryz.ntmps17
  go_wp2_with fail
  go_returns
  exact ⟨rfl, rfl⟩
theorem lv_16 (w : World) : Calls Tryz.prog 17 #[.int .i64 16] w fun e w' => e = .returned (.int .i64 6) ∧ w' = w := by
  go_enter Tryz.func17, Tryz.ntmps17
  go_wp2_with fail
  go_returns
  exact ⟨rfl, rfl⟩
theorem lv_17 (w : World) : Calls Tryz.prog 17 #[.int .i64 17] w fun e w' => e = .returned (.int .i64 3) ∧ w' = w := by
  go_enter Tryz.func17, Tryz.ntmps17
  go_wp2_with fail
  go_returns
  exact ⟨rfl, rfl⟩
theorem lv_18 (w : World) : Calls Tryz.prog 17 #[.int .i64 18] w fun e w' => e = .returned (.int .i64 7) ∧ w' = w := by
  go_enter Tryz.func17, Tryz.ntmps17
  go_wp2_with fail
  go_returns
  exact ⟨rfl, rfl⟩
theorem lv_19 (w : World) : Calls Tryz.prog 17 #[.int .i64 19] w fun e w' => e = .returned (.int .i64 4) ∧ w' = w := by
  go_enter Tryz.func17, Tryz.ntmps17
  go_wp2_with fail
  go_returns
  exact ⟨rfl, rfl⟩
theorem lv_20 (w : World) : Calls Tryz.prog 17 #[.int .i64 20] w fun e w' => e = .returned (.int .i64 4) ∧ w' = w := by
  go_enter Tryz.func17, Tryz.ntmps17
  go_wp2_with fail
  go_returns
  exact ⟨rfl, rfl⟩
theorem lv_21 (w : World) : Calls Tryz.prog 17 #[.int .i64 21] w fun e w' => e = .returned (.int .i64 8) ∧ w' = w := by
  go_enter Tryz.func17, Tryz.ntmps17
  go_wp2_with fail
  go_returns
  exact ⟨rfl, rfl⟩
theorem lv_22 (w : World) : Calls Tryz.prog 17 #[.int .i64 22] w fun e w' => e = .returned (.int .i64 8) ∧ w' = w := by
  go_enter Tryz.func17, Tryz.ntmps17
  go_wp2_with fail
  go_returns
  exact ⟨rfl, rfl⟩
theorem lv_23 (w : World) : Calls Tryz.prog 17 #[.int .i64 23] w fun e w' => e = .returned (.int .i64 8) ∧ w' = w := by
  go_enter Tryz.func17, Tryz.ntmps17
  go_wp2_with fail
  go_returns
  exact ⟨rfl, rfl⟩
theorem lv_24 (w : World) : Calls Tryz.prog 17 #[.int .i64 24] w fun e w' => e = .returned (.int .i64 8) ∧ w' = w := by
  go_enter Tryz.func17, Tryz.ntmps17
  go_wp2_with fail
  go_returns
  exact ⟨rfl, rfl⟩
theorem lv_25 (w : World) : Calls Tryz.prog 17 #[.int .i64 25] w fun e w' => e = .returned (.int .i64 8) ∧ w' = w := by
  go_enter Tryz.func17, Tryz.ntmps17
  go_wp2_with fail
  go_returns
  exact ⟨rfl, rfl⟩
theorem lv_26 (w : World) : Calls Tryz.prog 17 #[.int .i64 26] w fun e w' => e = .returned (.int .i64 8) ∧ w' = w := by
  go_enter Tryz.func17, Tryz.ntmps17
  go_wp2_with fail
  go_returns
  exact ⟨rfl, rfl⟩
theorem as_4_0 (w : World) : Calls Tryz.prog 80 #[.int .i64 4, .int .i64 0] w fun e w' => e = .returned (.int .i64 1) ∧ w' = w := by
  go_enter Tryz.func80, Tryz.ntmps80
  go_wp2_with (go_at_call 17; (with_reducible refine Calls.mono (lv_4 w) ?_); rintro e w1 ⟨rfl, rfl⟩)
  go_returns
  exact ⟨rfl, rfl⟩
theorem as_4_1 (w : World) : Calls Tryz.prog 80 #[.int .i64 4, .int .i64 1] w fun e w' => e = .returned (.int .i64 2) ∧ w' = w := by
  go_enter Tryz.func80, Tryz.ntmps80
  go_wp2_with (go_at_call 17; (with_reducible refine Calls.mono (lv_4 w) ?_); rintro e w1 ⟨rfl, rfl⟩)
  go_returns
  exact ⟨rfl, rfl⟩
theorem as_5_0 (w : World) : Calls Tryz.prog 80 #[.int .i64 5, .int .i64 0] w fun e w' => e = .returned (.int .i64 2) ∧ w' = w := by
  go_enter Tryz.func80, Tryz.ntmps80
  go_wp2_with (go_at_call 17; (with_reducible refine Calls.mono (lv_5 w) ?_); rintro e w1 ⟨rfl, rfl⟩)
  go_returns
  exact ⟨rfl, rfl⟩
theorem as_5_1 (w : World) : Calls Tryz.prog 80 #[.int .i64 5, .int .i64 1] w fun e w' => e = .returned (.int .i64 3) ∧ w' = w := by
  go_enter Tryz.func80, Tryz.ntmps80
  go_wp2_with (go_at_call 17; (with_reducible refine Calls.mono (lv_5 w) ?_); rintro e w1 ⟨rfl, rfl⟩)
  go_returns
  exact ⟨rfl, rfl⟩
theorem as_6_0 (w : World) : Calls Tryz.prog 80 #[.int .i64 6, .int .i64 0] w fun e w' => e = .returned (.int .i64 5) ∧ w' = w := by
  go_enter Tryz.func80, Tryz.ntmps80
  go_wp2_with (go_at_call 17; (with_reducible refine Calls.mono (lv_6 w) ?_); rintro e w1 ⟨rfl, rfl⟩)
  go_returns
  exact ⟨rfl, rfl⟩
theorem as_6_1 (w : World) : Calls Tryz.prog 80 #[.int .i64 6, .int .i64 1] w fun e w' => e = .returned (.int .i64 5) ∧ w' = w := by
  go_enter Tryz.func80, Tryz.ntmps80
  go_wp2_with (go_at_call 17; (with_reducible refine Calls.mono (lv_6 w) ?_); rintro e w1 ⟨rfl, rfl⟩)
  go_returns
  exact ⟨rfl, rfl⟩
theorem as_7_0 (w : World) : Calls Tryz.prog 80 #[.int .i64 7, .int .i64 0] w fun e w' => e = .returned (.int .i64 5) ∧ w' = w := by
  go_enter Tryz.func80, Tryz.ntmps80
  go_wp2_with (go_at_call 17; (with_reducible refine Calls.mono (lv_7 w) ?_); rintro e w1 ⟨rfl, rfl⟩)
  go_returns
  exact ⟨rfl, rfl⟩
theorem as_7_1 (w : World) : Calls Tryz.prog 80 #[.int .i64 7, .int .i64 1] w fun e w' => e = .returned (.int .i64 5) ∧ w' = w := by
  go_enter Tryz.func80, Tryz.ntmps80
  go_wp2_with (go_at_call 17; (with_reducible refine Calls.mono (lv_7 w) ?_); rintro e w1 ⟨rfl, rfl⟩)
  go_returns
  exact ⟨rfl, rfl⟩
theorem as_8_0 (w : World) : Calls Tryz.prog 80 #[.int .i64 8, .int .i64 0] w fun e w' => e = .returned (.int .i64 5) ∧ w' = w := by
  go_enter Tryz.func80, Tryz.ntmps80
  go_wp2_with (go_at_call 17; (with_reducible refine Calls.mono (lv_8 w) ?_); rintro e w1 ⟨rfl, rfl⟩)
  go_returns
  exact ⟨rfl, rfl⟩
theorem as_8_1 (w : World) : Calls Tryz.prog 80 #[.int .i64 8, .int .i64 1] w fun e w' => e = .returned (.int .i64 5) ∧ w' = w := by
  go_enter Tryz.func80, Tryz.ntmps80
  go_wp2_with (go_at_call 17; (with_reducible refine Calls.mono (lv_8 w) ?_); rintro e w1 ⟨rfl, rfl⟩)
  go_returns
  exact ⟨rfl, rfl⟩
theorem as_9_0 (w : World) : Calls Tryz.prog 80 #[.int .i64 9, .int .i64 0] w fun e w' => e = .returned (.int .i64 5) ∧ w' = w := by
  go_enter Tryz.func80, Tryz.ntmps80
  go_wp2_with (go_at_call 17; (with_reducible refine Calls.mono (lv_9 w) ?_); rintro e w1 ⟨rfl, rfl⟩)
  go_returns
  exact ⟨rfl, rfl⟩
theorem as_9_1 (w : World) : Calls Tryz.prog 80 #[.int .i64 9, .int .i64 1] w fun e w' => e = .returned (.int .i64 5) ∧ w' = w := by
  go_enter Tryz.func80, Tryz.ntmps80
  go_wp2_with (go_at_call 17; (with_reducible refine Calls.mono (lv_9 w) ?_); rintro e w1 ⟨rfl, rfl⟩)
  go_returns
  exact ⟨rfl, rfl⟩
theorem as_10_0 (w : World) : Calls Tryz.prog 80 #[.int .i64 10, .int .i64 0] w fun e w' => e = .returned (.int .i64 5) ∧ w' = w := by
  go_enter Tryz.func80, Tryz.ntmps80
  go_wp2_with (go_at_call 17; (with_reducible refine Calls.mono (lv_10 w) ?_); rintro e w1 ⟨rfl, rfl⟩)
  go_returns
  exact ⟨rfl, rfl⟩
theorem as_10_1 (w : World) : Calls Tryz.prog 80 #[.int .i64 10, .int .i64 1] w fun e w' => e = .returned (.int .i64 5) ∧ w' = w := by
  go_enter Tryz.func80, Tryz.ntmps80
  go_wp2_with (go_at_call 17; (with_reducible refine Calls.mono (lv_10 w) ?_); rintro e w1 ⟨rfl, rfl⟩)
  go_returns
  exact ⟨rfl, rfl⟩
theorem as_11_0 (w : World) : Calls Tryz.prog 80 #[.int .i64 11, .int .i64 0] w fun e w' => e = .returned (.int .i64 5) ∧ w' = w := by
  go_enter Tryz.func80, Tryz.ntmps80
  go_wp2_with (go_at_call 17; (with_reducible refine Calls.mono (lv_11 w) ?_); rintro e w1 ⟨rfl, rfl⟩)
  go_returns
  exact ⟨rfl, rfl⟩
theorem as_11_1 (w : World) : Calls Tryz.prog 80 #[.int .i64 11, .int .i64 1] w fun e w' => e = .returned (.int .i64 5) ∧ w' = w := by
  go_enter Tryz.func80, Tryz.ntmps80
  go_wp2_with (go_at_call 17; (with_reducible refine Calls.mono (lv_11 w) ?_); rintro e w1 ⟨rfl, rfl⟩)
  go_returns
  exact ⟨rfl, rfl⟩
theorem as_12_0 (w : World) : Calls Tryz.prog 80 #[.int .i64 12, .int .i64 0] w fun e w' => e = .returned (.int .i64 5) ∧ w' = w := by
  go_enter Tryz.func80, Tryz.ntmps80
  go_wp2_with (go_at_call 17; (with_reducible refine Calls.mono (lv_12 w) ?_); rintro e w1 ⟨rfl, rfl⟩)
  go_returns
  exact ⟨rfl, rfl⟩
theorem as_12_1 (w : World) : Calls Tryz.prog 80 #[.int .i64 12, .int .i64 1] w fun e w' => e = .returned (.int .i64 6) ∧ w' = w := by
  go_enter Tryz.func80, Tryz.ntmps80
  go_wp2_with (go_at_call 17; (with_reducible refine Calls.mono (lv_12 w) ?_); rintro e w1 ⟨rfl, rfl⟩)
  go_returns
  exact ⟨rfl, rfl⟩
theorem as_13_0 (w : World) : Calls Tryz.prog 80 #[.int .i64 13, .int .i64 0] w fun e w' => e = .returned (.int .i64 5) ∧ w' = w := by
  go_enter Tryz.func80, Tryz.ntmps80
  go_wp2_with (go_at_call 17; (with_reducible refine Calls.mono (lv_13 w) ?_); rintro e w1 ⟨rfl, rfl⟩)
  go_returns
  exact ⟨rfl, rfl⟩
theorem as_13_1 (w : World) : Calls Tryz.prog 80 #[.int .i64 13, .int .i64 1] w fun e w' => e = .returned (.int .i64 6) ∧ w' = w := by
  go_enter Tryz.func80, Tryz.ntmps80
  go_wp2_with (go_at_call 17; (with_reducible refine Calls.mono (lv_13 w) ?_); rintro e w1 ⟨rfl, rfl⟩)
  go_returns
  exact ⟨rfl, rfl⟩
theorem as_14_0 (w : World) : Calls Tryz.prog 80 #[.int .i64 14, .int .i64 0] w fun e w' => e = .returned (.int .i64 6) ∧ w' = w := by
  go_enter Tryz.func80, Tryz.ntmps80
  go_wp2_with (go_at_call 17; (with_reducible refine Calls.mono (lv_14 w) ?_); rintro e w1 ⟨rfl, rfl⟩)
  go_returns
  exact ⟨rfl, rfl⟩
theorem as_14_1 (w : World) : Calls Tryz.prog 80 #[.int .i64 14, .int .i64 1] w fun e w' => e = .returned (.int .i64 7) ∧ w' = w := by
  go_enter Tryz.func80, Tryz.ntmps80
  go_wp2_with (go_at_call 17; (with_reducible refine Calls.mono (lv_14 w) ?_); rintro e w1 ⟨rfl, rfl⟩)
  go_returns
  exact ⟨rfl, rfl⟩
theorem as_15_0 (w : World) : Calls Tryz.prog 80 #[.int .i64 15, .int .i64 0] w fun e w' => e = .returned (.int .i64 6) ∧ w' = w := by
  go_enter Tryz.func80, Tryz.ntmps80
  go_wp2_with (go_at_call 17; (with_reducible refine Calls.mono (lv_15 w) ?_); rintro e w1 ⟨rfl, rfl⟩)
  go_returns
  exact ⟨rfl, rfl⟩
theorem as_15_1 (w : World) : Calls Tryz.prog 80 #[.int .i64 15, .int .i64 1] w fun e w' => e = .returned (.int .i64 7) ∧ w' = w := by
  go_enter Tryz.func80, Tryz.ntmps80
  go_wp2_with (go_at_call 17; (with_reducible refine Calls.mono (lv_15 w) ?_); rintro e w1 ⟨rfl, rfl⟩)
  go_returns
  exact ⟨rfl, rfl⟩
theorem as_16_0 (w : World) : Calls Tryz.prog 80 #[.int .i64 16, .int .i64 0] w fun e w' => e = .returned (.int .i64 6) ∧ w' = w := by
  go_enter Tryz.func80, Tryz.ntmps80
  go_wp2_with (go_at_call 17; (with_reducible refine Calls.mono (lv_16 w) ?_); rintro e w1 ⟨rfl, rfl⟩)
  go_returns
  exact ⟨rfl, rfl⟩
theorem as_16_1 (w : World) : Calls Tryz.prog 80 #[.int .i64 16, .int .i64 1] w fun e w' => e = .returned (.int .i64 7) ∧ w' = w := by
  go_enter Tryz.func80, Tryz.ntmps80
  go_wp2_with (go_at_call 17; (with_reducible refine Calls.mono (lv_16 w) ?_); rintro e w1 ⟨rfl, rfl⟩)
  go_returns
  exact ⟨rfl, rfl⟩
theorem as_17_0 (w : World) : Calls Tryz.prog 80 #[.int .i64 17, .int .i64 0] w fun e w' => e = .returned (.int .i64 3) ∧ w' = w := by
  go_enter Tryz.func80, Tryz.ntmps80
  go_wp2_with (go_at_call 17; (with_reducible refine Calls.mono (lv_17 w) ?_); rintro e w1 ⟨rfl, rfl⟩)
  go_returns
  exact ⟨rfl, rfl⟩
theorem as_18_0 (w : World) : Calls Tryz.prog 80 #[.int .i64 18, .int .i64 0] w fun e w' => e = .returned (.int .i64 7) ∧ w' = w := by
  go_enter Tryz.func80, Tryz.ntmps80
  go_wp2_with (go_at_call 17; (with_reducible refine Calls.mono (lv_18 w) ?_); rintro e w1 ⟨rfl, rfl⟩)
  go_returns
  exact ⟨rfl, rfl⟩
theorem as_19_0 (w : World) : Calls Tryz.prog 80 #[.int .i64 19, .int .i64 0] w fun e w' => e = .returned (.int .i64 5) ∧ w' = w := by
  go_enter Tryz.func80, Tryz.ntmps80
  go_wp2_with (go_at_call 17; (with_reducible refine Calls.mono (lv_19 w) ?_); rintro e w1 ⟨rfl, rfl⟩)
  go_returns
  exact ⟨rfl, rfl⟩
theorem as_20_0 (w : World) : Calls Tryz.prog 80 #[.int .i64 20, .int .i64 0] w fun e w' => e = .returned (.int .i64 5) ∧ w' = w := by
  go_enter Tryz.func80, Tryz.ntmps80
  go_wp2_with (go_at_call 17; (with_reducible refine Calls.mono (lv_20 w) ?_); rintro e w1 ⟨rfl, rfl⟩)
  go_returns
  exact ⟨rfl, rfl⟩
theorem as_21_0 (w : World) : Calls Tryz.prog 80 #[.int .i64 21, .int .i64 0] w fun e w' => e = .returned (.int .i64 1) ∧ w' = w := by
  go_enter Tryz.func80, Tryz.ntmps80
  go_wp2_with (go_at_call 17; (with_reducible refine Calls.mono (lv_21 w) ?_); rintro e w1 ⟨rfl, rfl⟩)
  go_returns
  exact ⟨rfl, rfl⟩
theorem as_22_0 (w : World) : Calls Tryz.prog 80 #[.int .i64 22, .int .i64 0] w fun e w' => e = .returned (.int .i64 1) ∧ w' = w := by
  go_enter Tryz.func80, Tryz.ntmps80
  go_wp2_with (go_at_call 17; (with_reducible refine Calls.mono (lv_22 w) ?_); rintro e w1 ⟨rfl, rfl⟩)
  go_returns
  exact ⟨rfl, rfl⟩
theorem as_23_0 (w : World) : Calls Tryz.prog 80 #[.int .i64 23, .int .i64 0] w fun e w' => e = .returned (.int .i64 1) ∧ w' = w := by
  go_enter Tryz.func80, Tryz.ntmps80
  go_wp2_with (go_at_call 17; (with_reducible refine Calls.mono (lv_23 w) ?_); rintro e w1 ⟨rfl, rfl⟩)
  go_returns
  exact ⟨rfl, rfl⟩
theorem as_24_0 (w : World) : Calls Tryz.prog 80 #[.int .i64 24, .int .i64 0] w fun e w' => e = .returned (.int .i64 1) ∧ w' = w := by
  go_enter Tryz.func80, Tryz.ntmps80
  go_wp2_with (go_at_call 17; (with_reducible refine Calls.mono (lv_24 w) ?_); rintro e w1 ⟨rfl, rfl⟩)
  go_returns
  exact ⟨rfl, rfl⟩
theorem as_25_0 (w : World) : Calls Tryz.prog 80 #[.int .i64 25, .int .i64 0] w fun e w' => e = .returned (.int .i64 1) ∧ w' = w := by
  go_enter Tryz.func80, Tryz.ntmps80
  go_wp2_with (go_at_call 17; (with_reducible refine Calls.mono (lv_25 w) ?_); rintro e w1 ⟨rfl, rfl⟩)
  go_returns
  exact ⟨rfl, rfl⟩
theorem lv_at (m : Nat) (h1 : 1 ≤ m) (h2 : m ≤ 26) (w : World) : Calls Tryz.prog 17 #[.int .i64 (m : Int)] w fun e w' => e = .returned (.int .i64 (fmOf (m : Int)).lvl) ∧ w' = w :=
  match m, h1, h2 with
  | 1, _, _ => lv_1 w
  | 2, _, _ => lv_2 w
  | 3, _, _ => lv_3 w
  | 4, _, _ => lv_4 w
  | 5, _, _ => lv_5 w
  | 6, _, _ => lv_6 w
  | 7, _, _ => lv_7 w
  | 8, _, _ => lv_8 w
  | 9, _, _ => lv_9 w
  | 10, _, _ => lv_10 w
  | 11, _, _ => lv_11 w
  | 12, _, _ => lv_12 w
  | 13, _, _ => lv_13 w
  | 14, _, _ => lv_14 w
  | 15, _, _ => lv_15 w
  | 16, _, _ => lv_16 w
  | 17, _, _ => lv_17 w
  | 18, _, _ => lv_18 w
  | 19, _, _ => lv_19 w
  | 20, _, _ => lv_20 w
  | 21, _, _ => lv_21 w
  | 22, _, _ => lv_22 w
  | 23, _, _ => lv_23 w
  | 24, _, _ => lv_24 w
  | 25, _, _ => lv_25 w
  | 26, _, _ => lv_26 w
  | m + 27, _, h => absurd h (by omega)
theorem lv_any (op : Int) (h : isOp op = true) (w : World) : Calls Tryz.prog 17 #[.int .i64 op] w fun e w' => e = .returned (.int .i64 (fmOf op).lvl) ∧ w' = w := by
  unfold isOp at h
  rw [Bool.and_eq_true, decide_eq_true_iff, decide_eq_true_iff] at h
  obtain ⟨m, rfl⟩ : ∃ m : Nat, op = (m : Int) := ⟨op.toNat, by omega⟩
  exact lv_at m (by omega) (by omega) w
theorem as_first (m : Nat) (h1 : 4 ≤ m) (h2 : m ≤ 25) (w : World) : Calls Tryz.prog 80 #[.int .i64 (m : Int), .int .i64 0] w fun e w' => e = .returned (.int .i64 ((fmOf (m : Int)).pl.getD 0 0)) ∧ w' = w :=
  match m, h1, h2 with
  | 4, _, _ => as_4_0 w
  | 5, _, _ => as_5_0 w
  | 6, _, _ => as_6_0 w
  | 7, _, _ => as_7_0 w
  | 8, _, _ => as_8_0 w
  | 9, _, _ => as_9_0 w
  | 10, _, _ => as_10_0 w
  | 11, _, _ => as_11_0 w
  | 12, _, _ => as_12_0 w
  | 13, _, _ => as_13_0 w
  | 14, _, _ => as_14_0 w
  | 15, _, _ => as_15_0 w
  | 16, _, _ => as_16_0 w
  | 17, _, _ => as_17_0 w
  | 18, _, _ => as_18_0 w
  | 19, _, _ => as_19_0 w
  | 20, _, _ => as_20_0 w
  | 21, _, _ => as_21_0 w
  | 22, _, _ => as_22_0 w
  | 23, _, _ => as_23_0 w
  | 24, _, _ => as_24_0 w
  | 25, _, _ => as_25_0 w
  | m + 26, _, h => absurd h (by omega)
theorem as_next (m : Nat) (h1 : 4 ≤ m) (h2 : m ≤ 16) (w : World) : Calls Tryz.prog 80 #[.int .i64 (m : Int), .int .i64 1] w fun e w' => e = .returned (.int .i64 ((fmOf (m : Int)).pl.getD 1 0)) ∧ w' = w :=
  match m, h1, h2 with
  | 4, _, _ => as_4_1 w
  | 5, _, _ => as_5_1 w
  | 6, _, _ => as_6_1 w
  | 7, _, _ => as_7_1 w
  | 8, _, _ => as_8_1 w
  | 9, _, _ => as_9_1 w
  | 10, _, _ => as_10_1 w
  | 11, _, _ => as_11_1 w
  | 12, _, _ => as_12_1 w
  | 13, _, _ => as_13_1 w
  | 14, _, _ => as_14_1 w
  | 15, _, _ => as_15_1 w
  | 16, _, _ => as_16_1 w
  | m + 17, _, h => absurd h (by omega)
end Go.Proofs.YtkcnpbckmdgfnaaGreatDoor
