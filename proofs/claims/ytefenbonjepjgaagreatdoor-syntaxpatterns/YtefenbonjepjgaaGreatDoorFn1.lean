/-
  The small functions: blanks, digits, letters; great letters.
-/
import Derived.Test.YtefenbonjepjgaaGreatDoorVal
namespace Go.Proofs.YtefenbonjepjgaaGreatDoor
open Go.RowKit
set_option linter.unusedSimpArgs false
set_option linter.unusedVariables false

theorem isBlank_any (c : Int) (w : World) : Calls Tryz.prog 28 #[.int .i32 c] w fun e w' => e = .returned (.bool (blankB c)) ∧ w' = w := by
  have hl := blankB_t c
  generalize blankB c = x at hl
  cases x
  all_goals
    simp only [reduceCtorEq, false_iff, true_iff] at hl
    go_enter Tryz.func28, Tryz.ntmps28
    go_wp2_with fail
    all_goals (go_returns; refine ⟨?_, rfl⟩; first | rfl | (exfalso; omega) | (simp; omega))
theorem isDigit_any (c : Int) (w : World) : Calls Tryz.prog 57 #[.int .i32 c] w fun e w' => e = .returned (.bool (digB c)) ∧ w' = w := by
  have hl := digB_t c
  generalize digB c = x at hl
  cases x
  all_goals
    simp only [reduceCtorEq, false_iff, true_iff] at hl
    go_enter Tryz.func57, Tryz.ntmps57
    go_wp2_with fail
    all_goals (go_returns; refine ⟨?_, rfl⟩; first | rfl | (exfalso; omega) | (simp; omega))
theorem isLetter_any (c : Int) (w : World) : Calls Tryz.prog 108 #[.int .i32 c] w fun e w' => e = .returned (.bool (letB c)) ∧ w' = w := by
  have hl := letB_t c
  generalize letB c = x at hl
  cases x
  all_goals
    simp only [reduceCtorEq, false_iff, true_iff] at hl
    go_enter Tryz.func108, Tryz.ntmps108
    go_wp2_with fail
    all_goals (go_returns; refine ⟨?_, rfl⟩; first | rfl | (exfalso; omega) | (simp; omega))
theorem isDig_any (c : Int) (w : World) : Calls Tryz.prog 109 #[.int .i32 c] w fun e w' => e = .returned (.bool (digB c)) ∧ w' = w := by
  have hl := digB_t c
  generalize digB c = x at hl
  cases x
  all_goals
    simp only [reduceCtorEq, false_iff, true_iff] at hl
    go_enter Tryz.func109, Tryz.ntmps109
    go_wp2_with fail
    all_goals (go_returns; refine ⟨?_, rfl⟩; first | rfl | (exfalso; omega) | (simp; omega))
theorem Letter_any (c : Int) (w : World) : Calls Tryz.prog 115 #[.int .i32 c] w fun e w' => e = .returned (.bool (letB c || decide (c = 95))) ∧ w' = w := by
  have hl : (letB c || decide (c = 95)) = true ↔ (97 ≤ c ∧ c ≤ 122 ∨ 65 ≤ c ∧ c ≤ 90 ∨ 192 ≤ c ∧ c ≤ 591 ∧ ¬ c = 215 ∧ ¬ c = 247) ∨ c = 95 := by
    rw [Bool.or_eq_true, letB_t, decide_eq_true_eq]
  generalize (letB c || decide (c = 95)) = x at hl
  cases x
  all_goals
    simp only [reduceCtorEq, false_iff, true_iff] at hl
    go_enter Tryz.func115, Tryz.ntmps115
    go_wp2_with fail
    all_goals (go_returns; refine ⟨?_, rfl⟩; first | rfl | (exfalso; omega) | (simp_all; done) | (simp_all; omega))
theorem digit_any (c : UInt8) (w : World) : Calls Tryz.prog 95 #[.int .u8 c.toNat] w fun e w' => e = .returned (.bool (digB c.toNat)) ∧ w' = w := by
  have hl := digB_t (c.toNat : Int)
  generalize digB (c.toNat : Int) = x at hl
  cases x
  all_goals
    simp only [reduceCtorEq, false_iff, true_iff] at hl
    go_enter Tryz.func95, Tryz.ntmps95
    go_wp2_with fail
    all_goals (go_returns; refine ⟨?_, rfl⟩; first | rfl | (exfalso; omega) | (simp; omega))
theorem great_any (c : Int) (h0 : 0 ≤ c) (h1 : c ≤ 1114111) (w : World) : Calls Tryz.prog 128 #[.int .i32 c] w fun e w' => e = .returned (.int .i32 (upR c)) ∧ w' = w := by
  by_cases h : 97 ≤ c ∧ c ≤ 122
  · rw [show upR c = c - 97 + 65 by unfold upR; rw [if_pos h]]
    obtain ⟨ha, hb⟩ := h
    go_enter Tryz.func128, Tryz.ntmps128
    go_wp2_with fail
    all_goals (go_returns; refine ⟨?_, rfl⟩; first | rfl | (exfalso; omega) | (simp; omega))
  · rw [show upR c = c by unfold upR; rw [if_neg h]]
    go_enter Tryz.func128, Tryz.ntmps128
    go_wp2_with fail
    all_goals (go_returns; refine ⟨?_, rfl⟩; first | rfl | (exfalso; omega) | (simp; omega))
end Go.Proofs.YtefenbonjepjgaaGreatDoor
