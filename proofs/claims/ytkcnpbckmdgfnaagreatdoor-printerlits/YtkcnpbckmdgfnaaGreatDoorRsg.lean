/-
  The level of what is no Op; signs between two.
-/
import Derived.Test.YtkcnpbckmdgfnaaGreatDoorRak
namespace Go.Proofs.YtkcnpbckmdgfnaaGreatDoor
open Go.ChangeShapes Go.WideShapes Go.ChangeAt Go.RowKit
set_option linter.unusedSimpArgs false
set_option linter.unusedVariables false

theorem lv_out (op : Int) (h : isOp op = false) (w : World) : Calls Tryz.prog 17 #[.int .i64 op] w fun e w' => e = .returned (.int .i64 8) ∧ w' = w := by
  have h' : op < 1 ∨ 26 < op := by
    unfold isOp at h
    simp only [Bool.and_eq_false_iff, decide_eq_false_iff_not] at h
    omega
  have e4 : (op == 4) = false := by simp; omega
  have e5 : (op == 5) = false := by simp; omega
  have e17 : (op == 17) = false := by simp; omega
  have e19 : (op == 19) = false := by simp; omega
  have e20 : (op == 20) = false := by simp; omega
  have e12 : (op == 12) = false := by simp; omega
  have e13 : (op == 13) = false := by simp; omega
  have e14 : (op == 14) = false := by simp; omega
  have e15 : (op == 15) = false := by simp; omega
  have e16 : (op == 16) = false := by simp; omega
  have e18 : (op == 18) = false := by simp; omega
  rcases h' with h1 | h1
  · have d6 : decide (op ≥ 6) = false := by simp; omega
    go_enter Tryz.func17, Tryz.ntmps17
    go_wp2_with fail
    all_goals first | (exfalso; omega) | (go_returns; exact ⟨rfl, rfl⟩)
  · have d6 : decide (op ≥ 6) = true := by simp; omega
    have d11 : decide (op ≤ 11) = false := by simp; omega
    go_enter Tryz.func17, Tryz.ntmps17
    go_wp2_with fail
    all_goals first | (exfalso; omega) | (go_returns; exact ⟨rfl, rfl⟩)
/-- The level of any Op. -/
def lvX (op : Int) : Int := if isOp op then (fmOf op).lvl else 8
theorem lvX_any (op : Int) (w : World) : Calls Tryz.prog 17 #[.int .i64 op] w fun e w' => e = .returned (.int .i64 (lvX op)) ∧ w' = w := by
  unfold lvX
  cases h : isOp op
  · exact lv_out op h w
  · exact lv_any op h w
theorem sg_4 (w : World) : Calls Tryz.prog 47 #[.int .i64 4] w fun e w' => e = .returned (.string ⟨#[79, 82]⟩) ∧ Below w.heap.size w w' := by
  go_enter Tryz.func47, Tryz.ntmps47
  go_wp2_with fail
  go_returns
  exact ⟨rfl, by go_grown⟩
theorem sg_5 (w : World) : Calls Tryz.prog 47 #[.int .i64 5] w fun e w' => e = .returned (.string ⟨#[65, 78, 68]⟩) ∧ Below w.heap.size w w' := by
  go_enter Tryz.func47, Tryz.ntmps47
  go_wp2_with fail
  go_returns
  exact ⟨rfl, by go_grown⟩
theorem sg_6 (w : World) : Calls Tryz.prog 47 #[.int .i64 6] w fun e w' => e = .returned (.string ⟨#[61]⟩) ∧ Below w.heap.size w w' := by
  go_enter Tryz.func47, Tryz.ntmps47
  go_wp2_with fail
  go_returns
  exact ⟨rfl, by go_grown⟩
theorem sg_7 (w : World) : Calls Tryz.prog 47 #[.int .i64 7] w fun e w' => e = .returned (.string ⟨#[60, 62]⟩) ∧ Below w.heap.size w w' := by
  go_enter Tryz.func47, Tryz.ntmps47
  go_wp2_with fail
  go_returns
  exact ⟨rfl, by go_grown⟩
theorem sg_8 (w : World) : Calls Tryz.prog 47 #[.int .i64 8] w fun e w' => e = .returned (.string ⟨#[60]⟩) ∧ Below w.heap.size w w' := by
  go_enter Tryz.func47, Tryz.ntmps47
  go_wp2_with fail
  go_returns
  exact ⟨rfl, by go_grown⟩
theorem sg_9 (w : World) : Calls Tryz.prog 47 #[.int .i64 9] w fun e w' => e = .returned (.string ⟨#[60, 61]⟩) ∧ Below w.heap.size w w' := by
  go_enter Tryz.func47, Tryz.ntmps47
  go_wp2_with fail
  go_returns
  exact ⟨rfl, by go_grown⟩
theorem sg_10 (w : World) : Calls Tryz.prog 47 #[.int .i64 10] w fun e w' => e = .returned (.string ⟨#[62]⟩) ∧ Below w.heap.size w w' := by
  go_enter Tryz.func47, Tryz.ntmps47
  go_wp2_with fail
  go_returns
  exact ⟨rfl, by go_grown⟩
theorem sg_11 (w : World) : Calls Tryz.prog 47 #[.int .i64 11] w fun e w' => e = .returned (.string ⟨#[62, 61]⟩) ∧ Below w.heap.size w w' := by
  go_enter Tryz.func47, Tryz.ntmps47
  go_wp2_with fail
  go_returns
  exact ⟨rfl, by go_grown⟩
theorem sg_12 (w : World) : Calls Tryz.prog 47 #[.int .i64 12] w fun e w' => e = .returned (.string ⟨#[43]⟩) ∧ Below w.heap.size w w' := by
  go_enter Tryz.func47, Tryz.ntmps47
  go_wp2_with fail
  go_returns
  exact ⟨rfl, by go_grown⟩
theorem sg_13 (w : World) : Calls Tryz.prog 47 #[.int .i64 13] w fun e w' => e = .returned (.string ⟨#[45]⟩) ∧ Below w.heap.size w w' := by
  go_enter Tryz.func47, Tryz.ntmps47
  go_wp2_with fail
  go_returns
  exact ⟨rfl, by go_grown⟩
theorem sg_14 (w : World) : Calls Tryz.prog 47 #[.int .i64 14] w fun e w' => e = .returned (.string ⟨#[42]⟩) ∧ Below w.heap.size w w' := by
  go_enter Tryz.func47, Tryz.ntmps47
  go_wp2_with fail
  go_returns
  exact ⟨rfl, by go_grown⟩
theorem sg_15 (w : World) : Calls Tryz.prog 47 #[.int .i64 15] w fun e w' => e = .returned (.string ⟨#[47]⟩) ∧ Below w.heap.size w w' := by
  go_enter Tryz.func47, Tryz.ntmps47
  go_wp2_with fail
  go_returns
  exact ⟨rfl, by go_grown⟩
theorem sg_16 (w : World) : Calls Tryz.prog 47 #[.int .i64 16] w fun e w' => e = .returned (.string ⟨#[37]⟩) ∧ Below w.heap.size w w' := by
  go_enter Tryz.func47, Tryz.ntmps47
  go_wp2_with fail
  go_returns
  exact ⟨rfl, by go_grown⟩
end Go.Proofs.YtkcnpbckmdgfnaaGreatDoor
