/-
  Truth, Fault of the document.
-/
import Derived.Test.YtokkmjcpjjiaaaaDoorVal
namespace Go.Proofs.YtokkmjcpjjiaaaaDoor
open Go.RowKit
set_option linter.unusedSimpArgs false
set_option linter.unusedVariables false

theorem same_or (b d : Bool) : b = d ∨ b = !d := by cases b <;> cases d <;> simp

/-- The ways that two kinds and two bools stand to what decides, one by one. -/
theorem dec_all (d : Bool) (k1 : Int) (b1 : Bool) (k2 : Int) (b2 : Bool) {G : Prop}
    (h1 : k1 = 1 → b1 = d → G)
    (h2 : k1 = 1 → b1 = (!d) → k2 = 1 → b2 = d → G) (h3 : k1 = 1 → b1 = (!d) → k2 = 1 → b2 = (!d) → G)
    (h4 : k1 = 1 → b1 = (!d) → k2 = 0 → G) (h5 : k1 = 1 → b1 = (!d) → ¬ k2 = 1 → ¬ k2 = 0 → G)
    (h6 : ¬ k1 = 1 → k2 = 1 → b2 = d → G) (h7 : k1 = 0 → k2 = 1 → b2 = (!d) → G) (h8 : k1 = 0 → ¬ k2 = 1 → G)
    (h9 : ¬ k1 = 1 → ¬ k1 = 0 → k2 = 1 → b2 = (!d) → G) (h10 : ¬ k1 = 1 → ¬ k1 = 0 → k2 = 0 → G) (h11 : ¬ k1 = 1 → ¬ k1 = 0 → ¬ k2 = 1 → ¬ k2 = 0 → G) : G := by
  by_cases a : k1 = 1
  · rcases same_or b1 d with e | e
    · exact h1 a e
    · by_cases a2 : k2 = 1
      · rcases same_or b2 d with e2 | e2
        · exact h2 a e a2 e2
        · exact h3 a e a2 e2
      · by_cases a3 : k2 = 0
        · exact h4 a e a3
        · exact h5 a e a2 a3
  · by_cases a2 : k2 = 1
    · rcases same_or b2 d with e2 | e2
      · exact h6 a a2 e2
      · by_cases a0 : k1 = 0
        · exact h7 a0 a2 e2
        · exact h9 a a0 a2 e2
    · by_cases a0 : k1 = 0
      · exact h8 a0 a2
      · by_cases a3 : k2 = 0
        · exact h10 a a0 a3
        · exact h11 a a0 a2 a3

theorem Truth_raw (b : Bool) (w : World) : Calls Tryd.prog 35 #[.bool b] w fun e w' => e = .returned (.agg #[.int .i64 1, .bool b, .int .i64 0, .string ⟨#[]⟩, .slice none 0 0]) ∧ w' = w.alloc (.cells #[.int .i64 1, .bool b, .int .i64 0, .string ⟨#[]⟩, .slice none 0 0] 25) := by
  go_enter Tryd.func35, Tryd.ntmps35
  go_wp2
  go_returns
  exact ⟨rfl, rfl⟩
theorem Fault_raw (w : World) : Calls Tryd.prog 57 #[] w fun e w' => e = .returned (.agg #[.int .i64 7, .bool false, .int .i64 0, .string ⟨#[]⟩, .slice none 0 0]) ∧ w' = w.alloc (.cells #[.int .i64 7, .bool false, .int .i64 0, .string ⟨#[]⟩, .slice none 0 0] 25) := by
  go_enter Tryd.func57, Tryd.ntmps57
  go_wp2
  go_returns
  exact ⟨rfl, rfl⟩
end Go.Proofs.YtokkmjcpjjiaaaaDoor
