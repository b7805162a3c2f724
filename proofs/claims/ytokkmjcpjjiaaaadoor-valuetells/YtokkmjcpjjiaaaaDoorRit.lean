/-
  Whether a thing is a value: Right of the program.
-/
import Derived.Test.YtokkmjcpjjiaaaaDoorOth
import Derived.Test.YtokkmjcpjjiaaaaDoorPth
namespace Go.Proofs.YtokkmjcpjjiaaaaDoor
open Go.RowKit
set_option linter.unusedSimpArgs false
set_option linter.unusedVariables false

/-- What a value is. -/
def rgtB (k : Int) (b : Bool) (n : Int) (s : ByteArray) (l : Nat) (z : List Int) (V : Bool) : Bool := othB k b n s l && fitB k n s z V

set_option maxRecDepth 100000 in
set_option maxHeartbeats 4000000 in
theorem fits_any (k : Int) (b : Bool) (n : Int) (s : ByteArray) (p : Option Addr) (l c : Nat) (z : List Int) (V : Bool) (w : World) (h1 : z.length = l) (q : PathAt w p z) (hV : ∀ w', Below w.heap.size w w' → Calls Tryd.prog 40 #[.string s] w' fun e w'' => e = .returned (.bool V) ∧ Below w'.heap.size w' w'') :
    Calls Tryd.prog 39 #[.agg #[.int .i64 k, .bool b, .int .i64 n, .string s, .slice p l c]] w fun e w' => e = .returned (.bool (fitB k n s z V)) ∧ Below w.heap.size w w' := by
  unfold fitB
  by_cases h012 : k = 0 ∨ k = 1 ∨ k = 2
  · rw [if_pos h012]
    rcases h012 with rfl | rfl | rfl
    all_goals
      go_enter Tryd.func39, Tryd.ntmps39
      go_wp2_with fail
      go_returns
      exact ⟨rfl, by go_grown⟩
  rw [if_neg h012]
  have k0 : ¬ k = 0 := fun h => h012 (.inl h)
  have k1 : ¬ k = 1 := fun h => h012 (.inr (.inl h))
  have k2 : ¬ k = 2 := fun h => h012 (.inr (.inr h))
  clear h012
  by_cases k3 : k = 3
  · subst k3
    rw [if_pos rfl]
    by_cases hs : s.size ≤ 4096
    · rw [decide_eq_true hs, Bool.true_and]
      have hv := hV _ (below_new w (.cells #[.int .i64 3, .bool b, .int .i64 n, .string s, .slice p l c] 25))
      replace hv : Hid _ := hv
      go_enter Tryd.func39, Tryd.ntmps39
      go_wp2_with (go_at_call 40; refine Calls.mono hv.out ?_; rintro e w1 ⟨rfl, g1⟩)
      go_returns
      exact ⟨rfl, below_on (below_new _ _) g1⟩
    · rw [decide_eq_false hs, Bool.false_and]
      go_enter Tryd.func39, Tryd.ntmps39
      go_wp2_with fail
      go_returns
      exact ⟨rfl, by go_grown⟩
  rw [if_neg k3]
  by_cases h45 : k = 4 ∨ k = 5
  · rw [if_pos h45]
    rcases h45 with rfl | rfl
    all_goals
      go_enter Tryd.func39, Tryd.ntmps39
      go_wp2_with (go_at_call 61; refine (isID_any _ _).mono ?_; rintro e w1 ⟨rfl, rfl⟩)
      go_returns
      exact ⟨rfl, by go_grown⟩
  rw [if_neg h45]
  have k4 : ¬ k = 4 := fun h => h45 (.inl h)
  have k5 : ¬ k = 5 := fun h => h45 (.inr h)
  clear h45
  by_cases k6 : k = 6
  · subst k6
    rw [if_pos rfl]
    have q' := q.alloc (.cells #[.int .i64 6, .bool b, .int .i64 n, .string s, .slice p l c] 25)
    go_enter Tryd.func39, Tryd.ntmps39
    go_wp2_with (go_at_call 62; refine (isTrail_any _ _ _ z _ h1 q').mono ?_; rintro e w1 ⟨rfl, rfl⟩)
    go_returns
    exact ⟨rfl, by go_grown⟩
  rw [if_neg k6]
  go_enter Tryd.func39, Tryd.ntmps39
  go_wp2_with fail
  go_returns
  exact ⟨rfl, by go_grown⟩

set_option maxRecDepth 100000 in
set_option maxHeartbeats 4000000 in
theorem Right_any (k : Int) (b : Bool) (n : Int) (s : ByteArray) (p : Option Addr) (l c : Nat) (z : List Int) (V : Bool) (w : World) (h1 : z.length = l) (q : PathAt w p z) (hV : ∀ w', Below w.heap.size w w' → Calls Tryd.prog 40 #[.string s] w' fun e w'' => e = .returned (.bool V) ∧ Below w'.heap.size w' w'') :
    Calls Tryd.prog 12 #[.agg #[.int .i64 k, .bool b, .int .i64 n, .string s, .slice p l c]] w fun e w' => e = .returned (.bool (rgtB k b n s l z V)) ∧ Below w.heap.size w w' := by
  unfold rgtB
  have hbx := BoxAt.new w k b n s p l c rfl
  cases ho : othB k b n s l
  · rw [Bool.false_and]
    go_enter Tryd.func12, Tryd.ntmps12
    go_wp2_with (go_at_call 38; refine (others_any _ _ _ _ _ _ _ _).mono ?_; rintro e w1 ⟨rfl, g1⟩; rw [ho])
    go_returns
    exact ⟨rfl, below_on (below_new _ _) g1⟩
  · rw [Bool.true_and]
    go_enter Tryd.func12, Tryd.ntmps12
    go_wp2_with (first | (go_at_call 38; refine (others_any _ _ _ _ _ _ _ _).mono ?_; rintro e w1 ⟨rfl, g1⟩; rw [ho]; have hw := below_on (below_new w _) g1; obtain ⟨c0, c1, c2, c3, c4, -⟩ := hbx.below g1) | (go_at_call 39; refine (fits_any _ _ _ _ _ _ _ z V _ h1 (q.below hw) (fun w' hb => hV w' (below_on hw hb))).mono ?_; rintro e w2 ⟨rfl, g2⟩))
    go_returns
    exact ⟨rfl, below_on hw g2⟩
end Go.Proofs.YtokkmjcpjjiaaaaDoor
