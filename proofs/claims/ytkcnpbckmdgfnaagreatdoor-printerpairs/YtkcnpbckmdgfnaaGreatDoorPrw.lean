/-
  The law of pairs: the walk.
  PrinterPairs returns true for whatever two numbers and truth it is handed; no conditions.
-/
import Derived.Test.YtkcnpbckmdgfnaaGreatDoorHda
import Derived.Test.YtkcnpbckmdgfnaaGreatDoorPae
import Derived.Test.YtkcnpbckmdgfnaaGreatDoorSae
import Derived.BigQuiet
namespace Go.Proofs.YtkcnpbckmdgfnaaGreatDoor
open Go.ChangeShapes Go.WideShapes Go.ChangeAt Go.RowKit
set_option linter.unusedSimpArgs false
set_option linter.unusedVariables false

theorem row_new (w : World) (cs : Array Value) (o : Nat) (x : Ex) (ks : Value) (h0 : cs[o]? = some (.int .i64 (opE x))) (h1 : cs[o + 1]? = some ks) (h2 : cs[o + 2]? = some (.string (txt (nmE x)))) (h3 : cs[o + 3]? = some (.string (txt (prE x)))) (h4 : cs[o + 4]? = some (.int .i64 (kE x)))
    (h5 : cs[o + 5]? = some (.bool (bE x))) (h6 : cs[o + 6]? = some (.int .i64 (nE x))) (h7 : cs[o + 7]? = some (.string (txt (tE x)))) (h8 : cs[o + 8]? = some (.slice none 0 0)) : Row9 (w.alloc (.cells cs 39)) w.heap.size o x ks :=
  ⟨alloc_cell w h0, alloc_cell w h1, alloc_cell w h2, alloc_cell w h3, alloc_cell w h4, alloc_cell w h5, alloc_cell w h6, alloc_cell w h7, alloc_cell w h8⟩
theorem pair_rows (w1 : World) (i j : Nat) :
    (ExAt ((((w1.alloc (.cells #[.int .i64 2, .slice none 0 0, .string ⟨#[120]⟩, .string ⟨#[]⟩, .int .i64 0, .bool false, .int .i64 0, .string ⟨#[]⟩, .slice none 0 0] 39)).alloc (.cells #[.int .i64 2, .slice none 0 0, .string ⟨#[120]⟩, .string ⟨#[]⟩, .int .i64 0, .bool false, .int .i64 0, .string ⟨#[]⟩, .slice none 0 0, .int .i64 2, .slice none 0 0, .string ⟨#[120]⟩, .string ⟨#[]⟩, .int .i64 0, .bool false, .int .i64 0, .string ⟨#[]⟩, .slice none 0 0] 39)).alloc (.cells #[.int .i64 (4 + (j : Int)), .slice (some ⟨w1.heap.size + 1, 0, none⟩) 2 2, .string ⟨#[]⟩, .string ⟨#[]⟩, .int .i64 0, .bool false, .int .i64 0, .string ⟨#[]⟩, .slice none 0 0] 39)).alloc (.cells #[.int .i64 (4 + (j : Int)), .slice (some ⟨w1.heap.size + 1, 0, none⟩) 2 2, .string ⟨#[]⟩, .string ⟨#[]⟩, .int .i64 0, .bool false, .int .i64 0, .string ⟨#[]⟩, .slice none 0 0, .int .i64 2, .slice none 0 0, .string ⟨#[120]⟩, .string ⟨#[]⟩, .int .i64 0, .bool false, .int .i64 0, .string ⟨#[]⟩, .slice none 0 0] 39)) (fun _ => True) (pairE (4 + i) (4 + j) false) (.slice (some ⟨w1.heap.size + 1 + 1 + 1, 0, none⟩) 2 2) ∧ Below w1.heap.size w1 ((((w1.alloc (.cells #[.int .i64 2, .slice none 0 0, .string ⟨#[120]⟩, .string ⟨#[]⟩, .int .i64 0, .bool false, .int .i64 0, .string ⟨#[]⟩, .slice none 0 0] 39)).alloc (.cells #[.int .i64 2, .slice none 0 0, .string ⟨#[120]⟩, .string ⟨#[]⟩, .int .i64 0, .bool false, .int .i64 0, .string ⟨#[]⟩, .slice none 0 0, .int .i64 2, .slice none 0 0, .string ⟨#[120]⟩, .string ⟨#[]⟩, .int .i64 0, .bool false, .int .i64 0, .string ⟨#[]⟩, .slice none 0 0] 39)).alloc (.cells #[.int .i64 (4 + (j : Int)), .slice (some ⟨w1.heap.size + 1, 0, none⟩) 2 2, .string ⟨#[]⟩, .string ⟨#[]⟩, .int .i64 0, .bool false, .int .i64 0, .string ⟨#[]⟩, .slice none 0 0] 39)).alloc (.cells #[.int .i64 (4 + (j : Int)), .slice (some ⟨w1.heap.size + 1, 0, none⟩) 2 2, .string ⟨#[]⟩, .string ⟨#[]⟩, .int .i64 0, .bool false, .int .i64 0, .string ⟨#[]⟩, .slice none 0 0, .int .i64 2, .slice none 0 0, .string ⟨#[120]⟩, .string ⟨#[]⟩, .int .i64 0, .bool false, .int .i64 0, .string ⟨#[]⟩, .slice none 0 0] 39))) ∧
    (ExAt (((((w1.alloc (.cells #[.int .i64 2, .slice none 0 0, .string ⟨#[120]⟩, .string ⟨#[]⟩, .int .i64 0, .bool false, .int .i64 0, .string ⟨#[]⟩, .slice none 0 0] 39)).alloc (.cells #[.int .i64 2, .slice none 0 0, .string ⟨#[120]⟩, .string ⟨#[]⟩, .int .i64 0, .bool false, .int .i64 0, .string ⟨#[]⟩, .slice none 0 0, .int .i64 2, .slice none 0 0, .string ⟨#[120]⟩, .string ⟨#[]⟩, .int .i64 0, .bool false, .int .i64 0, .string ⟨#[]⟩, .slice none 0 0] 39)).alloc (.cells #[.int .i64 (4 + (j : Int)), .slice (some ⟨w1.heap.size + 1, 0, none⟩) 2 2, .string ⟨#[]⟩, .string ⟨#[]⟩, .int .i64 0, .bool false, .int .i64 0, .string ⟨#[]⟩, .slice none 0 0] 39)).alloc (.cells #[.int .i64 (4 + (j : Int)), .slice (some ⟨w1.heap.size + 1, 0, none⟩) 2 2, .string ⟨#[]⟩, .string ⟨#[]⟩, .int .i64 0, .bool false, .int .i64 0, .string ⟨#[]⟩, .slice none 0 0, .int .i64 2, .slice none 0 0, .string ⟨#[120]⟩, .string ⟨#[]⟩, .int .i64 0, .bool false, .int .i64 0, .string ⟨#[]⟩, .slice none 0 0] 39)).alloc (.cells #[.int .i64 2, .slice none 0 0, .string ⟨#[120]⟩, .string ⟨#[]⟩, .int .i64 0, .bool false, .int .i64 0, .string ⟨#[]⟩, .slice none 0 0, .int .i64 (4 + (j : Int)), .slice (some ⟨w1.heap.size + 1, 0, none⟩) 2 2, .string ⟨#[]⟩, .string ⟨#[]⟩, .int .i64 0, .bool false, .int .i64 0, .string ⟨#[]⟩, .slice none 0 0] 39)) (fun _ => True) (pairE (4 + i) (4 + j) true) (.slice (some ⟨w1.heap.size + 1 + 1 + 1 + 1, 0, none⟩) 2 2) ∧ Below w1.heap.size w1 (((((w1.alloc (.cells #[.int .i64 2, .slice none 0 0, .string ⟨#[120]⟩, .string ⟨#[]⟩, .int .i64 0, .bool false, .int .i64 0, .string ⟨#[]⟩, .slice none 0 0] 39)).alloc (.cells #[.int .i64 2, .slice none 0 0, .string ⟨#[120]⟩, .string ⟨#[]⟩, .int .i64 0, .bool false, .int .i64 0, .string ⟨#[]⟩, .slice none 0 0, .int .i64 2, .slice none 0 0, .string ⟨#[120]⟩, .string ⟨#[]⟩, .int .i64 0, .bool false, .int .i64 0, .string ⟨#[]⟩, .slice none 0 0] 39)).alloc (.cells #[.int .i64 (4 + (j : Int)), .slice (some ⟨w1.heap.size + 1, 0, none⟩) 2 2, .string ⟨#[]⟩, .string ⟨#[]⟩, .int .i64 0, .bool false, .int .i64 0, .string ⟨#[]⟩, .slice none 0 0] 39)).alloc (.cells #[.int .i64 (4 + (j : Int)), .slice (some ⟨w1.heap.size + 1, 0, none⟩) 2 2, .string ⟨#[]⟩, .string ⟨#[]⟩, .int .i64 0, .bool false, .int .i64 0, .string ⟨#[]⟩, .slice none 0 0, .int .i64 2, .slice none 0 0, .string ⟨#[120]⟩, .string ⟨#[]⟩, .int .i64 0, .bool false, .int .i64 0, .string ⟨#[]⟩, .slice none 0 0] 39)).alloc (.cells #[.int .i64 2, .slice none 0 0, .string ⟨#[120]⟩, .string ⟨#[]⟩, .int .i64 0, .bool false, .int .i64 0, .string ⟨#[]⟩, .slice none 0 0, .int .i64 (4 + (j : Int)), .slice (some ⟨w1.heap.size + 1, 0, none⟩) 2 2, .string ⟨#[]⟩, .string ⟨#[]⟩, .int .i64 0, .bool false, .int .i64 0, .string ⟨#[]⟩, .slice none 0 0] 39))) := by
  have z1 : (w1.alloc (.cells #[.int .i64 2, .slice none 0 0, .string ⟨#[120]⟩, .string ⟨#[]⟩, .int .i64 0, .bool false, .int .i64 0, .string ⟨#[]⟩, .slice none 0 0] 39)).heap.size = w1.heap.size + 1 := by simp
  have z3 : (((w1.alloc (.cells #[.int .i64 2, .slice none 0 0, .string ⟨#[120]⟩, .string ⟨#[]⟩, .int .i64 0, .bool false, .int .i64 0, .string ⟨#[]⟩, .slice none 0 0] 39)).alloc (.cells #[.int .i64 2, .slice none 0 0, .string ⟨#[120]⟩, .string ⟨#[]⟩, .int .i64 0, .bool false, .int .i64 0, .string ⟨#[]⟩, .slice none 0 0, .int .i64 2, .slice none 0 0, .string ⟨#[120]⟩, .string ⟨#[]⟩, .int .i64 0, .bool false, .int .i64 0, .string ⟨#[]⟩, .slice none 0 0] 39)).alloc (.cells #[.int .i64 (4 + (j : Int)), .slice (some ⟨w1.heap.size + 1, 0, none⟩) 2 2, .string ⟨#[]⟩, .string ⟨#[]⟩, .int .i64 0, .bool false, .int .i64 0, .string ⟨#[]⟩, .slice none 0 0] 39)).heap.size = w1.heap.size + 1 + 1 + 1 := by simp
  have z4 : ((((w1.alloc (.cells #[.int .i64 2, .slice none 0 0, .string ⟨#[120]⟩, .string ⟨#[]⟩, .int .i64 0, .bool false, .int .i64 0, .string ⟨#[]⟩, .slice none 0 0] 39)).alloc (.cells #[.int .i64 2, .slice none 0 0, .string ⟨#[120]⟩, .string ⟨#[]⟩, .int .i64 0, .bool false, .int .i64 0, .string ⟨#[]⟩, .slice none 0 0, .int .i64 2, .slice none 0 0, .string ⟨#[120]⟩, .string ⟨#[]⟩, .int .i64 0, .bool false, .int .i64 0, .string ⟨#[]⟩, .slice none 0 0] 39)).alloc (.cells #[.int .i64 (4 + (j : Int)), .slice (some ⟨w1.heap.size + 1, 0, none⟩) 2 2, .string ⟨#[]⟩, .string ⟨#[]⟩, .int .i64 0, .bool false, .int .i64 0, .string ⟨#[]⟩, .slice none 0 0] 39)).alloc (.cells #[.int .i64 (4 + (j : Int)), .slice (some ⟨w1.heap.size + 1, 0, none⟩) 2 2, .string ⟨#[]⟩, .string ⟨#[]⟩, .int .i64 0, .bool false, .int .i64 0, .string ⟨#[]⟩, .slice none 0 0, .int .i64 2, .slice none 0 0, .string ⟨#[120]⟩, .string ⟨#[]⟩, .int .i64 0, .bool false, .int .i64 0, .string ⟨#[]⟩, .slice none 0 0] 39)).heap.size = w1.heap.size + 1 + 1 + 1 + 1 := by simp
  have b1 := below_new w1 (.cells #[.int .i64 2, .slice none 0 0, .string ⟨#[120]⟩, .string ⟨#[]⟩, .int .i64 0, .bool false, .int .i64 0, .string ⟨#[]⟩, .slice none 0 0] 39)
  have b2 := below_new (w1.alloc (.cells #[.int .i64 2, .slice none 0 0, .string ⟨#[120]⟩, .string ⟨#[]⟩, .int .i64 0, .bool false, .int .i64 0, .string ⟨#[]⟩, .slice none 0 0] 39)) (.cells #[.int .i64 2, .slice none 0 0, .string ⟨#[120]⟩, .string ⟨#[]⟩, .int .i64 0, .bool false, .int .i64 0, .string ⟨#[]⟩, .slice none 0 0, .int .i64 2, .slice none 0 0, .string ⟨#[120]⟩, .string ⟨#[]⟩, .int .i64 0, .bool false, .int .i64 0, .string ⟨#[]⟩, .slice none 0 0] 39)
  have b3 := below_new ((w1.alloc (.cells #[.int .i64 2, .slice none 0 0, .string ⟨#[120]⟩, .string ⟨#[]⟩, .int .i64 0, .bool false, .int .i64 0, .string ⟨#[]⟩, .slice none 0 0] 39)).alloc (.cells #[.int .i64 2, .slice none 0 0, .string ⟨#[120]⟩, .string ⟨#[]⟩, .int .i64 0, .bool false, .int .i64 0, .string ⟨#[]⟩, .slice none 0 0, .int .i64 2, .slice none 0 0, .string ⟨#[120]⟩, .string ⟨#[]⟩, .int .i64 0, .bool false, .int .i64 0, .string ⟨#[]⟩, .slice none 0 0] 39)) (.cells #[.int .i64 (4 + (j : Int)), .slice (some ⟨w1.heap.size + 1, 0, none⟩) 2 2, .string ⟨#[]⟩, .string ⟨#[]⟩, .int .i64 0, .bool false, .int .i64 0, .string ⟨#[]⟩, .slice none 0 0] 39)
  have b4 := below_new (((w1.alloc (.cells #[.int .i64 2, .slice none 0 0, .string ⟨#[120]⟩, .string ⟨#[]⟩, .int .i64 0, .bool false, .int .i64 0, .string ⟨#[]⟩, .slice none 0 0] 39)).alloc (.cells #[.int .i64 2, .slice none 0 0, .string ⟨#[120]⟩, .string ⟨#[]⟩, .int .i64 0, .bool false, .int .i64 0, .string ⟨#[]⟩, .slice none 0 0, .int .i64 2, .slice none 0 0, .string ⟨#[120]⟩, .string ⟨#[]⟩, .int .i64 0, .bool false, .int .i64 0, .string ⟨#[]⟩, .slice none 0 0] 39)).alloc (.cells #[.int .i64 (4 + (j : Int)), .slice (some ⟨w1.heap.size + 1, 0, none⟩) 2 2, .string ⟨#[]⟩, .string ⟨#[]⟩, .int .i64 0, .bool false, .int .i64 0, .string ⟨#[]⟩, .slice none 0 0] 39)) (.cells #[.int .i64 (4 + (j : Int)), .slice (some ⟨w1.heap.size + 1, 0, none⟩) 2 2, .string ⟨#[]⟩, .string ⟨#[]⟩, .int .i64 0, .bool false, .int .i64 0, .string ⟨#[]⟩, .slice none 0 0, .int .i64 2, .slice none 0 0, .string ⟨#[120]⟩, .string ⟨#[]⟩, .int .i64 0, .bool false, .int .i64 0, .string ⟨#[]⟩, .slice none 0 0] 39)
  have b5 := below_new ((((w1.alloc (.cells #[.int .i64 2, .slice none 0 0, .string ⟨#[120]⟩, .string ⟨#[]⟩, .int .i64 0, .bool false, .int .i64 0, .string ⟨#[]⟩, .slice none 0 0] 39)).alloc (.cells #[.int .i64 2, .slice none 0 0, .string ⟨#[120]⟩, .string ⟨#[]⟩, .int .i64 0, .bool false, .int .i64 0, .string ⟨#[]⟩, .slice none 0 0, .int .i64 2, .slice none 0 0, .string ⟨#[120]⟩, .string ⟨#[]⟩, .int .i64 0, .bool false, .int .i64 0, .string ⟨#[]⟩, .slice none 0 0] 39)).alloc (.cells #[.int .i64 (4 + (j : Int)), .slice (some ⟨w1.heap.size + 1, 0, none⟩) 2 2, .string ⟨#[]⟩, .string ⟨#[]⟩, .int .i64 0, .bool false, .int .i64 0, .string ⟨#[]⟩, .slice none 0 0] 39)).alloc (.cells #[.int .i64 (4 + (j : Int)), .slice (some ⟨w1.heap.size + 1, 0, none⟩) 2 2, .string ⟨#[]⟩, .string ⟨#[]⟩, .int .i64 0, .bool false, .int .i64 0, .string ⟨#[]⟩, .slice none 0 0, .int .i64 2, .slice none 0 0, .string ⟨#[120]⟩, .string ⟨#[]⟩, .int .i64 0, .bool false, .int .i64 0, .string ⟨#[]⟩, .slice none 0 0] 39)) (.cells #[.int .i64 2, .slice none 0 0, .string ⟨#[120]⟩, .string ⟨#[]⟩, .int .i64 0, .bool false, .int .i64 0, .string ⟨#[]⟩, .slice none 0 0, .int .i64 (4 + (j : Int)), .slice (some ⟨w1.heap.size + 1, 0, none⟩) 2 2, .string ⟨#[]⟩, .string ⟨#[]⟩, .int .i64 0, .bool false, .int .i64 0, .string ⟨#[]⟩, .slice none 0 0] 39)
  have i2 : ExAt ((w1.alloc (.cells #[.int .i64 2, .slice none 0 0, .string ⟨#[120]⟩, .string ⟨#[]⟩, .int .i64 0, .bool false, .int .i64 0, .string ⟨#[]⟩, .slice none 0 0] 39)).alloc (.cells #[.int .i64 2, .slice none 0 0, .string ⟨#[120]⟩, .string ⟨#[]⟩, .int .i64 0, .bool false, .int .i64 0, .string ⟨#[]⟩, .slice none 0 0, .int .i64 2, .slice none 0 0, .string ⟨#[120]⟩, .string ⟨#[]⟩, .int .i64 0, .bool false, .int .i64 0, .string ⟨#[]⟩, .slice none 0 0] 39)) (fun _ => True) (.two (4 + j) xV xV) (.slice (some ⟨w1.heap.size + 1, 0, none⟩) 2 2) := by
    rw [← z1]
    exact ⟨_, .slice none 0 0, .slice none 0 0, rfl, trivial, row_new _ _ 0 xV _ rfl rfl rfl rfl rfl rfl rfl rfl rfl, row_new _ _ 9 xV _ rfl rfl rfl rfl rfl rfl rfl rfl rfl, rfl, rfl⟩
  have i4 := (i2.keep b3).keep b4
  have i5 := i4.keep b5
  refine ⟨⟨?_, below_on (below_on (below_on b1 b2) b3) b4⟩, ?_, below_on (below_on (below_on (below_on b1 b2) b3) b4) b5⟩
  · rw [← z3]
    exact ⟨_, .slice (some ⟨w1.heap.size + 1, 0, none⟩) 2 2, .slice none 0 0, rfl, trivial, row_new _ _ 0 (.two (4 + j) xV xV) _ rfl rfl rfl rfl rfl rfl rfl rfl rfl, row_new _ _ 9 xV _ rfl rfl rfl rfl rfl rfl rfl rfl rfl, i4, rfl⟩
  · rw [← z4]
    exact ⟨_, .slice none 0 0, .slice (some ⟨w1.heap.size + 1, 0, none⟩) 2 2, rfl, trivial, row_new _ _ 0 xV _ rfl rfl rfl rfl rfl rfl rfl rfl rfl, row_new _ _ 9 (.two (4 + j) xV xV) _ rfl rfl rfl rfl rfl rfl rfl rfl rfl, rfl, i5⟩
theorem pair_val (p q : Int) (r : Bool) (ks : Value) : exV (pairE p q r) ks = .agg #[.int .i64 (p), ks, .string ⟨#[]⟩, .string ⟨#[]⟩, .int .i64 0, .bool false, .int .i64 0, .string ⟨#[]⟩, .slice none 0 0] := by
  cases r <;> rfl
theorem pair_is (i j : Nat) (r : Bool) (hi : i < 13) (hj : j < 13) : prT (pairE (4 + i) (4 + j) r).tr = (pairT i j r, 0) ∧ (pairT i j r).length ≤ 100 ∧ parseEL (pairT i j r) = .ok (pairE (4 + i) (4 + j) r) [] ∧ (pairT i j r).any (fun c => decide (c = 40)) = decide (lvO (4 + j) < asksP (4 + i) r) := by
  have h := pairs_all i j r hi hj
  unfold pairB at h
  simp only [Bool.and_eq_true, decide_eq_true_eq, beq_iff_eq] at h
  obtain ⟨⟨⟨h1, h2⟩, h3⟩, h4⟩ := h
  refine ⟨?_, h2, reads_eq h3, h4⟩
  unfold prT
  rw [if_pos h1, if_pos (by unfold pairT at h2; omega)]
  rfl
theorem pair_fine (p q : Int) (r : Bool) : fineT (pairE p q r).tr := by
  cases r <;> simp [pairE, xV, Ex.tr, fineT, fineL, maxLen]
theorem pair_print (i j : Nat) (r : Bool) (hi : i < 13) (hj : j < 13) (g : Nat) (W : World) {S : Nat → Prop} (hT : Tabs W) (hF : FormsAt W) (hx : ExAt W S (pairE (4 + i) (4 + j) r) (.slice (some ⟨g, 0, none⟩) 2 2)) :
    Calls Tryz.prog 13 #[.agg #[.int .i64 (4 + (i : Int)), .slice (some ⟨g, 0, none⟩) 2 2, .string ⟨#[]⟩, .string ⟨#[]⟩, .int .i64 0, .bool false, .int .i64 0, .string ⟨#[]⟩, .slice none 0 0]] W fun e w' => e = .returned (.tuple #[.string (txt (pairT i j r)), .int .i64 0]) ∧ Below W.heap.size W w' := by
  have := print_ex _ _ W hT hF (pair_fine _ _ _) hx
  rw [pair_val, (pair_is i j r hi hj).1] at this
  exact this
theorem pair_parse (i j : Nat) (r : Bool) (hi : i < 13) (hj : j < 13) (W : World) (hT : Tabs W) :
    Calls Tryz.prog 14 #[.string (txt (pairT i j r))] W fun e w' => Below W.heap.size W w' ∧ ∃ p n c, e = .returned (.tuple #[.agg #[.int .i64 (4 + (i : Int)), .slice p n c, .string ⟨#[]⟩, .string ⟨#[]⟩, .int .i64 0, .bool false, .int .i64 0, .string ⟨#[]⟩, .slice none 0 0], .int .i64 0, .int .i64 0]) ∧ ExAt w' (W.heap.size ≤ ·) (pairE (4 + i) (4 + j) r) (.slice p n c) := by
  obtain ⟨_, h2, h3, _⟩ := pair_is i j r hi hj
  have := parse13 (txt (pairT i j r)) (by rw [txt_size]; unfold maxLen; omega) W hT
  rw [txt_list, h3] at this
  refine this.mono ?_
  rintro e w' ⟨hb, v, rfl, p, n, c, rfl, hx⟩
  refine ⟨hb, p, n, c, ?_, hx⟩
  have := pair_val (4 + i) (4 + j) r (.slice p n c)
  unfold exV at this
  rw [this]
theorem pair_same (i j : Nat) (r : Bool) (p q : Option Addr) (n m c d : Nat) (S S' : Nat → Prop) (W : World) (h1 : ExAt W S (pairE (4 + i) (4 + j) r) (.slice p n c)) (h2 : ExAt W S' (pairE (4 + i) (4 + j) r) (.slice q m d)) :
    Calls Tryz.prog 15 #[.agg #[.int .i64 (4 + (i : Int)), .slice p n c, .string ⟨#[]⟩, .string ⟨#[]⟩, .int .i64 0, .bool false, .int .i64 0, .string ⟨#[]⟩, .slice none 0 0], .agg #[.int .i64 (4 + (i : Int)), .slice q m d, .string ⟨#[]⟩, .string ⟨#[]⟩, .int .i64 0, .bool false, .int .i64 0, .string ⟨#[]⟩, .slice none 0 0]] W fun e w' => e = .returned (.bool true) ∧ Below W.heap.size W w' := by
  have := sameE_yes _ p q n m c d S S' W h1 h2
  have e1 := pair_val (4 + i) (4 + j) r (.slice p n c)
  have e2 := pair_val (4 + i) (4 + j) r (.slice q m d)
  unfold exV at e1 e2
  rw [e1, e2] at this
  exact this
theorem at_txt (T : List UInt8) (k : Nat) (h : k < (txt T).size) (c : UInt8) (hc : T[k]? = some c) : (txt T)[k]'h = c := by
  have h2 : k < T.length := by rw [← txt_size]; exact h
  have e : (txt T)[k]'h = T[k]'h2 := by simp [txt, ByteArray.getElem_eq_getElem_data]
  rw [e]
  rw [List.getElem?_eq_getElem h2] at hc
  exact Option.some.inj hc
theorem byte_is (c : UInt8) : ((c.toNat : Int) == 40) = decide (c = 40) := by
  have e : (c = 40) = ((c.toNat : Int) = 40) := by
    apply propext
    constructor
    · rintro rfl; rfl
    · intro h; apply UInt8.toNat_inj.1; show c.toNat = 40; omega
  by_cases h : (c.toNat : Int) = 40
  · simp [e, h]
  · simp [e, h]
theorem lv_small (i : Nat) (hi : i < 13) : 0 ≤ lvO (4 + (i : Int)) ∧ lvO (4 + (i : Int)) ≤ 8 := by
  have key : ∀ i : Fin 13, 0 ≤ lvO (4 + ((i.1 : Nat) : Int)) ∧ lvO (4 + ((i.1 : Nat) : Int)) ≤ 8 := by decide
  exact key ⟨i, hi⟩
set_option maxRecDepth 100000 in
set_option maxHeartbeats 4000000 in
theorem Pairs_walk (a b : Int) (ha : 0 ≤ a ∧ a < 256) (hb : 0 ≤ b ∧ b < 256) (r : Bool) (w : World) (hT : Tabs w) (hF : FormsAt w) :
    Calls Tryz.prog 7 #[.int .u8 a, .int .u8 b, .bool r] w fun e w' => e = .returned (.bool true) ∧ Below w.heap.size w w' := by
  have hH := fun (_ : Unit) => head_any w hT hF
  replace hH : Hid _ := hH
  replace hF : Hid _ := hF
  obtain ⟨i, hi⟩ : ∃ i : Nat, a % 13 = i := ⟨(a % 13).toNat, by omega⟩
  obtain ⟨j, hj⟩ : ∃ j : Nat, b % 13 = j := ⟨(b % 13).toNat, by omega⟩
  have hi9 : i < 13 := by omega
  have hj9 : j < 13 := by omega
  go_enter Tryz.func7, Tryz.ntmps7
  go_upto_region 5 with ((have hh := hH.out (); go_at_call 8; (refine Calls.mono hh ?_); clear hh hH; rintro e w1 ⟨rfl, hb1⟩))
  obtain ⟨kd, hkd⟩ : ∃ z : Int, (if r then 1 else 0) = z := ⟨_, rfl⟩
  replace hkd : Hid _ := hkd
  go_upto_if 41 with fail
  go_cut [12, 13] (fun v12 v13 wx => ∃ g, v12 = .slice (some ⟨g, 0, none⟩) 2 2 ∧ v13 = .int .i64 kd ∧ ExAt wx (fun _ => True) (pairE (4 + i) (4 + j) r) (.slice (some ⟨g, 0, none⟩) 2 2) ∧ Below w1.heap.size w1 wx)
  case first =>
    cases r
    · go_wp2_with fail
      go_meet
      exact ⟨_, rfl, by rw [← hkd.out]; rfl, (pair_rows w1 i j).1⟩
    · go_wp2_with fail
      go_meet
      exact ⟨_, rfl, by rw [← hkd.out]; rfl, (pair_rows w1 i j).2⟩
  case rest =>
    obtain ⟨g, rfl, rfl, hx, hbx⟩ := hcut
    have hbw := below_on hb1 hbx
    have bY := below_new wc (.cells #[.int .i64 (4 + (i : Int)), .slice (some ⟨g, 0, none⟩) 2 2, .string ⟨#[]⟩, .string ⟨#[]⟩, .int .i64 0, .bool false, .int .i64 0, .string ⟨#[]⟩, .slice none 0 0] 39)
    have hbY := below_on hbw bY
    have hxY := hx.keep bY
    have nY := heap_alloc_new wc (.cells #[.int .i64 (4 + (i : Int)), .slice (some ⟨g, 0, none⟩) 2 2, .string ⟨#[]⟩, .string ⟨#[]⟩, .int .i64 0, .bool false, .int .i64 0, .string ⟨#[]⟩, .slice none 0 0] 39)
    have hP := fun (_ : Unit) => pair_print i j r hi9 hj9 g _ (hT.below hbY) (FormsAt.below hF.out hbY) hxY
    have hQ := fun (W : World) (h : Tabs W) => pair_parse i j r hi9 hj9 W h
    clear hbx hx bY
    replace hP : Hid _ := hP
    replace hQ : Hid _ := hQ
    replace hbY : Hid _ := hbY
    replace hxY : Hid _ := hxY
    replace nY : Hid _ := nY
    go_upto_region 14 with (first
      | (have hh := hQ.out w5 hT5.out; go_at_call 14; (refine Calls.mono hh ?_); clear hh; rintro e w6 ⟨hb6, pz, nz, cz, rfl, hxz⟩; replace hxz : Hid _ := hxz; replace hb6 : Hid _ := hb6)
      | (have hh := hP.out (); go_at_call 13; (refine Calls.mono hh ?_); clear hh hP; rintro e w5 ⟨rfl, hb5⟩; have hT5 := hT.below (below_on hbY.out hb5); replace hT5 : Hid _ := hT5; replace hb5 : Hid _ := hb5))
    have bZ := below_new w6 (.cells #[.int .i64 (4 + (i : Int)), .slice pz nz cz, .string ⟨#[]⟩, .string ⟨#[]⟩, .int .i64 0, .bool false, .int .i64 0, .string ⟨#[]⟩, .slice none 0 0] 39)
    have hb57 := below_on hb6.out bZ
    have hb7 := below_on hb5.out hb57
    have hbA := below_on hbY.out hb7
    have nY7 := (hb7.block _ (Array.getElem?_eq_some_iff.1 nY.out).1).trans nY.out
    have nZ7 := heap_alloc_new w6 (.cells #[.int .i64 (4 + (i : Int)), .slice pz nz cz, .string ⟨#[]⟩, .string ⟨#[]⟩, .int .i64 0, .bool false, .int .i64 0, .string ⟨#[]⟩, .slice none 0 0] 39)
    have hxY7 := ExAt.keep hxY.out hb7
    have hxZ7 := ExAt.keep hxz.out bZ
    have hSm := fun (_ : Unit) => pair_same i j r _ _ _ _ _ _ _ _ _ hxY7 hxZ7
    clear bZ hb57 hb7 hxY7 hxZ7 hb5 hb6 hxz hxY nY hbY hT5 hQ
    generalize (w6.alloc (.cells #[.int .i64 (4 + (i : Int)), .slice pz nz cz, .string ⟨#[]⟩, .string ⟨#[]⟩, .int .i64 0, .bool false, .int .i64 0, .string ⟨#[]⟩, .slice none 0 0] 39)) = W7 at *
    generalize w6.heap.size = ZZ at *
    generalize wc.heap.size = YY at *
    have y0 : W7.cell? ⟨YY, 0, none⟩ = some (.int .i64 (4 + (i : Int))) := box_cell nY7 0
    have y1 : W7.cell? ⟨YY, 1, none⟩ = some (.slice (some ⟨g, 0, none⟩) 2 2) := box_cell nY7 1
    have y2 : W7.cell? ⟨YY, 2, none⟩ = some (.string ⟨#[]⟩) := box_cell nY7 2
    have y3 : W7.cell? ⟨YY, 3, none⟩ = some (.string ⟨#[]⟩) := box_cell nY7 3
    have y4 : W7.cell? ⟨YY, 4, none⟩ = some (.int .i64 0) := box_cell nY7 4
    have y5 : W7.cell? ⟨YY, 5, none⟩ = some (.bool false) := box_cell nY7 5
    have y6 : W7.cell? ⟨YY, 6, none⟩ = some (.int .i64 0) := box_cell nY7 6
    have y7 : W7.cell? ⟨YY, 7, none⟩ = some (.string ⟨#[]⟩) := box_cell nY7 7
    have y8 : W7.cell? ⟨YY, 8, none⟩ = some (.slice none 0 0) := box_cell nY7 8
    have z0 : W7.cell? ⟨ZZ, 0, none⟩ = some (.int .i64 (4 + (i : Int))) := box_cell nZ7 0
    have z1 : W7.cell? ⟨ZZ, 1, none⟩ = some (.slice pz nz cz) := box_cell nZ7 1
    have z2 : W7.cell? ⟨ZZ, 2, none⟩ = some (.string ⟨#[]⟩) := box_cell nZ7 2
    have z3 : W7.cell? ⟨ZZ, 3, none⟩ = some (.string ⟨#[]⟩) := box_cell nZ7 3
    have z4 : W7.cell? ⟨ZZ, 4, none⟩ = some (.int .i64 0) := box_cell nZ7 4
    have z5 : W7.cell? ⟨ZZ, 5, none⟩ = some (.bool false) := box_cell nZ7 5
    have z6 : W7.cell? ⟨ZZ, 6, none⟩ = some (.int .i64 0) := box_cell nZ7 6
    have z7 : W7.cell? ⟨ZZ, 7, none⟩ = some (.string ⟨#[]⟩) := box_cell nZ7 7
    have z8 : W7.cell? ⟨ZZ, 8, none⟩ = some (.slice none 0 0) := box_cell nZ7 8
    obtain ⟨_, hT1, _, hT2⟩ := pair_is i j r hi9 hj9
    have hsz := txt_size (pairT i j r)
    generalize pairT i j r = TT at *
    replace hSm : Hid _ := hSm
    replace hbA : Hid _ := hbA
    replace hT2 : Hid _ := hT2
    clear nY7 nZ7
    go_wp2_with fail
    go_loopw [20, 21] (fun v20 v21 wr => ∃ k : Nat, k ≤ TT.length ∧ v20 = .bool ((TT.take k).any (fun c => decide (c = 40))) ∧ v21 = .int .i64 k ∧ W7 = wr) (fun _ v _ => TT.length - (intOf v).toNat)
    case atStart => exact ⟨0, by omega, rfl, rfl, rfl⟩
    case round =>
      obtain ⟨k, hk, rfl, rfl, rfl⟩ := hrel
      by_cases hlt : k < TT.length
      · have hkz : k < (txt TT).size := by rw [hsz]; exact hlt
        obtain ⟨c, hc⟩ : ∃ c, TT[k]? = some c := ⟨TT[k], List.getElem?_eq_getElem hlt⟩
        have htk : (TT.take (k + 1)).any (fun c => decide (c = 40)) = ((TT.take k).any (fun c => decide (c = 40)) || decide (c = 40)) := by
          rw [List.take_add_one, hc, List.any_append]
          simp
        generalize hbk : (TT.take k).any (fun c => decide (c = 40)) = bk at *
        replace htk : Hid _ := htk
        clear hbk
        cases bk
        · have hat : (((txt TT)[k]'hkz).toNat : Int) = (c.toNat : Int) := by rw [at_txt TT k hkz c hc]
          have hcc : ((c.toNat : Int) == 40) = decide (c = 40) := byte_is c
          go_wp2_with fail
          exact ⟨⟨k + 1, by omega, by rw [htk.out]; first | rfl | (rw [hat, hcc]; rfl), rfl, trivial⟩, by show TT.length - ((k : Int) + 1).toNat < TT.length - (k : Int).toNat; omega⟩
        · go_wp2_with fail
          exact ⟨⟨k + 1, by omega, by rw [htk.out]; rfl, rfl, trivial⟩, by show TT.length - ((k : Int) + 1).toNat < TT.length - (k : Int).toNat; omega⟩
      · have hk2 : k = TT.length := by omega
        have hbr : (TT.take k).any (fun c => decide (c = 40)) = decide (lvO (4 + (j : Int)) < asksP (4 + (i : Int)) r) := by rw [hk2, List.take_length]; exact hT2.out
        have hkz : ¬ k < (txt TT).size := by rw [hsz]; exact hlt
        have hLi := fun (W : World) => lvl17_any i hi9 W
        have hLj := fun (W : World) => lvl17_any j hj9 W
        have bi := lv_small i hi9
        have bj := lv_small j hj9
        have hak : asksP (4 + (i : Int)) r = if lvO (4 + (i : Int)) = 4 then 5 else lvO (4 + (i : Int)) + kd := by unfold asksP; rw [hkd.out]
        have hkd2 : 0 ≤ kd ∧ kd ≤ 1 := by have := hkd.out; cases r <;> simp at this <;> omega
        generalize (TT.take k).any (fun c => decide (c = 40)) = BR at *
        generalize asksP (4 + (i : Int)) r = AK at *
        generalize lvO (4 + (i : Int)) = LP at *
        generalize lvO (4 + (j : Int)) = LQ at *
        replace hLi : Hid _ := hLi
        replace hLj : Hid _ := hLj
        clear hT2
        subst hbr
        by_cases h4 : LP = 4
        · rw [if_pos h4] at hak
          subst hak h4
          by_cases hq : LQ < 5
          · have hq1 : decide (LQ < 5) = true := by simpa using hq
            rw [hq1]
            go_wp2_with (first
              | (have hh := hSm.out (); go_at_call 15; (refine Calls.mono hh ?_); clear hh; rintro e w8 ⟨rfl, hb8⟩)
              | (have hh := hLj.out w8; go_at_call 17; (refine Calls.mono hh ?_); clear hh; rintro e w9 ⟨rfl, rfl⟩)
              | (have hh := hLi.out W7; go_at_call 17; (refine Calls.mono hh ?_); clear hh; rintro e w9 ⟨rfl, rfl⟩))
            all_goals first
              | (go_returns; exact ⟨rfl, below_on hbA.out hb8⟩)
              | (exfalso; omega)
          · have hq1 : decide (LQ < 5) = false := by simpa using hq
            rw [hq1]
            go_wp2_with (first
              | (have hh := hSm.out (); go_at_call 15; (refine Calls.mono hh ?_); clear hh; rintro e w8 ⟨rfl, hb8⟩)
              | (have hh := hLj.out w8; go_at_call 17; (refine Calls.mono hh ?_); clear hh; rintro e w9 ⟨rfl, rfl⟩)
              | (have hh := hLi.out W7; go_at_call 17; (refine Calls.mono hh ?_); clear hh; rintro e w9 ⟨rfl, rfl⟩))
            all_goals first
              | (go_returns; exact ⟨rfl, below_on hbA.out hb8⟩)
              | (exfalso; omega)
        · rw [if_neg h4] at hak
          subst hak
          have h4b : (LP == 4) = false := by simpa using h4
          by_cases hq : LQ < LP + kd
          · have hq1 : decide (LQ < LP + kd) = true := by simpa using hq
            rw [hq1]
            go_wp2_with (first
              | (have hh := hSm.out (); go_at_call 15; (refine Calls.mono hh ?_); clear hh; rintro e w8 ⟨rfl, hb8⟩)
              | (have hh := hLj.out w8; go_at_call 17; (refine Calls.mono hh ?_); clear hh; rintro e w9 ⟨rfl, rfl⟩)
              | (have hh := hLi.out W7; go_at_call 17; (refine Calls.mono hh ?_); clear hh; rintro e w9 ⟨rfl, rfl⟩))
            all_goals first
              | (go_returns; exact ⟨rfl, below_on hbA.out hb8⟩)
              | (exfalso; omega)
          · have hq1 : decide (LQ < LP + kd) = false := by simpa using hq
            rw [hq1]
            go_wp2_with (first
              | (have hh := hSm.out (); go_at_call 15; (refine Calls.mono hh ?_); clear hh; rintro e w8 ⟨rfl, hb8⟩)
              | (have hh := hLj.out w8; go_at_call 17; (refine Calls.mono hh ?_); clear hh; rintro e w9 ⟨rfl, rfl⟩)
              | (have hh := hLi.out W7; go_at_call 17; (refine Calls.mono hh ?_); clear hh; rintro e w9 ⟨rfl, rfl⟩))
            all_goals first
              | (go_returns; exact ⟨rfl, below_on hbA.out hb8⟩)
              | (exfalso; omega)
end Go.Proofs.YtkcnpbckmdgfnaaGreatDoor
