/-
  The live question.
-/
import Derived.Test.YthdeifjnfcjaaaaRmt
namespace Go.Proofs.Ythdeifjnfcjaaaa
open Go.RowKit
set_option linter.unusedSimpArgs false
set_option linter.unusedVariables false

/-- The lists of the live question. -/
def hdL (s : Nat) : List IL := [⟨some ⟨s, 0, none⟩, 3, 3, [1, 3, 5]⟩, ⟨some ⟨s + 1, 0, none⟩, 4, 4, [3, 4, 5, 6]⟩]
theorem hd_met (s : Nat) : IsMet (zl (hdL s)) [3, 5] := ⟨by simp, fun z => by rw [inAll_iff]; simp [zl, hdL]; omega⟩
theorem hd_ris (s : Nat) : allRis (hdL s) := by
  intro j hj
  have hj' : j = 0 ∨ j = 1 := by simp [hdL] at hj; omega
  rcases hj' with rfl | rfl <;> simp [hdL]
theorem hd_ok (s : Nat) : metE (hdL s) = 0 := metE_ok (by simp [hdL]) (hd_ris s)
theorem hd_at (w : World) : ILsAt (((w.alloc (.cells #[.int .i64 1, .int .i64 3, .int .i64 5] 3)).alloc (.cells #[.int .i64 3, .int .i64 4, .int .i64 5, .int .i64 6] 3)).alloc (.cells #[.slice (some ⟨w.heap.size, 0, none⟩) 3 3, .slice (some ⟨w.heap.size + 1, 0, none⟩) 4 4] 24)) (some ⟨w.heap.size + 2, 0, none⟩) (hdL w.heap.size) := by
  have z1 : (w.alloc (.cells #[.int .i64 1, .int .i64 3, .int .i64 5] 3)).heap.size = w.heap.size + 1 := by simp
  have z2 : ((w.alloc (.cells #[.int .i64 1, .int .i64 3, .int .i64 5] 3)).alloc (.cells #[.int .i64 3, .int .i64 4, .int .i64 5, .int .i64 6] 3)).heap.size = w.heap.size + 2 := by simp
  have p1 : (((w.alloc (.cells #[.int .i64 1, .int .i64 3, .int .i64 5] 3)).alloc (.cells #[.int .i64 3, .int .i64 4, .int .i64 5, .int .i64 6] 3)).alloc (.cells #[.slice (some ⟨w.heap.size, 0, none⟩) 3 3, .slice (some ⟨w.heap.size + 1, 0, none⟩) 4 4] 24)).heap[w.heap.size]? = some (.cells #[.int .i64 1, .int .i64 3, .int .i64 5] 3) := by
    rw [heap_alloc_old _ _ (by omega), heap_alloc_old _ _ (by omega)]
    exact heap_alloc_new _ _
  have p2 : (((w.alloc (.cells #[.int .i64 1, .int .i64 3, .int .i64 5] 3)).alloc (.cells #[.int .i64 3, .int .i64 4, .int .i64 5, .int .i64 6] 3)).alloc (.cells #[.slice (some ⟨w.heap.size, 0, none⟩) 3 3, .slice (some ⟨w.heap.size + 1, 0, none⟩) 4 4] 24)).heap[w.heap.size + 1]? = some (.cells #[.int .i64 3, .int .i64 4, .int .i64 5, .int .i64 6] 3) := by
    rw [heap_alloc_old _ _ (by omega), ← z1]
    exact heap_alloc_new _ _
  have p3 : (((w.alloc (.cells #[.int .i64 1, .int .i64 3, .int .i64 5] 3)).alloc (.cells #[.int .i64 3, .int .i64 4, .int .i64 5, .int .i64 6] 3)).alloc (.cells #[.slice (some ⟨w.heap.size, 0, none⟩) 3 3, .slice (some ⟨w.heap.size + 1, 0, none⟩) 4 4] 24)).heap[w.heap.size + 2]? = some (.cells #[.slice (some ⟨w.heap.size, 0, none⟩) 3 3, .slice (some ⟨w.heap.size + 1, 0, none⟩) 4 4] 24) := by
    rw [← z2]
    exact heap_alloc_new _ _
  generalize (((w.alloc (.cells #[.int .i64 1, .int .i64 3, .int .i64 5] 3)).alloc (.cells #[.int .i64 3, .int .i64 4, .int .i64 5, .int .i64 6] 3)).alloc (.cells #[.slice (some ⟨w.heap.size, 0, none⟩) 3 3, .slice (some ⟨w.heap.size + 1, 0, none⟩) 4 4] 24)) = W at p1 p2 p3 ⊢
  refine .inr ⟨w.heap.size + 2, 0, rfl, fun i hi => ?_⟩
  have hi' : i = 0 ∨ i = 1 := by simp [hdL] at hi; omega
  rcases hi' with rfl | rfl
  · refine ⟨by simp [World.cell?, p3, hdL], rfl, by simp [hdL], by simp [hdL, maxLen], by simp [hdL], .inr ⟨w.heap.size, 0, rfl, fun i hi => ?_⟩, by simp [hdL]⟩
    have hi' : i = 0 ∨ i = 1 ∨ i = 2 := by simp [hdL] at hi; omega
    rcases hi' with rfl | rfl | rfl <;> simp [World.cell?, p1, hdL]
  · refine ⟨by simp [World.cell?, p3, hdL], rfl, by simp [hdL], by simp [hdL, maxLen], by simp [hdL], .inr ⟨w.heap.size + 1, 0, rfl, fun i hi => ?_⟩, by simp [hdL]⟩
    have hi' : i = 0 ∨ i = 1 ∨ i = 2 ∨ i = 3 := by simp [hdL] at hi; omega
    rcases hi' with rfl | rfl | rfl | rfl <;> simp [World.cell?, p2, hdL]
set_option maxRecDepth 100000 in
theorem Build_nil (w : World) : Calls Try.prog 11 #[.pointer none, .int .i64 0, .bool false] w fun e w' => e = .returned (.tuple #[.pointer none, .int .i64 1]) ∧ w' = w := by
  go_enter Try.func11, Try.ntmps11
  go_wp2_with fail
  go_returns
  exact ⟨rfl, rfl⟩
set_option maxRecDepth 100000 in
set_option maxHeartbeats 2000000 in
theorem head_any (w : World) : Calls Try.prog 6 #[] w fun e w' => e = .returned (.bool true) ∧ Below w.heap.size w w' := by
  have hM := Meet_any (some ⟨w.heap.size + 2, 0, none⟩) 2 2 (hdL w.heap.size) _ rfl (hd_at w) (by omega)
  have hb0 : Below w.heap.size w (((w.alloc (.cells #[.int .i64 1, .int .i64 3, .int .i64 5] 3)).alloc (.cells #[.int .i64 3, .int .i64 4, .int .i64 5, .int .i64 6] 3)).alloc (.cells #[.slice (some ⟨w.heap.size, 0, none⟩) 3 3, .slice (some ⟨w.heap.size + 1, 0, none⟩) 4 4] 24)) := below_on (below_on (below_new _ _) (below_new _ _)) (below_new _ _)
  replace hM : Hid _ := hM
  replace hb0 : Hid _ := hb0
  go_enter Try.func6, Try.ntmps6
  go_wp2_with (first
    | (go_at_call 7; refine Calls.mono hM.out ?_; rintro e w1 ⟨p, c, M, rfl, hp, -, hm, -, hb⟩; rw [hd_ok] at hm ⊢; obtain rfl := (hm rfl).one (hd_met _); obtain ⟨g, o, rfl, d0, d1⟩ := hp.two 0 1 (by simp) (by simp); simp only [List.getD_cons_zero, List.getD_cons_succ, Nat.add_zero] at d0 d1; clear hm hp)
    | (go_at_call 11; refine (Build_nil _).mono ?_; rintro e w2 ⟨rfl, rfl⟩))
  go_returns
  exact ⟨rfl, below_on hb0.out hb⟩
end Go.Proofs.Ythdeifjnfcjaaaa
