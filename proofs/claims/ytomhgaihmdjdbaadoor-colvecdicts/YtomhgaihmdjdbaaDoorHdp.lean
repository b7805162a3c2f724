/-
  The parts of the live question.
-/
import Derived.Test.YtomhgaihmdjdbaaDoorCol
namespace Go.Proofs.YtomhgaihmdjdbaaDoor
open Go.RowKit
set_option linter.unusedSimpArgs false
set_option linter.unusedVariables false

/-- What the live question's column is in memory. -/
structure HdAt (w : World) (x g1 p1 g2 p2 : Nat) : Prop where
  a0 : w.cell? ⟨x, 0, none⟩ = some (.int .i64 2)
  a1 : w.cell? ⟨x, 1, none⟩ = some (.slice (some ⟨g1, 0, none⟩) 1 p1)
  a2 : w.cell? ⟨x, 2, none⟩ = some (.slice (some ⟨g2, 0, none⟩) 2 p2)
  b1 : w.cell? ⟨g1, 0, none⟩ = some (.int .u64 2)
  b2 : w.cell? ⟨g2, 0, none⟩ = some (.int .i64 3)
theorem HdAt.below {w w' : World} {x g1 p1 g2 p2 : Nat} (h : HdAt w x g1 p1 g2 p2) (hb : Below w.heap.size w w') : HdAt w' x g1 p1 g2 p2 :=
  ⟨(hb.cell (World.block_lt_of_cell? w _ h.a0)).trans h.a0, (hb.cell (World.block_lt_of_cell? w _ h.a1)).trans h.a1, (hb.cell (World.block_lt_of_cell? w _ h.a2)).trans h.a2, (hb.cell (World.block_lt_of_cell? w _ h.b1)).trans h.b1, (hb.cell (World.block_lt_of_cell? w _ h.b2)).trans h.b2⟩
theorem hd_of {w : World} {base x : Nat} {C : Col} (h : ColAt w base x C) (hk : C.k = 2) (hL : C.L = [2]) (hM : C.M = [3, 0]) : ∃ g1 p1 g2 p2, HdAt w x g1 p1 g2 p2 := by
  have h1 := h.o1
  have h2 := h.o2
  have hv := h.vb
  rw [hL] at h1
  rw [hM] at h2
  obtain ⟨g1, p1, e1, c1, -, -, -⟩ := own_at h1 0 (by decide)
  obtain ⟨g2, p2, e2, c2, -, -, -⟩ := own_at h2 0 (by decide)
  rw [hk, e1, e2] at hv
  exact ⟨g1, p1, g2, p2, hv.c0, hv.c1, hv.c2, c1, c2⟩

set_option maxRecDepth 100000 in
theorem ones2 (w : World) : Calls Tryd.prog 63 #[.int .u64 2] w fun e w' => e = .returned (.int .i64 1) ∧ w' = w := by
  go_enter Tryd.func63, Tryd.ntmps63
  go_wp2
  go_returns
  exact ⟨by kernel_rfl, rfl⟩
set_option maxRecDepth 100000 in
theorem count_hd (w : World) (g1 p1 : Nat) (b1 : w.cell? ⟨g1, 0, none⟩ = some (.int .u64 2)) : Calls Tryd.prog 49 #[.slice (some ⟨g1, 0, none⟩) 1 p1] w fun e w' => e = .returned (.int .i64 1) ∧ w' = w := by
  go_enter Tryd.func49, Tryd.ntmps49
  go_wp2
  refine wp_loop_rounds 2 ?_
  rw [rounds_succ]
  go_wp2_with (go_at_call 63; refine (ones2 _).mono ?_; rintro e w1 ⟨rfl, rfl⟩)
  rw [rounds_succ]
  go_wp2_with fail
  go_returns
  exact ⟨rfl, rfl⟩
set_option maxRecDepth 100000 in
theorem nulls_hd (w : World) (x g1 p1 g2 p2 : Nat) (h : HdAt w x g1 p1 g2 p2) : Calls Tryd.prog 30 #[.pointer (some ⟨x, 0, none⟩)] w fun e w' => e = .returned (.int .i64 1) ∧ w' = w := by
  obtain ⟨a0, a1, a2, b1, b2⟩ := h
  go_enter Tryd.func30, Tryd.ntmps30
  go_wp2_with (go_at_call 49; refine (count_hd _ g1 p1 b1).mono ?_; rintro e w1 ⟨rfl, rfl⟩)
  go_returns
  exact ⟨rfl, rfl⟩
set_option maxRecDepth 100000 in
theorem bhas_hd (w : World) (g1 p1 : Nat) (b1 : w.cell? ⟨g1, 0, none⟩ = some (.int .u64 2)) : Calls Tryd.prog 57 #[.slice (some ⟨g1, 0, none⟩) 1 p1, .int .i64 0] w fun e w' => e = .returned (.bool false) ∧ w' = w := by
  go_enter Tryd.func57, Tryd.ntmps57
  go_wp2
  go_returns
  exact ⟨rfl, rfl⟩
set_option maxRecDepth 100000 in
theorem look_hd (w : World) (x g1 p1 g2 p2 : Nat) (h : HdAt w x g1 p1 g2 p2) : Calls Tryd.prog 41 #[.pointer (some ⟨x, 0, none⟩), .int .i64 0] w fun e w' => e = .returned (vv 2 false 3 ⟨#[]⟩ none 0 0) ∧ Below w.heap.size w w' := by
  obtain ⟨a0, a1, a2, b1, b2⟩ := h
  have hx := World.block_lt_of_cell? w _ a0
  have hg1 := World.block_lt_of_cell? w _ b1
  have hg2 := World.block_lt_of_cell? w _ b2
  go_enter Tryd.func41, Tryd.ntmps41
  go_wp2_with (go_at_call 57; refine (bhas_hd _ g1 p1 (cell_keep _ b1)).mono ?_; rintro e w1 ⟨rfl, rfl⟩)
  go_returns
  exact ⟨rfl, by go_grown⟩
set_option maxRecDepth 100000 in
theorem eq_nil (w : World) : (binOp BinOp.eql 37 (.slice none 0 0) (.slice none 0 0)).run Tryd.prog w = .ok (.bool true) w := by
  first | rfl | kernel_rfl | (simp [binOp, run_underlying Tryd.underlying37, go_sem]; done)
set_option maxRecDepth 100000 in
theorem clone_nil (w : World) : Calls Tryd.prog 50 #[.slice none 0 0] w fun e w' => e = .returned (.slice none 0 0) ∧ w' = w := by
  have he := eq_nil w
  go_enter Tryd.func50, Tryd.ntmps50
  go_wp2
  go_returns
  exact ⟨rfl, rfl⟩
set_option maxRecDepth 100000 in
set_option maxHeartbeats 2000000 in
theorem at_hd (w : World) (x g1 p1 g2 p2 : Nat) (h : HdAt w x g1 p1 g2 p2) : Calls Tryd.prog 32 #[.pointer (some ⟨x, 0, none⟩), .int .i64 0] w fun e w' => e = .returned (vv 2 false 3 ⟨#[]⟩ none 0 0) ∧ Below w.heap.size w w' := by
  have hh := has_any x (some ⟨g2, 0, none⟩) 2 p2 0 (w.alloc (.cells #[.int .i64 0, .bool false, .int .i64 0, .string ⟨#[]⟩, .slice none 0 0] 39)) (h.below (below_new _ _)).a2
  have hl := look_hd _ x g1 p1 g2 p2 (h.below (below_new w (.cells #[.int .i64 0, .bool false, .int .i64 0, .string ⟨#[]⟩, .slice none 0 0] 39)))
  have hB := BoxAt.new w 0 false 0 ⟨#[]⟩ none 0 0 rfl
  unfold vv at hl ⊢
  replace hh : Hid _ := hh
  replace hl : Hid _ := hl
  clear h
  go_enter Tryd.func32, Tryd.ntmps32
  go_wp2_with (first
    | (go_at_call 40; refine Calls.mono hh.out ?_; rintro e w1 ⟨rfl, rfl⟩)
    | (go_at_call 41; refine Calls.mono hl.out ?_; rintro e w2 ⟨rfl, g2'⟩; have B2 := hB.below g2'; have hlt := B2.lt; have B3 : Hid _ := B2; obtain ⟨c0, c1, c2, c3, c4, fr⟩ := B2; have f0 := fr 0; have f1 := fr 1; have f2 := fr 2; have f3 := fr 3; have f4 := fr 4; clear fr)
    | (go_at_call 50; refine (clone_nil _).mono ?_; rintro e w3 ⟨rfl, rfl⟩))
  refine bodyPost_ret (results_box Tryd.results32 _ (by rfl) ((BoxAt.put B3.out 2 false 3 ⟨#[]⟩ none 0 0).alloc _)) rfl ?_
  exact ⟨rfl, by have h2 := below_on (below_new w _) g2'; have h3 := h2.size; go_grown⟩
end Go.Proofs.YtomhgaihmdjdbaaDoor
