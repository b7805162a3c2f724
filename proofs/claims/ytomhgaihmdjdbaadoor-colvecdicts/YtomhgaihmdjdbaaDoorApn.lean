/-
  Append of what may not be.
-/
import Derived.Test.YtomhgaihmdjdbaaDoorPny
import Derived.Lib.QuietBelow
import Derived.BigQuiet
namespace Go.Proofs.YtomhgaihmdjdbaaDoor
open Go.RowKit Go.Sort
set_option linter.unusedSimpArgs false
set_option linter.unusedVariables false

set_option maxRecDepth 100000 in
set_option maxHeartbeats 2000000 in
theorem Append_bad (base x : Nat) (C : Col) (k : Int) (b : Bool) (n : Int) (s : ByteArray) (p : Option Addr) (l c : Nat) (w : World) (hC : ColAt w base x C) (hR : ∀ w', Below w.heap.size w w' → Calls Tryd.prog 37 #[.agg #[.int .i64 k, .bool b, .int .i64 n, .string s, .slice p l c]] w' fun e w'' => e = .returned (.bool false) ∧ Below w'.heap.size w' w'') :
    Calls Tryd.prog 16 #[.pointer (some ⟨x, 0, none⟩), .agg #[.int .i64 k, .bool b, .int .i64 n, .string s, .slice p l c]] w fun e w' => e = .returned (.int .i64 31) ∧ Below w.heap.size w w' := by
  have hbx := BoxAt.new w k b n s p l c rfl
  have hB0 : Below w.heap.size w (w.alloc (.cells #[.int .i64 k, .bool b, .int .i64 n, .string s, .slice p l c] 39)) := below_new w _
  have hC0 := hC.below hB0
  have v0 := hC0.vb.c0
  replace hR : Hid _ := hR
  clear hC hC0
  generalize C.k = kc at *
  go_enter Tryd.func16, Tryd.ntmps16
  go_wp2_with fail
  generalize hW0 : w.alloc (.cells #[.int .i64 k, .bool b, .int .i64 n, .string s, .slice p l c] 39) = W0 at *
  clear hW0
  have cR : ∀ d os, Calls Tryd.prog 37 #[.agg #[.int .i64 k, .bool b, .int .i64 n, .string s, .slice p l c]] (grow (redrawn W0 d) os) fun e w'' => e = .returned (.bool false) ∧ ∃ p : Regrown, w'' = grow (redrawn W0 p.d) p.os := fun d os => Calls.regrown_of (hR.out _ (hB0.trans ((below_regrown W0 d os).mono hB0.size)))
  obtain ⟨c0, c1, c2, c3, c4, -⟩ := hbx
  have e0 := cell_regrown c0
  have e1 := cell_regrown c1
  have e2 := cell_regrown c2
  have e3 := cell_regrown c3
  have e4 := cell_regrown c4
  have e5 := cell_regrown v0
  clear c0 c1 c2 c3 c4 v0
  replace cR : Hid _ := cR
  refine wp_region_quiet_below (by kernel_rfl) (by kernel_rfl) ?_
  repeat (first | go_big_quiet_step (exact cR.out _ _) | quiet_step (exact cR.out _ _))
  refine wpQuiet_nil ?_
  intro _ hw'
  obtain ⟨⟨dq, osq⟩, hw''⟩ := hw'
  subst hw''
  have G1 : Below w.heap.size w (grow (redrawn W0 dq) osq) := hB0.trans ((below_regrown W0 dq osq).mono hB0.size)
  clear e0 e1 e2 e3 e4 e5
  generalize grow (redrawn W0 dq) osq = w1 at *
  go_wp2_with fail
  go_returns
  exact ⟨rfl, G1⟩

set_option maxRecDepth 100000 in
set_option maxHeartbeats 2000000 in
theorem Append_other (base x : Nat) (C : Col) (k : Int) (b : Bool) (n : Int) (s : ByteArray) (p : Option Addr) (l c : Nat) (w : World) (hC : ColAt w base x C) (e : k ≠ C.k ∧ k ≠ 0) (hR : ∀ w', Below w.heap.size w w' → Calls Tryd.prog 37 #[.agg #[.int .i64 k, .bool b, .int .i64 n, .string s, .slice p l c]] w' fun e w'' => e = .returned (.bool true) ∧ Below w'.heap.size w' w'') :
    Calls Tryd.prog 16 #[.pointer (some ⟨x, 0, none⟩), .agg #[.int .i64 k, .bool b, .int .i64 n, .string s, .slice p l c]] w fun e w' => e = .returned (.int .i64 31) ∧ Below w.heap.size w w' := by
  have hbx := BoxAt.new w k b n s p l c rfl
  have hB0 : Below w.heap.size w (w.alloc (.cells #[.int .i64 k, .bool b, .int .i64 n, .string s, .slice p l c] 39)) := below_new w _
  have hC0 := hC.below hB0
  have v0 := hC0.vb.c0
  replace hR : Hid _ := hR
  clear hC hC0
  have e1' : (k != C.k) = true := by simpa using e.1
  have e2' : (k != 0) = true := by simpa using e.2
  clear e
  generalize C.k = kc at *
  go_enter Tryd.func16, Tryd.ntmps16
  go_wp2_with fail
  generalize hW0 : w.alloc (.cells #[.int .i64 k, .bool b, .int .i64 n, .string s, .slice p l c] 39) = W0 at *
  clear hW0
  have cR : ∀ d os, Calls Tryd.prog 37 #[.agg #[.int .i64 k, .bool b, .int .i64 n, .string s, .slice p l c]] (grow (redrawn W0 d) os) fun e w'' => e = .returned (.bool true) ∧ ∃ p : Regrown, w'' = grow (redrawn W0 p.d) p.os := fun d os => Calls.regrown_of (hR.out _ (hB0.trans ((below_regrown W0 d os).mono hB0.size)))
  obtain ⟨c0, c1, c2, c3, c4, -⟩ := hbx
  have e0 := cell_regrown c0
  have e1 := cell_regrown c1
  have e2 := cell_regrown c2
  have e3 := cell_regrown c3
  have e4 := cell_regrown c4
  have e5 := cell_regrown v0
  clear c0 c1 c2 c3 c4 v0
  replace cR : Hid _ := cR
  refine wp_region_quiet_below (by kernel_rfl) (by kernel_rfl) ?_
  repeat (first | go_big_quiet_step (exact cR.out _ _) | quiet_step (exact cR.out _ _))
  refine wpQuiet_nil ?_
  intro _ hw'
  obtain ⟨⟨dq, osq⟩, hw''⟩ := hw'
  subst hw''
  have G1 : Below w.heap.size w (grow (redrawn W0 dq) osq) := hB0.trans ((below_regrown W0 dq osq).mono hB0.size)
  clear e0 e1 e2 e3 e4 e5
  generalize grow (redrawn W0 dq) osq = w1 at *
  go_wp2_with fail
  go_returns
  exact ⟨rfl, G1⟩
end Go.Proofs.YtomhgaihmdjdbaaDoor
