/-
  Append of a value of the kind of the column, in one walk.
-/
import Derived.Test.YtomhgaihmdjdbaaDoorPny
import Derived.Lib.QuietBelow
import Derived.BigQuiet
namespace Go.Proofs.YtomhgaihmdjdbaaDoor
open Go.RowKit Go.Sort
set_option linter.unusedSimpArgs false
set_option linter.unusedVariables false

set_option maxRecDepth 100000 in
set_option maxHeartbeats 8000000 in
theorem Append_sameQ (base x : Nat) (C : Col) (k : Int) (b : Bool) (n : Int) (s : ByteArray) (p : Option Addr) (l c : Nat) (z : List Int) (r : Int) (X' : List ByteArray) (w : World) (hC : ColAt w base x C) (hN : NumOK base x C k b n s p l c r X') (hb : base ≤ w.heap.size) (hz : z.length = l) (hp : PathAt w p z) (hpf : ∀ g off, p = some ⟨g, off, none⟩ → z ≠ [] → ¬ Foot x C g) (hM : C.M.length < 10000000000000) (hL : C.L.length < 10000000000000) (hH : C.Hp.length + l < 10000000000000)
    (e : k = C.k) (hR : ∀ w', Below w.heap.size w w' → Calls Tryd.prog 37 #[.agg #[.int .i64 k, .bool b, .int .i64 n, .string s, .slice p l c]] w' fun e w'' => e = .returned (.bool true) ∧ Below w'.heap.size w' w'') :
    Calls Tryd.prog 16 #[.pointer (some ⟨x, 0, none⟩), .agg #[.int .i64 k, .bool b, .int .i64 n, .string s, .slice p l c]] w fun e w' => e = .returned (.int .i64 0) ∧ ∃ C', ColAt w' base x C' ∧ Behind C C' k z r X' ∧ Only (Foot x C) w w' ∧ Kin w x C C' := by
  have hbx := BoxAt.new w k b n s p l c rfl
  have hB0 : Below w.heap.size w (w.alloc (.cells #[.int .i64 k, .bool b, .int .i64 n, .string s, .slice p l c] 39)) := below_new w _
  have hC0 := hC.below hB0
  have v0 := hC0.vb.c0
  have hP := fun w' (g : Below w.heap.size w w') => put_any base x C k b n s p l c z r X' w' (hC.below g) hN (Nat.le_trans hb g.size) hz (hp.below g) hpf hM hL hH
  have hO0 : ∀ w', Below w.heap.size w w' → ∀ w'', Only (Foot x C) w' w'' → Only (Foot x C) w w'' := fun w' g w'' o => (Below.only _ g).trans o (fun _ _ h => h)
  have hK0 : ∀ w' C', Below w.heap.size w w' → Kin w' x C C' → Kin w x C C' := fun w' C' g h => Kin.trans (Kin.refl w x C) h g.size
  clear hN hp hpf
  replace hP : Hid _ := hP
  replace hO0 : Hid _ := hO0
  replace hK0 : Hid _ := hK0
  replace hR : Hid _ := hR
  clear hC hC0
  have hkk : (k != C.k) = false := by simpa using e
  generalize C.k = kc at *
  clear e
  go_enter Tryd.func16, Tryd.ntmps16
  go_wp2_with fail
  generalize hW0 : w.alloc (.cells #[.int .i64 k, .bool b, .int .i64 n, .string s, .slice p l c] 39) = W0 at *
  clear hW0
  have cR : ∀ d os, Calls Tryd.prog 37 #[.agg #[.int .i64 k, .bool b, .int .i64 n, .string s, .slice p l c]] (grow (redrawn W0 d) os) fun e w'' => e = .returned (.bool true) ∧ ∃ p : Regrown, w'' = grow (redrawn W0 p.d) p.os := fun d os => Calls.regrown_of (hR.out _ (hB0.trans ((below_regrown W0 d os).mono hB0.size)))
  obtain ⟨c0, c1, c2, c3, c4, -⟩ := hbx
  have e0 := cell_regrown c0
  have e1 := cell_regrown c1
  have e2 := cell_regrown c2
  have e3 := cell_regrown c3
  have e4 := cell_regrown c4
  have e5 := cell_regrown v0
  clear c0 c1 c2 c3 c4 v0
  replace cR : Hid _ := cR
  refine wp_region_quiet_below (by kernel_rfl) (by kernel_rfl) ?_
  repeat (quiet_step (exact cR.out _ _))
  refine wpQuiet_nil ?_
  intro _ hw'
  obtain ⟨⟨dq, osq⟩, hw''⟩ := hw'
  subst hw''
  have G1 : Below w.heap.size w (grow (redrawn W0 dq) osq) := hB0.trans ((below_regrown W0 dq osq).mono hB0.size)
  have f0 := e0 dq osq
  have f1 := e1 dq osq
  have f2 := e2 dq osq
  have f3 := e3 dq osq
  have f4 := e4 dq osq
  clear e0 e1 e2 e3 e4 e5
  generalize grow (redrawn W0 dq) osq = w1 at *
  go_wp2_with (go_at_call 38; refine Calls.mono (hP.out _ G1) ?_; rintro e2 w2 ⟨rfl, C', hC', hB', hO', hK'⟩)
  go_returns
  exact ⟨rfl, C', hC', hB', hO0.out _ G1 _ hO', hK0.out _ _ G1 hK'⟩
end Go.Proofs.YtomhgaihmdjdbaaDoor
