/-
  Are two lists of properties alike: Same of values, sameProps.
-/
import Derived.Test.YtmioohbailhppaaDoorSpr
import Derived.Lib.QuietBelow
import Derived.BigQuiet
namespace Go.Proofs.YtmioohbailhppaaDoor
open Go.RowKit Go.Sort
set_option linter.unusedSimpArgs false
set_option linter.unusedVariables false

set_option maxRecDepth 100000 in
theorem sameV_yes (k : Int) (b : Bool) (n : Int) (s : ByteArray) (p : Option Addr) (c : Nat) (p2 : Option Addr) (c2 : Nat) (w : World) :
    Calls Tryd.prog 56 #[.agg #[.int .i64 k, .bool b, .int .i64 n, .string s, .slice p 0 c], .agg #[.int .i64 k, .bool b, .int .i64 n, .string s, .slice p2 0 c2]] w fun e w' => e = .returned (.bool true) ∧ Below w.heap.size w w' := by
  have hb : Below w.heap.size w ((w.alloc (.cells #[.int .i64 k, .bool b, .int .i64 n, .string s, .slice p 0 c] 100)).alloc (.cells #[.int .i64 k, .bool b, .int .i64 n, .string s, .slice p2 0 c2] 100)) := below_on (below_new _ _) (below_new _ _)
  have B1 := (BoxAt.new w k b n s p 0 c rfl).alloc (.cells #[.int .i64 k, .bool b, .int .i64 n, .string s, .slice p2 0 c2] 100)
  have B2 := BoxAt.new (w.alloc (.cells #[.int .i64 k, .bool b, .int .i64 n, .string s, .slice p 0 c] 100)) k b n s p2 0 c2 (x := w.heap.size + 1) (by simp)
  obtain ⟨i0, i1, i2, i3, i4, -⟩ := B1
  obtain ⟨j0, j1, j2, j3, j4, -⟩ := B2
  go_enter Tryd.func56, Tryd.ntmps56
  go_wp2_with fail
  generalize (w.alloc (.cells #[.int .i64 k, .bool b, .int .i64 n, .string s, .slice p 0 c] 100)).alloc (.cells #[.int .i64 k, .bool b, .int .i64 n, .string s, .slice p2 0 c2] 100) = W at hb i0 i1 i2 i3 i4 j0 j1 j2 j3 j4 ⊢
  go_loopw [5] (fun i wr => i = .int .i64 0 ∧ wr = W) (fun i _ => 0)
  case atStart => exact ⟨rfl, rfl⟩
  case round =>
    obtain ⟨rfl, rfl⟩ := hrel
    go_wp2_with fail
    go_returns
    exact ⟨by simp, hb⟩
/-- What is said of a property, wherever it lies. -/
def pC (x : PV) : ByteArray × Int × Bool × Int × ByteArray := (x.n, x.v.k, x.v.b, x.v.n, x.v.s)

set_option maxRecDepth 100000 in
set_option maxHeartbeats 2000000 in
theorem sameProps_yes (a : Option Addr) (n c : Nat) (L : List PV) (a2 : Option Addr) (c2 : Nat) (M : List PV) (w : World) (hL : L.length = n) (hM : M.length = n) (hm : n ≤ maxLen) (h1 : PVsAt w a L) (h2 : PVsAt w a2 M) (e : ∀ i, i < n → pC (L.getD i default) = pC (M.getD i default)) (z1 : ∀ i, i < n → (L.getD i default).v.l = 0) (z2 : ∀ i, i < n → (M.getD i default).v.l = 0) :
    Calls Tryd.prog 34 #[.slice a n c, .slice a2 n c2] w fun e w' => e = .returned (.bool true) ∧ Below w.heap.size w w' := by
  unfold maxLen at hm
  go_enter Tryd.func34, Tryd.ntmps34
  go_wp2_with fail
  go_loopw [5] (fun i wr => Below w.heap.size w wr ∧ ∃ j : Nat, j ≤ n ∧ i = .int .i64 j) (fun i _ => n - (intOf i).toNat)
  case atStart => exact ⟨by first | exact Below.refl _ _ | go_grown, 0, by omega, rfl⟩
  case round =>
    obtain ⟨hb, j, j1, rfl⟩ := hrel
    by_cases hj : j < n
    · rcases h1.below hb with rfl | ⟨g, o, rfl, k1⟩
      · simp at hL; omega
      rcases h2.below hb with rfl | ⟨g', o', rfl, k2⟩
      · simp at hM; omega
      have kx := k1 j (by omega)
      have ky := k2 j (by omega)
      have ej := e j hj
      have zx := z1 j hj
      have zy := z2 j hj
      generalize L.getD j default = X at kx ej zx
      generalize M.getD j default = Y at ky ej zy
      simp only [pC, Prod.mk.injEq] at ej
      obtain ⟨e1, e2, e3, e4, e5⟩ := ej
      obtain ⟨x0, x1, x2, x3, x4, x5, _, _, _, _⟩ := kx
      obtain ⟨y0, y1, y2, y3, y4, y5, _, _, _, _⟩ := ky
      rw [zx] at x5
      rw [zy] at y5
      rw [← e1] at y0
      rw [← e2] at y1
      rw [← e3] at y2
      rw [← e4] at y3
      rw [← e5] at y4
      have cS : ∀ d os, Calls Tryd.prog 56 #[.agg #[.int .i64 X.v.k, .bool X.v.b, .int .i64 X.v.n, .string X.v.s, .slice X.v.p 0 X.v.c], .agg #[.int .i64 X.v.k, .bool X.v.b, .int .i64 X.v.n, .string X.v.s, .slice Y.v.p 0 Y.v.c]] (grow (redrawn wr d) os) fun e w'' => e = .returned (.bool true) ∧ ∃ p : Regrown, w'' = grow (redrawn wr p.d) p.os := fun d os => Calls.regrown_of (sameV_yes _ _ _ _ _ _ _ _ _)
      have f0 := cell_regrown x0
      have f1 := cell_regrown x1
      have f2 := cell_regrown x2
      have f3 := cell_regrown x3
      have f4 := cell_regrown x4
      have f5 := cell_regrown x5
      have g0 := cell_regrown y0
      have g1 := cell_regrown y1
      have g2 := cell_regrown y2
      have g3 := cell_regrown y3
      have g4 := cell_regrown y4
      have g5 := cell_regrown y5
      clear e1 e2 e3 e4 e5 zx zy e z1 z2
      have hjn : (j : Int) < (n : Int) := by omega
      replace cS : Hid _ := cS
      go_wp2_with fail
      refine wp_region_quiet_below (by kernel_rfl) (by kernel_rfl) ?_
      repeat (first | go_big_quiet_step (with_reducible exact cS.out _ _) | quiet_step (with_reducible exact cS.out _ _))
      refine wpQuiet_nil ?_
      intro _ hw'
      obtain ⟨⟨dq, osq⟩, hw''⟩ := hw'
      subst hw''
      have hb5 := below_on hb (below_regrown wr dq osq)
      replace x0 := f0 dq osq
      replace y0 := g0 dq osq
      clear f0 f1 f2 f3 f4 f5 g0 g1 g2 g3 g4 g5 x1 x2 x3 x4 x5 y1 y2 y3 y4 y5 cS
      generalize grow (redrawn wr dq) osq = w3 at hb5 x0 y0 ⊢
      have f0 := cell_regrown x0
      have g0 := cell_regrown y0
      go_wp2_with fail
      refine wp_region_quiet_below (by kernel_rfl) (by kernel_rfl) ?_
      repeat (first | go_big_quiet_step (fail) | quiet_step (fail))
      refine wpQuiet_nil ?_
      intro _ hw'
      obtain ⟨⟨dr, osr⟩, hw''⟩ := hw'
      subst hw''
      have hb6 := below_on hb5 (below_regrown w3 dr osr)
      clear f0 g0 x0 y0
      generalize grow (redrawn w3 dr) osr = w4 at hb6 ⊢
      go_wp2_with fail
      all_goals try (exfalso; simp_all; done)
      exact ⟨⟨hb6, j + 1, by omega, rfl⟩, by show n - ((j : Int) + 1).toNat < n - (j : Int).toNat; omega⟩
    · go_wp2_with fail
      go_returns
      exact ⟨by simp, hb⟩
end Go.Proofs.YtmioohbailhppaaDoor
