/-
  Append of null.
-/
import Derived.Test.YtomhgaihmdjdbaaDoorPny
namespace Go.Proofs.YtomhgaihmdjdbaaDoor
open Go.RowKit
set_option linter.unusedSimpArgs false
set_option linter.unusedVariables false

set_option maxRecDepth 100000 in
set_option maxHeartbeats 8000000 in
theorem Append_zero (base x : Nat) (C : Col) (k : Int) (b : Bool) (n : Int) (s : ByteArray) (p : Option Addr) (l c : Nat) (z : List Int) (r : Int) (X' : List ByteArray) (w : World) (hC : ColAt w base x C) (hN : NumOK base x C k b n s p l c r X') (hb : base ≤ w.heap.size) (hz : z.length = l) (hp : PathAt w p z) (hpf : ∀ g off, p = some ⟨g, off, none⟩ → z ≠ [] → ¬ Foot x C g) (hM : C.M.length < 10000000000000) (hL : C.L.length < 10000000000000) (hH : C.Hp.length + l < 10000000000000)
    (e : k ≠ C.k ∧ k = 0) (hR : ∀ w', Below w.heap.size w w' → Calls Tryd.prog 37 #[.agg #[.int .i64 k, .bool b, .int .i64 n, .string s, .slice p l c]] w' fun e w'' => e = .returned (.bool true) ∧ Below w'.heap.size w' w'') :
    Calls Tryd.prog 16 #[.pointer (some ⟨x, 0, none⟩), .agg #[.int .i64 k, .bool b, .int .i64 n, .string s, .slice p l c]] w fun e w' => e = .returned (.int .i64 0) ∧ ∃ C', ColAt w' base x C' ∧ Behind C C' k z r X' ∧ Only (Foot x C) w w' ∧ Kin w x C C' := by
  have hbx := BoxAt.new w k b n s p l c rfl
  have hr := hR _ (((Below.refl _ w).alloc (Nat.le_refl _) (.cells #[.int .i64 k, .bool b, .int .i64 n, .string s, .slice p l c] 39)).drew)
  have hP := fun w' (g : Below w.heap.size w w') => put_any base x C k b n s p l c z r X' w' (hC.below g) hN (Nat.le_trans hb g.size) hz (hp.below g) hpf hM hL hH
  have hO0 : ∀ w', Below w.heap.size w w' → ∀ w'', Only (Foot x C) w' w'' → Only (Foot x C) w w'' := fun w' g w'' o => (Below.only _ g).trans o (fun _ _ h => h)
  have hK0 : ∀ w' C', Below w.heap.size w w' → Kin w' x C C' → Kin w x C C' := fun w' C' g h => Kin.trans (Kin.refl w x C) h g.size
  have hCa := fun w' (g : Below w.heap.size w w') => (hC.below g).vb.c0
  clear hR hC hN hp hpf
  replace hr : Hid _ := hr
  replace hP : Hid _ := hP
  replace hO0 : Hid _ := hO0
  replace hK0 : Hid _ := hK0
  replace hCa : Hid _ := hCa
  obtain ⟨e, h0⟩ := e
  subst h0
  have D := hbx
  obtain ⟨c0, c1, c2, c3, c4, -⟩ := D
  have e' : ((0 : Int) != C.k) = true := by simpa using e
  generalize C.k = kc at *
  clear e
  go_enter Tryd.func16, Tryd.ntmps16
  go_wp2_with fail
  go_region_with (go_at_call 37; refine Calls.mono hr.out ?_; rintro e1 w1 ⟨rfl, g1⟩; have B1 := hbx.below (Below.undrew g1); have G1 := below_on (below_new w _) (Below.undrew g1); have a0 := hCa.out _ G1; obtain ⟨d0, d1, d2, d3, d4, -⟩ := B1)
  all_goals
    go_wp2_with (go_at_call 38; refine Calls.mono (hP.out _ G1) ?_; rintro e2 w2 ⟨rfl, C', hC', hB', hO', hK'⟩)
    go_returns
    exact ⟨rfl, C', hC', hB', hO0.out _ G1 _ hO', hK0.out _ _ G1 hK'⟩
end Go.Proofs.YtomhgaihmdjdbaaDoor
