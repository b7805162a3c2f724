/-
  Are two lists of types alike: SameTypes.
-/
import Derived.Test.YtmioohbailhppaaDoorCpt
import Derived.Lib.QuietBelow
import Derived.BigQuiet
namespace Go.Proofs.YtmioohbailhppaaDoor
open Go.RowKit Go.Sort
set_option linter.unusedSimpArgs false
set_option linter.unusedVariables false

set_option maxRecDepth 100000 in
set_option maxHeartbeats 2000000 in
theorem sameTypes_yes (a : Option Addr) (n c : Nat) (L : List TD) (a2 : Option Addr) (c2 : Nat) (M : List TD) (w : World) (hL : L.length = n) (hM : M.length = n) (hm : n ≤ maxLen) (h1 : TDsAt w a L) (h2 : TDsAt w a2 M) (e : ∀ i, i < n → tC (L.getD i default) = tC (M.getD i default)) :
    Calls Tryd.prog 33 #[.slice a n c, .slice a2 n c2] w fun e w' => e = .returned (.bool true) ∧ Below w.heap.size w w' := by
  unfold maxLen at hm
  go_enter Tryd.func33, Tryd.ntmps33
  go_wp2_with fail
  go_loopw [5] (fun i wr => Below w.heap.size w wr ∧ ∃ j : Nat, j ≤ n ∧ i = .int .i64 j) (fun i _ => n - (intOf i).toNat)
  case atStart => exact ⟨by first | exact Below.refl _ _ | go_grown, 0, by omega, rfl⟩
  case round =>
    obtain ⟨hb, j, j1, rfl⟩ := hrel
    by_cases hj : j < n
    · rcases h1.below hb with rfl | ⟨g, o, rfl, k1⟩
      · simp at hL; omega
      rcases h2.below hb with rfl | ⟨g', o', rfl, k2⟩
      · simp at hM; omega
      have kx := k1 j (by omega)
      have ky := k2 j (by omega)
      have ej := e j hj
      generalize L.getD j default = X at kx ej
      generalize M.getD j default = Y at ky ej
      simp only [tC, Prod.mk.injEq] at ej
      obtain ⟨e1, e2⟩ := ej
      obtain ⟨x0, x1, xa, xb, xc, xd, xe⟩ := kx
      obtain ⟨y0, y1, ya, yb, yc, yd, ye⟩ := ky
      have el : Y.l = X.l := by rw [← xb, ← yb, e2]
      rw [el] at y1
      rw [← e1] at y0
      rw [← e2] at ye
      have f0 := cell_regrown x0
      have f1 := cell_regrown x1
      have g0 := cell_regrown y0
      have g1 := cell_regrown y1
      have hjn : (j : Int) < (n : Int) := by omega
      unfold maxLen at xd
      clear e1 e2 yb ya e
      go_wp2_with fail
      refine wp_region_quiet_below (by kernel_rfl) (by kernel_rfl) ?_
      repeat (first | go_big_quiet_step (fail) | quiet_step (fail))
      refine wpQuiet_nil ?_
      intro _ hw'
      obtain ⟨⟨dq, osq⟩, hw''⟩ := hw'
      subst hw''
      have hbq := below_regrown wr dq osq
      have hb5 := below_on hb hbq
      replace x1 := f1 dq osq
      replace y1 := g1 dq osq
      replace xe := xe.below hbq
      replace ye := ye.below hbq
      clear f0 f1 g0 g1 x0 y0 hbq
      generalize grow (redrawn wr dq) osq = w3 at hb5 x1 y1 xe ye ⊢
      go_wp2_with fail
      all_goals try (exfalso; simp_all; done)
      go_loopw [6] (fun i wr => Below w3.heap.size w3 wr ∧ ∃ q : Nat, q ≤ X.l ∧ i = .int .i64 q) (fun i _ => X.l - (intOf i).toNat)
      case atStart => exact ⟨Below.refl _ _, 0, by omega, rfl⟩
      case round =>
        obtain ⟨hbi, q, q1, rfl⟩ := hrel
        have u1 := (hbi.cell (World.block_lt_of_cell? _ _ x1)).trans x1
        have v1 := (hbi.cell (World.block_lt_of_cell? _ _ y1)).trans y1
        by_cases hq : q < X.l
        · rcases xe.below hbi with hx0 | ⟨m, mo, hXp, mk⟩
          · rw [hx0] at xb; simp at xb; omega
          rcases ye.below hbi with hx0 | ⟨m', mo', hYp, mk'⟩
          · rw [hx0] at xb; simp at xb; omega
          have kq := mk q (by omega)
          have kq' := mk' q (by omega)
          generalize X.ps.getD q default = D at kq kq'
          obtain ⟨d0, d1, _⟩ := kq
          obtain ⟨d0', d1', _⟩ := kq'
          rw [hXp] at u1
          rw [hYp] at v1
          have f1 := cell_regrown u1
          have g1 := cell_regrown v1
          have i0 := cell_regrown d0
          have i1 := cell_regrown d1
          have j0 := cell_regrown d0'
          have j1' := cell_regrown d1'
          have hqn : (q : Int) < (X.l : Int) := by omega
          clear xb xe ye
          go_wp2_with fail
          refine wp_region_quiet_below (by kernel_rfl) (by kernel_rfl) ?_
          repeat (first | go_big_quiet_step (fail) | quiet_step (fail))
          refine wpQuiet_nil ?_
          intro _ hw'
          obtain ⟨⟨dr, osr⟩, hw''⟩ := hw'
          subst hw''
          have hb6 := below_on hbi (below_regrown _ dr osr)
          clear f1 g1 i0 i1 j0 j1' d0 d1 d0' d1' u1 v1
          go_wp2_with fail
          all_goals try (exfalso; simp_all; done)
          exact ⟨⟨hb6, q + 1, by omega, rfl⟩, by show X.l - ((q : Int) + 1).toNat < X.l - (q : Int).toNat; omega⟩
        · go_wp2_with fail
          exact ⟨⟨below_on hb5 hbi, j + 1, by omega, rfl⟩, by show n - ((j : Int) + 1).toNat < n - (j : Int).toNat; omega⟩
    · go_wp2_with fail
      go_returns
      exact ⟨by simp, hb⟩
end Go.Proofs.YtmioohbailhppaaDoor
