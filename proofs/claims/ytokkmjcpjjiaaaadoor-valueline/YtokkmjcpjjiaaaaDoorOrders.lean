/-
  ValueOrders: its own walk.
-/
import Derived.Test.YtokkmjcpjjiaaaaDoorPrp
import Derived.Test.YtokkmjcpjjiaaaaDoorEq1
import Derived.Test.YtokkmjcpjjiaaaaDoorEq2
import Derived.Test.YtokkmjcpjjiaaaaDoorLe1
import Derived.Test.YtokkmjcpjjiaaaaDoorLe2
import Derived.Test.YtokkmjcpjjiaaaaDoorTru
namespace Go.Proofs.YtokkmjcpjjiaaaaDoor
open Go.RowKit
set_option linter.unusedSimpArgs false
set_option linter.unusedVariables false

theorem sign_any (n : Int) (h : n = -1 ∨ n = 0 ∨ n = 1) (w : World) : Calls Tryd.prog 20 #[.int .i64 n] w fun e w' => e = .returned (.int .i64 n) ∧ w' = w := by
  rcases h with rfl | rfl | rfl
  all_goals
    go_enter Tryd.func20, Tryd.ntmps20
    go_wp2
    go_returns
    exact ⟨rfl, rfl⟩

set_option maxRecDepth 100000 in
set_option maxHeartbeats 4000000 in
theorem Orders_walk (k1 : Int) (b1 : Bool) (n1 : Int) (s1 : ByteArray) (p1 : Option Addr) (l1 c1 : Nat) (z1 : List Int) (k2 : Int) (b2 : Bool) (n2 : Int) (s2 : ByteArray) (p2 : Option Addr) (l2 c2 : Nat) (z2 : List Int) (w : World) (h1 : z1.length = l1) (h2 : z2.length = l2) (q1 : PathAt w p1 z1) (q2 : PathAt w p2 z2) (m1 : l1 ≤ maxLen) (m2 : l2 ≤ maxLen) (ht : w.cell? ⟨3, 0, none⟩ = some (.int .u64 1)) :
    Calls Tryd.prog 4 #[vv k1 b1 n1 s1 p1 l1 c1, vv k2 b2 n2 s2 p2 l2 c2] w fun e w' => e = .returned (.bool true) ∧ Below w.heap.size w w' := by
  have hO := fun w a b => Order_any k1 b1 n1 s1 p1 l1 c1 z1 k2 b2 n2 s2 p2 l2 c2 z2 w h1 h2 a b m1 m2
  have hRO := fun w a b => refOrder_any k1 b1 n1 s1 p1 l1 c1 z1 k2 b2 n2 s2 p2 l2 c2 z2 w h1 h2 a b m1 m2
  have hE := fun w a b => Equal_any k1 b1 n1 s1 p1 l1 c1 z1 k2 b2 n2 s2 p2 l2 c2 z2 w h1 h2 a b m1 m2
  have hRE := fun w a b => refEqual_any k1 b1 n1 s1 p1 l1 c1 z1 k2 b2 n2 s2 p2 l2 c2 z2 w h1 h2 a b m1 m2
  have hL := fun w a b => Less_any k1 b1 n1 s1 p1 l1 c1 z1 k2 b2 n2 s2 p2 l2 c2 z2 w h1 h2 a b m1 m2
  have hRL := fun w a b => refLess_any k1 b1 n1 s1 p1 l1 c1 z1 k2 b2 n2 s2 p2 l2 c2 z2 w h1 h2 a b m1 m2
  have h3 := ordV_three k1 b1 n1 s1 z1 k2 b2 n2 s2 z2
  generalize ordV k1 b1 n1 s1 z1 k2 b2 n2 s2 z2 = ov at *
  have hsg := fun w => sign_any ov h3 w
  obtain ⟨kE, bE, heT⟩ := eqT_tv k1 k2 ov
  obtain ⟨kL, bL, hlT⟩ := lessT_tv k1 k2 ov
  rw [heT] at hE hRE
  rw [hlT] at hL hRL
  have sm := same_tv
  unfold tv vv at *
  clear heT hlT h3 h1 h2
  have hb1 := (BoxAt.new w k1 b1 n1 s1 p1 l1 c1 rfl).alloc (.cells #[.int .i64 k2, .bool b2, .int .i64 n2, .string s2, .slice p2 l2 c2] 25)
  have hb2 := BoxAt.new (w.alloc (.cells #[.int .i64 k1, .bool b1, .int .i64 n1, .string s1, .slice p1 l1 c1] 25)) k2 b2 n2 s2 p2 l2 c2 (x := w.heap.size + 1) (by simp)
  have g1 := (q1.alloc (.cells #[.int .i64 k1, .bool b1, .int .i64 n1, .string s1, .slice p1 l1 c1] 25)).alloc (.cells #[.int .i64 k2, .bool b2, .int .i64 n2, .string s2, .slice p2 l2 c2] 25)
  have g2 := (q2.alloc (.cells #[.int .i64 k1, .bool b1, .int .i64 n1, .string s1, .slice p1 l1 c1] 25)).alloc (.cells #[.int .i64 k2, .bool b2, .int .i64 n2, .string s2, .slice p2 l2 c2] 25)
  clear q1 q2
  replace hO : Hid _ := hO
  replace hRO : Hid _ := hRO
  replace hE : Hid _ := hE
  replace hRE : Hid _ := hRE
  replace hL : Hid _ := hL
  replace hRL : Hid _ := hRL
  go_enter Tryd.func4, Tryd.ntmps4
  go_wp2_with (go_at_call 9; refine (head_any _ (cell_keep _ (cell_keep _ ht))).mono ?_; rintro e w1 ⟨rfl, hh⟩)
  have B1 := hb1.below hh.drew
  have B2 := hb2.below hh.drew
  have Q1 := g1.below hh.drew
  have Q2 := g2.below hh.drew
  have h0 := below_on (below_on (below_new w _) (below_new _ _)) hh.drew
  clear hh hb1 hb2 ht g1 g2
  go_region_held3 (fun w' => w'.cell? ⟨w.heap.size, 0, none⟩ = some (.int .i64 k1) ∧ w'.cell? ⟨w.heap.size, 1, none⟩ = some (.bool b1) ∧ w'.cell? ⟨w.heap.size, 2, none⟩ = some (.int .i64 n1) ∧ w'.cell? ⟨w.heap.size, 3, none⟩ = some (.string s1) ∧ w'.cell? ⟨w.heap.size, 4, none⟩ = some (.slice p1 l1 c1) ∧ w'.cell? ⟨w.heap.size + 1, 0, none⟩ = some (.int .i64 k2) ∧ w'.cell? ⟨w.heap.size + 1, 1, none⟩ = some (.bool b2) ∧ w'.cell? ⟨w.heap.size + 1, 2, none⟩ = some (.int .i64 n2) ∧ w'.cell? ⟨w.heap.size + 1, 3, none⟩ = some (.string s2) ∧ w'.cell? ⟨w.heap.size + 1, 4, none⟩ = some (.slice p2 l2 c2))
    (exact two_cells B1 B2)
    (first
      | (go_at_call 21; refine Calls.mono (hO.out _ Q1 Q2) ?_; rintro e wx ⟨rfl, hx⟩; replace B1 := B1.below hx; replace B2 := B2.below hx; replace Q1 := Q1.below hx; replace Q2 := Q2.below hx; replace h0 := below_on h0 hx; clear hx)
      | (go_at_call 20; refine Calls.mono (hsg _) ?_; rintro e wx ⟨rfl, hwx⟩; subst hwx)
      | (go_at_call 22; refine Calls.mono (hRO.out _ Q1 Q2) ?_; rintro e wx ⟨rfl, hx⟩; replace B1 := B1.below hx; replace B2 := B2.below hx; replace Q1 := Q1.below hx; replace Q2 := Q2.below hx; replace h0 := below_on h0 hx; clear hx))
  clear hO hRO hsg
  go_wp2_with fail
  replace B1 := B1.below (w' := World.drew _) (Below.refl _ _).drew
  replace B2 := B2.below (w' := World.drew _) (Below.refl _ _).drew
  replace Q1 := Q1.below (w' := World.drew _) (Below.refl _ _).drew
  replace Q2 := Q2.below (w' := World.drew _) (Below.refl _ _).drew
  replace h0 := h0.drew
  go_region_held3 (fun w' => w'.cell? ⟨w.heap.size, 0, none⟩ = some (.int .i64 k1) ∧ w'.cell? ⟨w.heap.size, 1, none⟩ = some (.bool b1) ∧ w'.cell? ⟨w.heap.size, 2, none⟩ = some (.int .i64 n1) ∧ w'.cell? ⟨w.heap.size, 3, none⟩ = some (.string s1) ∧ w'.cell? ⟨w.heap.size, 4, none⟩ = some (.slice p1 l1 c1) ∧ w'.cell? ⟨w.heap.size + 1, 0, none⟩ = some (.int .i64 k2) ∧ w'.cell? ⟨w.heap.size + 1, 1, none⟩ = some (.bool b2) ∧ w'.cell? ⟨w.heap.size + 1, 2, none⟩ = some (.int .i64 n2) ∧ w'.cell? ⟨w.heap.size + 1, 3, none⟩ = some (.string s2) ∧ w'.cell? ⟨w.heap.size + 1, 4, none⟩ = some (.slice p2 l2 c2))
    (exact two_cells B1 B2)
    (first
      | (go_at_call 23; refine Calls.mono (hE.out _ Q1 Q2) ?_; rintro e wx ⟨rfl, hx⟩; replace B1 := B1.below hx; replace B2 := B2.below hx; replace Q1 := Q1.below hx; replace Q2 := Q2.below hx; replace h0 := below_on h0 hx; clear hx)
      | (go_at_call 24; refine Calls.mono (hRE.out _ Q1 Q2) ?_; rintro e wx ⟨rfl, hx⟩; replace B1 := B1.below hx; replace B2 := B2.below hx; replace Q1 := Q1.below hx; replace Q2 := Q2.below hx; replace h0 := below_on h0 hx; clear hx)
      | (go_at_call 19; refine Calls.mono (sm _ _ _) ?_; rintro e wx ⟨rfl, hx⟩; replace B1 := B1.below hx; replace B2 := B2.below hx; replace Q1 := Q1.below hx; replace Q2 := Q2.below hx; replace h0 := below_on h0 hx; clear hx))
  clear hE hRE
  go_wp2_with fail
  replace B1 := B1.below (w' := World.drew _) (Below.refl _ _).drew
  replace B2 := B2.below (w' := World.drew _) (Below.refl _ _).drew
  replace Q1 := Q1.below (w' := World.drew _) (Below.refl _ _).drew
  replace Q2 := Q2.below (w' := World.drew _) (Below.refl _ _).drew
  replace h0 := h0.drew
  go_region_held3 (fun w' => w'.cell? ⟨w.heap.size, 0, none⟩ = some (.int .i64 k1) ∧ w'.cell? ⟨w.heap.size, 1, none⟩ = some (.bool b1) ∧ w'.cell? ⟨w.heap.size, 2, none⟩ = some (.int .i64 n1) ∧ w'.cell? ⟨w.heap.size, 3, none⟩ = some (.string s1) ∧ w'.cell? ⟨w.heap.size, 4, none⟩ = some (.slice p1 l1 c1) ∧ w'.cell? ⟨w.heap.size + 1, 0, none⟩ = some (.int .i64 k2) ∧ w'.cell? ⟨w.heap.size + 1, 1, none⟩ = some (.bool b2) ∧ w'.cell? ⟨w.heap.size + 1, 2, none⟩ = some (.int .i64 n2) ∧ w'.cell? ⟨w.heap.size + 1, 3, none⟩ = some (.string s2) ∧ w'.cell? ⟨w.heap.size + 1, 4, none⟩ = some (.slice p2 l2 c2))
    (exact two_cells B1 B2)
    (first
      | (go_at_call 25; refine Calls.mono (hL.out _ Q1 Q2) ?_; rintro e wx ⟨rfl, hx⟩; replace B1 := B1.below hx; replace B2 := B2.below hx; replace Q1 := Q1.below hx; replace Q2 := Q2.below hx; replace h0 := below_on h0 hx; clear hx)
      | (go_at_call 26; refine Calls.mono (hRL.out _ Q1 Q2) ?_; rintro e wx ⟨rfl, hx⟩; replace B1 := B1.below hx; replace B2 := B2.below hx; replace Q1 := Q1.below hx; replace Q2 := Q2.below hx; replace h0 := below_on h0 hx; clear hx)
      | (go_at_call 19; refine Calls.mono (sm _ _ _) ?_; rintro e wx ⟨rfl, hx⟩; replace B1 := B1.below hx; replace B2 := B2.below hx; replace Q1 := Q1.below hx; replace Q2 := Q2.below hx; replace h0 := below_on h0 hx; clear hx))
  go_wp2_with fail
  go_returns
  exact ⟨rfl, h0⟩
end Go.Proofs.YtokkmjcpjjiaaaaDoor
