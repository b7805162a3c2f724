/-
  ValueLesses: its own walk.
-/
import Derived.Test.YtokkmjcpjjiaaacDoorPrp
import Derived.Test.YtokkmjcpjjiaaacDoorEq1
import Derived.Test.YtokkmjcpjjiaaacDoorLe1
import Derived.Test.YtokkmjcpjjiaaacDoorLe2
import Derived.Test.YtokkmjcpjjiaaacDoorTru
namespace Go.Proofs.YtokkmjcpjjiaaacDoor
open Go.RowKit
set_option linter.unusedSimpArgs false
set_option linter.unusedVariables false
theorem three_cells {w' : World} {x y z : Nat} {k1 : Int} {b1 : Bool} {n1 : Int} {s1 : ByteArray} {p1 : Option Addr} {l1 c1 : Nat} {k2 : Int} {b2 : Bool} {n2 : Int} {s2 : ByteArray} {p2 : Option Addr} {l2 c2 : Nat} {k3 : Int} {b3 : Bool} {n3 : Int} {s3 : ByteArray} {p3 : Option Addr} {l3 c3 : Nat} (h : BoxAt w' x k1 b1 n1 s1 p1 l1 c1) (g : BoxAt w' y k2 b2 n2 s2 p2 l2 c2) (m : BoxAt w' z k3 b3 n3 s3 p3 l3 c3) :
    w'.cell? ⟨x, 0, none⟩ = some (.int .i64 k1) ∧ w'.cell? ⟨x, 1, none⟩ = some (.bool b1) ∧ w'.cell? ⟨x, 2, none⟩ = some (.int .i64 n1) ∧ w'.cell? ⟨x, 3, none⟩ = some (.string s1) ∧ w'.cell? ⟨x, 4, none⟩ = some (.slice p1 l1 c1) ∧ w'.cell? ⟨y, 0, none⟩ = some (.int .i64 k2) ∧ w'.cell? ⟨y, 1, none⟩ = some (.bool b2) ∧ w'.cell? ⟨y, 2, none⟩ = some (.int .i64 n2) ∧ w'.cell? ⟨y, 3, none⟩ = some (.string s2) ∧ w'.cell? ⟨y, 4, none⟩ = some (.slice p2 l2 c2) ∧ w'.cell? ⟨z, 0, none⟩ = some (.int .i64 k3) ∧ w'.cell? ⟨z, 1, none⟩ = some (.bool b3) ∧ w'.cell? ⟨z, 2, none⟩ = some (.int .i64 n3) ∧ w'.cell? ⟨z, 3, none⟩ = some (.string s3) ∧ w'.cell? ⟨z, 4, none⟩ = some (.slice p3 l3 c3) :=
  ⟨h.c0, h.c1, h.c2, h.c3, h.c4, g.c0, g.c1, g.c2, g.c3, g.c4, m.c0, m.c1, m.c2, m.c3, m.c4⟩
theorem field1 (k : Int) (b : Bool) (w : World) : (Instr.field 25 (.agg #[.int .i64 k, .bool b, .int .i64 0, .string ⟨#[]⟩, .slice none 0 0]) 1).run Tryd.prog w = .ok (.bool b) w := by kernel_rfl

set_option maxRecDepth 100000 in
set_option maxHeartbeats 4000000 in
theorem Lesses_walk (k1 : Int) (b1 : Bool) (n1 : Int) (s1 : ByteArray) (p1 : Option Addr) (l1 c1 : Nat) (z1 : List Int) (k2 : Int) (b2 : Bool) (n2 : Int) (s2 : ByteArray) (p2 : Option Addr) (l2 c2 : Nat) (z2 : List Int) (w : World) (h1 : z1.length = l1) (h2 : z2.length = l2) (q1 : PathAt w p1 z1) (q2 : PathAt w p2 z2) (m1 : l1 ≤ maxLen) (m2 : l2 ≤ maxLen) (ht : w.cell? ⟨3, 0, none⟩ = some (.int .u64 1)) :
    Calls Tryd.prog 6 #[vv k1 b1 n1 s1 p1 l1 c1, vv k2 b2 n2 s2 p2 l2 c2] w fun e w' => e = .returned (.bool true) ∧ Below w.heap.size w w' := by
  have hL := fun w a b => Less_any k1 b1 n1 s1 p1 l1 c1 z1 k2 b2 n2 s2 p2 l2 c2 z2 w h1 h2 a b m1 m2
  have hM := fun w a b => Less_any k2 b2 n2 s2 p2 l2 c2 z2 k1 b1 n1 s1 p1 l1 c1 z1 w h2 h1 b a m2 m1
  have hE := fun w a b => Equal_any k1 b1 n1 s1 p1 l1 c1 z1 k2 b2 n2 s2 p2 l2 c2 z2 w h1 h2 a b m1 m2
  have hRL := fun w a b => refLess_any k1 b1 n1 s1 p1 l1 c1 z1 k2 b2 n2 s2 p2 l2 c2 z2 w h1 h2 a b m1 m2
  rw [ordV_neg k1 b1 n1 s1 z1 k2 b2 n2 s2 z2] at hM
  have h3 := ordV_three k1 b1 n1 s1 z1 k2 b2 n2 s2 z2
  generalize ordV k1 b1 n1 s1 z1 k2 b2 n2 s2 z2 = ov at *
  have sm := same_tv
  by_cases hk : k1 = k2
  case neg =>
    obtain ⟨kL, bL, hlT⟩ := lessT_tv k1 k2 ov
    obtain ⟨kM, bM, hmT⟩ := lessT_tv k2 k1 (-ov)
    rw [hlT] at hL hRL
    rw [hmT] at hM
    clear hlT hmT h1 h2 h3 hE
    simp only [tv, vv] at hL hM hRL sm ⊢
    replace hL : Hid _ := hL
    replace hM : Hid _ := hM
    replace hRL : Hid _ := hRL
    have hb1 := (BoxAt.new w k1 b1 n1 s1 p1 l1 c1 rfl).alloc (.cells #[.int .i64 k2, .bool b2, .int .i64 n2, .string s2, .slice p2 l2 c2] 25)
    have hb2 := BoxAt.new (w.alloc (.cells #[.int .i64 k1, .bool b1, .int .i64 n1, .string s1, .slice p1 l1 c1] 25)) k2 b2 n2 s2 p2 l2 c2 (x := w.heap.size + 1) (by simp)
    have g1 := (q1.alloc (.cells #[.int .i64 k1, .bool b1, .int .i64 n1, .string s1, .slice p1 l1 c1] 25)).alloc (.cells #[.int .i64 k2, .bool b2, .int .i64 n2, .string s2, .slice p2 l2 c2] 25)
    have g2 := (q2.alloc (.cells #[.int .i64 k1, .bool b1, .int .i64 n1, .string s1, .slice p1 l1 c1] 25)).alloc (.cells #[.int .i64 k2, .bool b2, .int .i64 n2, .string s2, .slice p2 l2 c2] 25)
    clear q1 q2
    go_enter Tryd.func6, Tryd.ntmps6
    go_wp2_with (first
      | (go_at_call 7; refine (head_any _ (cell_keep _ (cell_keep _ ht))).mono ?_; rintro e w1 ⟨rfl, hh⟩; have B1 := hb1.below hh; have B2 := hb2.below hh; have Q1 := g1.below hh; have Q2 := g2.below hh; have h0 := below_on (below_on (below_new w _) (below_new _ _)) hh; clear hh hb1 hb2 ht g1 g2; have D1 := B1; have D2 := B2; obtain ⟨i0, i1, i2, i3, i4, -⟩ := D1; obtain ⟨j0, j1, j2, j3, j4, -⟩ := D2)
      | (go_at_call 15; with_reducible refine Calls.mono (hL.out _ Q1 Q2) ?_; rintro e w2 ⟨rfl, hx⟩; replace B1 := (B1.below hx).alloc (.cells #[.int .i64 kL, .bool bL, .int .i64 0, .string ⟨#[]⟩, .slice none 0 0] 25); replace B2 := (B2.below hx).alloc (.cells #[.int .i64 kL, .bool bL, .int .i64 0, .string ⟨#[]⟩, .slice none 0 0] 25); replace Q1 := (Q1.below hx).alloc (.cells #[.int .i64 kL, .bool bL, .int .i64 0, .string ⟨#[]⟩, .slice none 0 0] 25); replace Q2 := (Q2.below hx).alloc (.cells #[.int .i64 kL, .bool bL, .int .i64 0, .string ⟨#[]⟩, .slice none 0 0] 25); replace h0 := below_on (below_on h0 hx) (below_new _ (.cells #[.int .i64 kL, .bool bL, .int .i64 0, .string ⟨#[]⟩, .slice none 0 0] 25)); have BX := BoxAt.new w2 kL bL 0 ⟨#[]⟩ none 0 0 rfl; clear hx i0 i1 i2 i3 i4 j0 j1 j2 j3 j4; have D1 := B1; have D2 := B2; obtain ⟨i0, i1, i2, i3, i4, -⟩ := D1; obtain ⟨j0, j1, j2, j3, j4, -⟩ := D2)
      | (go_at_call 15; with_reducible refine Calls.mono (hM.out _ Q1 Q2) ?_; rintro e w3 ⟨rfl, hx⟩; replace B1 := (B1.below hx).alloc (.cells #[.int .i64 kM, .bool bM, .int .i64 0, .string ⟨#[]⟩, .slice none 0 0] 25); replace B2 := (B2.below hx).alloc (.cells #[.int .i64 kM, .bool bM, .int .i64 0, .string ⟨#[]⟩, .slice none 0 0] 25); replace Q1 := (Q1.below hx).alloc (.cells #[.int .i64 kM, .bool bM, .int .i64 0, .string ⟨#[]⟩, .slice none 0 0] 25); replace Q2 := (Q2.below hx).alloc (.cells #[.int .i64 kM, .bool bM, .int .i64 0, .string ⟨#[]⟩, .slice none 0 0] 25); replace h0 := below_on (below_on h0 hx) (below_new _ (.cells #[.int .i64 kM, .bool bM, .int .i64 0, .string ⟨#[]⟩, .slice none 0 0] 25)); replace BX := (BX.below hx).alloc (.cells #[.int .i64 kM, .bool bM, .int .i64 0, .string ⟨#[]⟩, .slice none 0 0] 25); have BY := BoxAt.new w3 kM bM 0 ⟨#[]⟩ none 0 0 rfl; clear hx i0 i1 i2 i3 i4 j0 j1 j2 j3 j4; have D1 := B1; have D2 := B2; obtain ⟨i0, i1, i2, i3, i4, -⟩ := D1; obtain ⟨j0, j1, j2, j3, j4, -⟩ := D2; have D3 := BX; have D4 := BY; obtain ⟨x0, x1, x2, x3, x4, -⟩ := D3; obtain ⟨y0, y1, y2, y3, y4, -⟩ := D4))
    clear i0 i1 i2 i3 i4 j0 j1 j2 j3 j4 x0 x1 x2 x3 x4 y0 y1 y2 y3 y4 BY
    replace B1 := B1.below (w' := World.drew _) (Below.refl _ _).drew
    replace B2 := B2.below (w' := World.drew _) (Below.refl _ _).drew
    replace BX := BX.below (w' := World.drew _) (Below.refl _ _).drew
    replace Q1 := Q1.below (w' := World.drew _) (Below.refl _ _).drew
    replace Q2 := Q2.below (w' := World.drew _) (Below.refl _ _).drew
    replace h0 := h0.drew
    go_region_held3 (fun w' => w'.cell? ⟨w.heap.size, 0, none⟩ = some (.int .i64 k1) ∧ w'.cell? ⟨w.heap.size, 1, none⟩ = some (.bool b1) ∧ w'.cell? ⟨w.heap.size, 2, none⟩ = some (.int .i64 n1) ∧ w'.cell? ⟨w.heap.size, 3, none⟩ = some (.string s1) ∧ w'.cell? ⟨w.heap.size, 4, none⟩ = some (.slice p1 l1 c1) ∧ w'.cell? ⟨w.heap.size + 1, 0, none⟩ = some (.int .i64 k2) ∧ w'.cell? ⟨w.heap.size + 1, 1, none⟩ = some (.bool b2) ∧ w'.cell? ⟨w.heap.size + 1, 2, none⟩ = some (.int .i64 n2) ∧ w'.cell? ⟨w.heap.size + 1, 3, none⟩ = some (.string s2) ∧ w'.cell? ⟨w.heap.size + 1, 4, none⟩ = some (.slice p2 l2 c2) ∧ w'.cell? ⟨w2.heap.size, 0, none⟩ = some (.int .i64 kL) ∧ w'.cell? ⟨w2.heap.size, 1, none⟩ = some (.bool bL) ∧ w'.cell? ⟨w2.heap.size, 2, none⟩ = some (.int .i64 0) ∧ w'.cell? ⟨w2.heap.size, 3, none⟩ = some (.string ⟨#[]⟩) ∧ w'.cell? ⟨w2.heap.size, 4, none⟩ = some (.slice none 0 0))
      (exact three_cells B1 B2 BX)
      (first
        | (go_at_call 16; refine Calls.mono (hRL.out _ Q1 Q2) ?_; rintro e wx ⟨rfl, hx⟩; replace B1 := B1.below hx; replace B2 := B2.below hx; replace BX := BX.below hx; replace Q1 := Q1.below hx; replace Q2 := Q2.below hx; replace h0 := below_on h0 hx; clear hx)
        | (go_at_call 8; refine Calls.mono (sm _ _ _) ?_; rintro e wx ⟨rfl, hx⟩; replace B1 := B1.below hx; replace B2 := B2.below hx; replace BX := BX.below hx; replace Q1 := Q1.below hx; replace Q2 := Q2.below hx; replace h0 := below_on h0 hx; clear hx))
    go_wp2_with fail
    go_returns
    exact ⟨rfl, h0⟩
  case pos =>
  subst hk
  by_cases c0 : k1 = 0
  · subst c0
    obtain ⟨kL, bL, hlT⟩ := lessT_tv 0 0 ov
    obtain ⟨kM, bM, hmT⟩ := lessT_tv 0 0 (-ov)
    rw [hlT] at hL hRL
    rw [hmT] at hM
    clear hlT hmT h1 h2 h3 hE
    simp only [tv, vv] at hL hM hRL sm ⊢
    replace hL : Hid _ := hL
    replace hM : Hid _ := hM
    replace hRL : Hid _ := hRL
    have hb1 := (BoxAt.new w 0 b1 n1 s1 p1 l1 c1 rfl).alloc (.cells #[.int .i64 0, .bool b2, .int .i64 n2, .string s2, .slice p2 l2 c2] 25)
    have hb2 := BoxAt.new (w.alloc (.cells #[.int .i64 0, .bool b1, .int .i64 n1, .string s1, .slice p1 l1 c1] 25)) 0 b2 n2 s2 p2 l2 c2 (x := w.heap.size + 1) (by simp)
    have g1 := (q1.alloc (.cells #[.int .i64 0, .bool b1, .int .i64 n1, .string s1, .slice p1 l1 c1] 25)).alloc (.cells #[.int .i64 0, .bool b2, .int .i64 n2, .string s2, .slice p2 l2 c2] 25)
    have g2 := (q2.alloc (.cells #[.int .i64 0, .bool b1, .int .i64 n1, .string s1, .slice p1 l1 c1] 25)).alloc (.cells #[.int .i64 0, .bool b2, .int .i64 n2, .string s2, .slice p2 l2 c2] 25)
    clear q1 q2
    go_enter Tryd.func6, Tryd.ntmps6
    go_wp2_with (first
      | (go_at_call 7; refine (head_any _ (cell_keep _ (cell_keep _ ht))).mono ?_; rintro e w1 ⟨rfl, hh⟩; have B1 := hb1.below hh; have B2 := hb2.below hh; have Q1 := g1.below hh; have Q2 := g2.below hh; have h0 := below_on (below_on (below_new w _) (below_new _ _)) hh; clear hh hb1 hb2 ht g1 g2; have D1 := B1; have D2 := B2; obtain ⟨i0, i1, i2, i3, i4, -⟩ := D1; obtain ⟨j0, j1, j2, j3, j4, -⟩ := D2)
      | (go_at_call 15; with_reducible refine Calls.mono (hL.out _ Q1 Q2) ?_; rintro e w2 ⟨rfl, hx⟩; replace B1 := (B1.below hx).alloc (.cells #[.int .i64 kL, .bool bL, .int .i64 0, .string ⟨#[]⟩, .slice none 0 0] 25); replace B2 := (B2.below hx).alloc (.cells #[.int .i64 kL, .bool bL, .int .i64 0, .string ⟨#[]⟩, .slice none 0 0] 25); replace Q1 := (Q1.below hx).alloc (.cells #[.int .i64 kL, .bool bL, .int .i64 0, .string ⟨#[]⟩, .slice none 0 0] 25); replace Q2 := (Q2.below hx).alloc (.cells #[.int .i64 kL, .bool bL, .int .i64 0, .string ⟨#[]⟩, .slice none 0 0] 25); replace h0 := below_on (below_on h0 hx) (below_new _ (.cells #[.int .i64 kL, .bool bL, .int .i64 0, .string ⟨#[]⟩, .slice none 0 0] 25)); have BX := BoxAt.new w2 kL bL 0 ⟨#[]⟩ none 0 0 rfl; clear hx i0 i1 i2 i3 i4 j0 j1 j2 j3 j4; have D1 := B1; have D2 := B2; obtain ⟨i0, i1, i2, i3, i4, -⟩ := D1; obtain ⟨j0, j1, j2, j3, j4, -⟩ := D2)
      | (go_at_call 15; with_reducible refine Calls.mono (hM.out _ Q1 Q2) ?_; rintro e w3 ⟨rfl, hx⟩; replace B1 := (B1.below hx).alloc (.cells #[.int .i64 kM, .bool bM, .int .i64 0, .string ⟨#[]⟩, .slice none 0 0] 25); replace B2 := (B2.below hx).alloc (.cells #[.int .i64 kM, .bool bM, .int .i64 0, .string ⟨#[]⟩, .slice none 0 0] 25); replace Q1 := (Q1.below hx).alloc (.cells #[.int .i64 kM, .bool bM, .int .i64 0, .string ⟨#[]⟩, .slice none 0 0] 25); replace Q2 := (Q2.below hx).alloc (.cells #[.int .i64 kM, .bool bM, .int .i64 0, .string ⟨#[]⟩, .slice none 0 0] 25); replace h0 := below_on (below_on h0 hx) (below_new _ (.cells #[.int .i64 kM, .bool bM, .int .i64 0, .string ⟨#[]⟩, .slice none 0 0] 25)); replace BX := (BX.below hx).alloc (.cells #[.int .i64 kM, .bool bM, .int .i64 0, .string ⟨#[]⟩, .slice none 0 0] 25); have BY := BoxAt.new w3 kM bM 0 ⟨#[]⟩ none 0 0 rfl; clear hx i0 i1 i2 i3 i4 j0 j1 j2 j3 j4; have D1 := B1; have D2 := B2; obtain ⟨i0, i1, i2, i3, i4, -⟩ := D1; obtain ⟨j0, j1, j2, j3, j4, -⟩ := D2; have D3 := BX; have D4 := BY; obtain ⟨x0, x1, x2, x3, x4, -⟩ := D3; obtain ⟨y0, y1, y2, y3, y4, -⟩ := D4))
    clear i0 i1 i2 i3 i4 j0 j1 j2 j3 j4 x0 x1 x2 x3 x4 y0 y1 y2 y3 y4 BY
    replace B1 := B1.below (w' := World.drew _) (Below.refl _ _).drew
    replace B2 := B2.below (w' := World.drew _) (Below.refl _ _).drew
    replace BX := BX.below (w' := World.drew _) (Below.refl _ _).drew
    replace Q1 := Q1.below (w' := World.drew _) (Below.refl _ _).drew
    replace Q2 := Q2.below (w' := World.drew _) (Below.refl _ _).drew
    replace h0 := h0.drew
    go_region_held3 (fun w' => w'.cell? ⟨w.heap.size, 0, none⟩ = some (.int .i64 0) ∧ w'.cell? ⟨w.heap.size, 1, none⟩ = some (.bool b1) ∧ w'.cell? ⟨w.heap.size, 2, none⟩ = some (.int .i64 n1) ∧ w'.cell? ⟨w.heap.size, 3, none⟩ = some (.string s1) ∧ w'.cell? ⟨w.heap.size, 4, none⟩ = some (.slice p1 l1 c1) ∧ w'.cell? ⟨w.heap.size + 1, 0, none⟩ = some (.int .i64 0) ∧ w'.cell? ⟨w.heap.size + 1, 1, none⟩ = some (.bool b2) ∧ w'.cell? ⟨w.heap.size + 1, 2, none⟩ = some (.int .i64 n2) ∧ w'.cell? ⟨w.heap.size + 1, 3, none⟩ = some (.string s2) ∧ w'.cell? ⟨w.heap.size + 1, 4, none⟩ = some (.slice p2 l2 c2) ∧ w'.cell? ⟨w2.heap.size, 0, none⟩ = some (.int .i64 kL) ∧ w'.cell? ⟨w2.heap.size, 1, none⟩ = some (.bool bL) ∧ w'.cell? ⟨w2.heap.size, 2, none⟩ = some (.int .i64 0) ∧ w'.cell? ⟨w2.heap.size, 3, none⟩ = some (.string ⟨#[]⟩) ∧ w'.cell? ⟨w2.heap.size, 4, none⟩ = some (.slice none 0 0))
      (exact three_cells B1 B2 BX)
      (first
        | (go_at_call 16; refine Calls.mono (hRL.out _ Q1 Q2) ?_; rintro e wx ⟨rfl, hx⟩; replace B1 := B1.below hx; replace B2 := B2.below hx; replace BX := BX.below hx; replace Q1 := Q1.below hx; replace Q2 := Q2.below hx; replace h0 := below_on h0 hx; clear hx)
        | (go_at_call 8; refine Calls.mono (sm _ _ _) ?_; rintro e wx ⟨rfl, hx⟩; replace B1 := B1.below hx; replace B2 := B2.below hx; replace BX := BX.below hx; replace Q1 := Q1.below hx; replace Q2 := Q2.below hx; replace h0 := below_on h0 hx; clear hx))
    go_wp2_with fail
    go_returns
    exact ⟨rfl, h0⟩
  by_cases c7 : k1 = 7
  · subst c7
    obtain ⟨kL, bL, hlT⟩ := lessT_tv 7 7 ov
    obtain ⟨kM, bM, hmT⟩ := lessT_tv 7 7 (-ov)
    rw [hlT] at hL hRL
    rw [hmT] at hM
    clear hlT hmT h1 h2 h3 hE
    simp only [tv, vv] at hL hM hRL sm ⊢
    replace hL : Hid _ := hL
    replace hM : Hid _ := hM
    replace hRL : Hid _ := hRL
    have hb1 := (BoxAt.new w 7 b1 n1 s1 p1 l1 c1 rfl).alloc (.cells #[.int .i64 7, .bool b2, .int .i64 n2, .string s2, .slice p2 l2 c2] 25)
    have hb2 := BoxAt.new (w.alloc (.cells #[.int .i64 7, .bool b1, .int .i64 n1, .string s1, .slice p1 l1 c1] 25)) 7 b2 n2 s2 p2 l2 c2 (x := w.heap.size + 1) (by simp)
    have g1 := (q1.alloc (.cells #[.int .i64 7, .bool b1, .int .i64 n1, .string s1, .slice p1 l1 c1] 25)).alloc (.cells #[.int .i64 7, .bool b2, .int .i64 n2, .string s2, .slice p2 l2 c2] 25)
    have g2 := (q2.alloc (.cells #[.int .i64 7, .bool b1, .int .i64 n1, .string s1, .slice p1 l1 c1] 25)).alloc (.cells #[.int .i64 7, .bool b2, .int .i64 n2, .string s2, .slice p2 l2 c2] 25)
    clear q1 q2
    go_enter Tryd.func6, Tryd.ntmps6
    go_wp2_with (first
      | (go_at_call 7; refine (head_any _ (cell_keep _ (cell_keep _ ht))).mono ?_; rintro e w1 ⟨rfl, hh⟩; have B1 := hb1.below hh; have B2 := hb2.below hh; have Q1 := g1.below hh; have Q2 := g2.below hh; have h0 := below_on (below_on (below_new w _) (below_new _ _)) hh; clear hh hb1 hb2 ht g1 g2; have D1 := B1; have D2 := B2; obtain ⟨i0, i1, i2, i3, i4, -⟩ := D1; obtain ⟨j0, j1, j2, j3, j4, -⟩ := D2)
      | (go_at_call 15; with_reducible refine Calls.mono (hL.out _ Q1 Q2) ?_; rintro e w2 ⟨rfl, hx⟩; replace B1 := (B1.below hx).alloc (.cells #[.int .i64 kL, .bool bL, .int .i64 0, .string ⟨#[]⟩, .slice none 0 0] 25); replace B2 := (B2.below hx).alloc (.cells #[.int .i64 kL, .bool bL, .int .i64 0, .string ⟨#[]⟩, .slice none 0 0] 25); replace Q1 := (Q1.below hx).alloc (.cells #[.int .i64 kL, .bool bL, .int .i64 0, .string ⟨#[]⟩, .slice none 0 0] 25); replace Q2 := (Q2.below hx).alloc (.cells #[.int .i64 kL, .bool bL, .int .i64 0, .string ⟨#[]⟩, .slice none 0 0] 25); replace h0 := below_on (below_on h0 hx) (below_new _ (.cells #[.int .i64 kL, .bool bL, .int .i64 0, .string ⟨#[]⟩, .slice none 0 0] 25)); have BX := BoxAt.new w2 kL bL 0 ⟨#[]⟩ none 0 0 rfl; clear hx i0 i1 i2 i3 i4 j0 j1 j2 j3 j4; have D1 := B1; have D2 := B2; obtain ⟨i0, i1, i2, i3, i4, -⟩ := D1; obtain ⟨j0, j1, j2, j3, j4, -⟩ := D2)
      | (go_at_call 15; with_reducible refine Calls.mono (hM.out _ Q1 Q2) ?_; rintro e w3 ⟨rfl, hx⟩; replace B1 := (B1.below hx).alloc (.cells #[.int .i64 kM, .bool bM, .int .i64 0, .string ⟨#[]⟩, .slice none 0 0] 25); replace B2 := (B2.below hx).alloc (.cells #[.int .i64 kM, .bool bM, .int .i64 0, .string ⟨#[]⟩, .slice none 0 0] 25); replace Q1 := (Q1.below hx).alloc (.cells #[.int .i64 kM, .bool bM, .int .i64 0, .string ⟨#[]⟩, .slice none 0 0] 25); replace Q2 := (Q2.below hx).alloc (.cells #[.int .i64 kM, .bool bM, .int .i64 0, .string ⟨#[]⟩, .slice none 0 0] 25); replace h0 := below_on (below_on h0 hx) (below_new _ (.cells #[.int .i64 kM, .bool bM, .int .i64 0, .string ⟨#[]⟩, .slice none 0 0] 25)); replace BX := (BX.below hx).alloc (.cells #[.int .i64 kM, .bool bM, .int .i64 0, .string ⟨#[]⟩, .slice none 0 0] 25); have BY := BoxAt.new w3 kM bM 0 ⟨#[]⟩ none 0 0 rfl; clear hx i0 i1 i2 i3 i4 j0 j1 j2 j3 j4; have D1 := B1; have D2 := B2; obtain ⟨i0, i1, i2, i3, i4, -⟩ := D1; obtain ⟨j0, j1, j2, j3, j4, -⟩ := D2; have D3 := BX; have D4 := BY; obtain ⟨x0, x1, x2, x3, x4, -⟩ := D3; obtain ⟨y0, y1, y2, y3, y4, -⟩ := D4))
    clear i0 i1 i2 i3 i4 j0 j1 j2 j3 j4 x0 x1 x2 x3 x4 y0 y1 y2 y3 y4 BY
    replace B1 := B1.below (w' := World.drew _) (Below.refl _ _).drew
    replace B2 := B2.below (w' := World.drew _) (Below.refl _ _).drew
    replace BX := BX.below (w' := World.drew _) (Below.refl _ _).drew
    replace Q1 := Q1.below (w' := World.drew _) (Below.refl _ _).drew
    replace Q2 := Q2.below (w' := World.drew _) (Below.refl _ _).drew
    replace h0 := h0.drew
    go_region_held3 (fun w' => w'.cell? ⟨w.heap.size, 0, none⟩ = some (.int .i64 7) ∧ w'.cell? ⟨w.heap.size, 1, none⟩ = some (.bool b1) ∧ w'.cell? ⟨w.heap.size, 2, none⟩ = some (.int .i64 n1) ∧ w'.cell? ⟨w.heap.size, 3, none⟩ = some (.string s1) ∧ w'.cell? ⟨w.heap.size, 4, none⟩ = some (.slice p1 l1 c1) ∧ w'.cell? ⟨w.heap.size + 1, 0, none⟩ = some (.int .i64 7) ∧ w'.cell? ⟨w.heap.size + 1, 1, none⟩ = some (.bool b2) ∧ w'.cell? ⟨w.heap.size + 1, 2, none⟩ = some (.int .i64 n2) ∧ w'.cell? ⟨w.heap.size + 1, 3, none⟩ = some (.string s2) ∧ w'.cell? ⟨w.heap.size + 1, 4, none⟩ = some (.slice p2 l2 c2) ∧ w'.cell? ⟨w2.heap.size, 0, none⟩ = some (.int .i64 kL) ∧ w'.cell? ⟨w2.heap.size, 1, none⟩ = some (.bool bL) ∧ w'.cell? ⟨w2.heap.size, 2, none⟩ = some (.int .i64 0) ∧ w'.cell? ⟨w2.heap.size, 3, none⟩ = some (.string ⟨#[]⟩) ∧ w'.cell? ⟨w2.heap.size, 4, none⟩ = some (.slice none 0 0))
      (exact three_cells B1 B2 BX)
      (first
        | (go_at_call 16; refine Calls.mono (hRL.out _ Q1 Q2) ?_; rintro e wx ⟨rfl, hx⟩; replace B1 := B1.below hx; replace B2 := B2.below hx; replace BX := BX.below hx; replace Q1 := Q1.below hx; replace Q2 := Q2.below hx; replace h0 := below_on h0 hx; clear hx)
        | (go_at_call 8; refine Calls.mono (sm _ _ _) ?_; rintro e wx ⟨rfl, hx⟩; replace B1 := B1.below hx; replace B2 := B2.below hx; replace BX := BX.below hx; replace Q1 := Q1.below hx; replace Q2 := Q2.below hx; replace h0 := below_on h0 hx; clear hx))
    go_wp2_with fail
    go_returns
    exact ⟨rfl, h0⟩
  have hf1 := field1
  rcases h3 with rfl | rfl | rfl
  · have e1 : lessT k1 k1 (-1) = tv 1 true := by unfold lessT; simp [c0, c7]
    have e2 : lessT k1 k1 (-(-1)) = tv 1 false := by unfold lessT; simp [c0, c7]
    have e3 : eqT k1 k1 (-1) = tv 1 false := by unfold eqT; simp [c0, c7]
    rw [e1] at hL hRL
    rw [e2] at hM
    rw [e3] at hE
    simp only [tv, vv] at hL hM hRL hE sm ⊢
    clear e1 e2 e3 h1 h2
    have nk0 : (k1 != 0) = true := by simp [c0]
    have nk7 : (k1 != 7) = true := by simp [c7]
    replace hL : Hid _ := hL
    replace hM : Hid _ := hM
    replace hE : Hid _ := hE
    replace hRL : Hid _ := hRL
    have hb1 := (BoxAt.new w k1 b1 n1 s1 p1 l1 c1 rfl).alloc (.cells #[.int .i64 k1, .bool b2, .int .i64 n2, .string s2, .slice p2 l2 c2] 25)
    have hb2 := BoxAt.new (w.alloc (.cells #[.int .i64 k1, .bool b1, .int .i64 n1, .string s1, .slice p1 l1 c1] 25)) k1 b2 n2 s2 p2 l2 c2 (x := w.heap.size + 1) (by simp)
    have g1 := (q1.alloc (.cells #[.int .i64 k1, .bool b1, .int .i64 n1, .string s1, .slice p1 l1 c1] 25)).alloc (.cells #[.int .i64 k1, .bool b2, .int .i64 n2, .string s2, .slice p2 l2 c2] 25)
    have g2 := (q2.alloc (.cells #[.int .i64 k1, .bool b1, .int .i64 n1, .string s1, .slice p1 l1 c1] 25)).alloc (.cells #[.int .i64 k1, .bool b2, .int .i64 n2, .string s2, .slice p2 l2 c2] 25)
    clear q1 q2
    go_enter Tryd.func6, Tryd.ntmps6
    go_wp2_with (first
      | (go_at_call 7; refine (head_any _ (cell_keep _ (cell_keep _ ht))).mono ?_; rintro e w1 ⟨rfl, hh⟩; have B1 := hb1.below hh; have B2 := hb2.below hh; have Q1 := g1.below hh; have Q2 := g2.below hh; have h0 := below_on (below_on (below_new w _) (below_new _ _)) hh; clear hh hb1 hb2 ht g1 g2; have D1 := B1; have D2 := B2; obtain ⟨i0, i1, i2, i3, i4, -⟩ := D1; obtain ⟨j0, j1, j2, j3, j4, -⟩ := D2)
      | (go_at_call 15; with_reducible refine Calls.mono (hL.out _ Q1 Q2) ?_; rintro e w2 ⟨rfl, hx⟩; replace B1 := (B1.below hx).alloc (.cells #[.int .i64 1, .bool true, .int .i64 0, .string ⟨#[]⟩, .slice none 0 0] 25); replace B2 := (B2.below hx).alloc (.cells #[.int .i64 1, .bool true, .int .i64 0, .string ⟨#[]⟩, .slice none 0 0] 25); replace Q1 := (Q1.below hx).alloc (.cells #[.int .i64 1, .bool true, .int .i64 0, .string ⟨#[]⟩, .slice none 0 0] 25); replace Q2 := (Q2.below hx).alloc (.cells #[.int .i64 1, .bool true, .int .i64 0, .string ⟨#[]⟩, .slice none 0 0] 25); replace h0 := below_on (below_on h0 hx) (below_new _ (.cells #[.int .i64 1, .bool true, .int .i64 0, .string ⟨#[]⟩, .slice none 0 0] 25)); have BX := BoxAt.new w2 1 true 0 ⟨#[]⟩ none 0 0 rfl; clear hx i0 i1 i2 i3 i4 j0 j1 j2 j3 j4; have D1 := B1; have D2 := B2; obtain ⟨i0, i1, i2, i3, i4, -⟩ := D1; obtain ⟨j0, j1, j2, j3, j4, -⟩ := D2)
      | (go_at_call 15; with_reducible refine Calls.mono (hM.out _ Q1 Q2) ?_; rintro e w3 ⟨rfl, hx⟩; replace B1 := (B1.below hx).alloc (.cells #[.int .i64 1, .bool false, .int .i64 0, .string ⟨#[]⟩, .slice none 0 0] 25); replace B2 := (B2.below hx).alloc (.cells #[.int .i64 1, .bool false, .int .i64 0, .string ⟨#[]⟩, .slice none 0 0] 25); replace Q1 := (Q1.below hx).alloc (.cells #[.int .i64 1, .bool false, .int .i64 0, .string ⟨#[]⟩, .slice none 0 0] 25); replace Q2 := (Q2.below hx).alloc (.cells #[.int .i64 1, .bool false, .int .i64 0, .string ⟨#[]⟩, .slice none 0 0] 25); replace h0 := below_on (below_on h0 hx) (below_new _ (.cells #[.int .i64 1, .bool false, .int .i64 0, .string ⟨#[]⟩, .slice none 0 0] 25)); replace BX := (BX.below hx).alloc (.cells #[.int .i64 1, .bool false, .int .i64 0, .string ⟨#[]⟩, .slice none 0 0] 25); have BY := BoxAt.new w3 1 false 0 ⟨#[]⟩ none 0 0 rfl; clear hx i0 i1 i2 i3 i4 j0 j1 j2 j3 j4; have D1 := B1; have D2 := B2; obtain ⟨i0, i1, i2, i3, i4, -⟩ := D1; obtain ⟨j0, j1, j2, j3, j4, -⟩ := D2; have D3 := BX; have D4 := BY; obtain ⟨x0, x1, x2, x3, x4, -⟩ := D3; obtain ⟨y0, y1, y2, y3, y4, -⟩ := D4)
      | (go_at_call 13; refine Calls.mono (hE.out _ Q1 Q2) ?_; rintro e w4 ⟨rfl, hx⟩; replace B1 := B1.below hx; replace B2 := B2.below hx; replace Q1 := Q1.below hx; replace Q2 := Q2.below hx; replace BX := BX.below hx; replace h0 := below_on h0 hx; clear hx))
    clear i0 i1 i2 i3 i4 j0 j1 j2 j3 j4 x0 x1 x2 x3 x4 y0 y1 y2 y3 y4 BY
    replace B1 := B1.below (w' := World.drew _) (Below.refl _ _).drew
    replace B2 := B2.below (w' := World.drew _) (Below.refl _ _).drew
    replace BX := BX.below (w' := World.drew _) (Below.refl _ _).drew
    replace Q1 := Q1.below (w' := World.drew _) (Below.refl _ _).drew
    replace Q2 := Q2.below (w' := World.drew _) (Below.refl _ _).drew
    replace h0 := h0.drew
    go_region_held3 (fun w' => w'.cell? ⟨w.heap.size, 0, none⟩ = some (.int .i64 k1) ∧ w'.cell? ⟨w.heap.size, 1, none⟩ = some (.bool b1) ∧ w'.cell? ⟨w.heap.size, 2, none⟩ = some (.int .i64 n1) ∧ w'.cell? ⟨w.heap.size, 3, none⟩ = some (.string s1) ∧ w'.cell? ⟨w.heap.size, 4, none⟩ = some (.slice p1 l1 c1) ∧ w'.cell? ⟨w.heap.size + 1, 0, none⟩ = some (.int .i64 k1) ∧ w'.cell? ⟨w.heap.size + 1, 1, none⟩ = some (.bool b2) ∧ w'.cell? ⟨w.heap.size + 1, 2, none⟩ = some (.int .i64 n2) ∧ w'.cell? ⟨w.heap.size + 1, 3, none⟩ = some (.string s2) ∧ w'.cell? ⟨w.heap.size + 1, 4, none⟩ = some (.slice p2 l2 c2) ∧ w'.cell? ⟨w2.heap.size, 0, none⟩ = some (.int .i64 1) ∧ w'.cell? ⟨w2.heap.size, 1, none⟩ = some (.bool true) ∧ w'.cell? ⟨w2.heap.size, 2, none⟩ = some (.int .i64 0) ∧ w'.cell? ⟨w2.heap.size, 3, none⟩ = some (.string ⟨#[]⟩) ∧ w'.cell? ⟨w2.heap.size, 4, none⟩ = some (.slice none 0 0))
      (exact three_cells B1 B2 BX)
      (first
        | (go_at_call 16; refine Calls.mono (hRL.out _ Q1 Q2) ?_; rintro e wx ⟨rfl, hx⟩; replace B1 := B1.below hx; replace B2 := B2.below hx; replace BX := BX.below hx; replace Q1 := Q1.below hx; replace Q2 := Q2.below hx; replace h0 := below_on h0 hx; clear hx)
        | (go_at_call 8; refine Calls.mono (sm _ _ _) ?_; rintro e wx ⟨rfl, hx⟩; replace B1 := B1.below hx; replace B2 := B2.below hx; replace BX := BX.below hx; replace Q1 := Q1.below hx; replace Q2 := Q2.below hx; replace h0 := below_on h0 hx; clear hx))
    go_wp2_with fail
    go_returns
    exact ⟨rfl, h0⟩
  · have e1 : lessT k1 k1 0 = tv 1 false := by unfold lessT; simp [c0, c7]
    have e2 : lessT k1 k1 (-0) = tv 1 false := by unfold lessT; simp [c0, c7]
    have e3 : eqT k1 k1 0 = tv 1 true := by unfold eqT; simp [c0, c7]
    rw [e1] at hL hRL
    rw [e2] at hM
    rw [e3] at hE
    simp only [tv, vv] at hL hM hRL hE sm ⊢
    clear e1 e2 e3 h1 h2
    have nk0 : (k1 != 0) = true := by simp [c0]
    have nk7 : (k1 != 7) = true := by simp [c7]
    replace hL : Hid _ := hL
    replace hM : Hid _ := hM
    replace hE : Hid _ := hE
    replace hRL : Hid _ := hRL
    have hb1 := (BoxAt.new w k1 b1 n1 s1 p1 l1 c1 rfl).alloc (.cells #[.int .i64 k1, .bool b2, .int .i64 n2, .string s2, .slice p2 l2 c2] 25)
    have hb2 := BoxAt.new (w.alloc (.cells #[.int .i64 k1, .bool b1, .int .i64 n1, .string s1, .slice p1 l1 c1] 25)) k1 b2 n2 s2 p2 l2 c2 (x := w.heap.size + 1) (by simp)
    have g1 := (q1.alloc (.cells #[.int .i64 k1, .bool b1, .int .i64 n1, .string s1, .slice p1 l1 c1] 25)).alloc (.cells #[.int .i64 k1, .bool b2, .int .i64 n2, .string s2, .slice p2 l2 c2] 25)
    have g2 := (q2.alloc (.cells #[.int .i64 k1, .bool b1, .int .i64 n1, .string s1, .slice p1 l1 c1] 25)).alloc (.cells #[.int .i64 k1, .bool b2, .int .i64 n2, .string s2, .slice p2 l2 c2] 25)
    clear q1 q2
    go_enter Tryd.func6, Tryd.ntmps6
    go_wp2_with (first
      | (go_at_call 7; refine (head_any _ (cell_keep _ (cell_keep _ ht))).mono ?_; rintro e w1 ⟨rfl, hh⟩; have B1 := hb1.below hh; have B2 := hb2.below hh; have Q1 := g1.below hh; have Q2 := g2.below hh; have h0 := below_on (below_on (below_new w _) (below_new _ _)) hh; clear hh hb1 hb2 ht g1 g2; have D1 := B1; have D2 := B2; obtain ⟨i0, i1, i2, i3, i4, -⟩ := D1; obtain ⟨j0, j1, j2, j3, j4, -⟩ := D2)
      | (go_at_call 15; with_reducible refine Calls.mono (hL.out _ Q1 Q2) ?_; rintro e w2 ⟨rfl, hx⟩; replace B1 := (B1.below hx).alloc (.cells #[.int .i64 1, .bool false, .int .i64 0, .string ⟨#[]⟩, .slice none 0 0] 25); replace B2 := (B2.below hx).alloc (.cells #[.int .i64 1, .bool false, .int .i64 0, .string ⟨#[]⟩, .slice none 0 0] 25); replace Q1 := (Q1.below hx).alloc (.cells #[.int .i64 1, .bool false, .int .i64 0, .string ⟨#[]⟩, .slice none 0 0] 25); replace Q2 := (Q2.below hx).alloc (.cells #[.int .i64 1, .bool false, .int .i64 0, .string ⟨#[]⟩, .slice none 0 0] 25); replace h0 := below_on (below_on h0 hx) (below_new _ (.cells #[.int .i64 1, .bool false, .int .i64 0, .string ⟨#[]⟩, .slice none 0 0] 25)); have BX := BoxAt.new w2 1 false 0 ⟨#[]⟩ none 0 0 rfl; clear hx i0 i1 i2 i3 i4 j0 j1 j2 j3 j4; have D1 := B1; have D2 := B2; obtain ⟨i0, i1, i2, i3, i4, -⟩ := D1; obtain ⟨j0, j1, j2, j3, j4, -⟩ := D2)
      | (go_at_call 15; with_reducible refine Calls.mono (hM.out _ Q1 Q2) ?_; rintro e w3 ⟨rfl, hx⟩; replace B1 := (B1.below hx).alloc (.cells #[.int .i64 1, .bool false, .int .i64 0, .string ⟨#[]⟩, .slice none 0 0] 25); replace B2 := (B2.below hx).alloc (.cells #[.int .i64 1, .bool false, .int .i64 0, .string ⟨#[]⟩, .slice none 0 0] 25); replace Q1 := (Q1.below hx).alloc (.cells #[.int .i64 1, .bool false, .int .i64 0, .string ⟨#[]⟩, .slice none 0 0] 25); replace Q2 := (Q2.below hx).alloc (.cells #[.int .i64 1, .bool false, .int .i64 0, .string ⟨#[]⟩, .slice none 0 0] 25); replace h0 := below_on (below_on h0 hx) (below_new _ (.cells #[.int .i64 1, .bool false, .int .i64 0, .string ⟨#[]⟩, .slice none 0 0] 25)); replace BX := (BX.below hx).alloc (.cells #[.int .i64 1, .bool false, .int .i64 0, .string ⟨#[]⟩, .slice none 0 0] 25); have BY := BoxAt.new w3 1 false 0 ⟨#[]⟩ none 0 0 rfl; clear hx i0 i1 i2 i3 i4 j0 j1 j2 j3 j4; have D1 := B1; have D2 := B2; obtain ⟨i0, i1, i2, i3, i4, -⟩ := D1; obtain ⟨j0, j1, j2, j3, j4, -⟩ := D2; have D3 := BX; have D4 := BY; obtain ⟨x0, x1, x2, x3, x4, -⟩ := D3; obtain ⟨y0, y1, y2, y3, y4, -⟩ := D4)
      | (go_at_call 13; refine Calls.mono (hE.out _ Q1 Q2) ?_; rintro e w4 ⟨rfl, hx⟩; replace B1 := B1.below hx; replace B2 := B2.below hx; replace Q1 := Q1.below hx; replace Q2 := Q2.below hx; replace BX := BX.below hx; replace h0 := below_on h0 hx; clear hx))
    clear i0 i1 i2 i3 i4 j0 j1 j2 j3 j4 x0 x1 x2 x3 x4 y0 y1 y2 y3 y4 BY
    replace B1 := B1.below (w' := World.drew _) (Below.refl _ _).drew
    replace B2 := B2.below (w' := World.drew _) (Below.refl _ _).drew
    replace BX := BX.below (w' := World.drew _) (Below.refl _ _).drew
    replace Q1 := Q1.below (w' := World.drew _) (Below.refl _ _).drew
    replace Q2 := Q2.below (w' := World.drew _) (Below.refl _ _).drew
    replace h0 := h0.drew
    go_region_held3 (fun w' => w'.cell? ⟨w.heap.size, 0, none⟩ = some (.int .i64 k1) ∧ w'.cell? ⟨w.heap.size, 1, none⟩ = some (.bool b1) ∧ w'.cell? ⟨w.heap.size, 2, none⟩ = some (.int .i64 n1) ∧ w'.cell? ⟨w.heap.size, 3, none⟩ = some (.string s1) ∧ w'.cell? ⟨w.heap.size, 4, none⟩ = some (.slice p1 l1 c1) ∧ w'.cell? ⟨w.heap.size + 1, 0, none⟩ = some (.int .i64 k1) ∧ w'.cell? ⟨w.heap.size + 1, 1, none⟩ = some (.bool b2) ∧ w'.cell? ⟨w.heap.size + 1, 2, none⟩ = some (.int .i64 n2) ∧ w'.cell? ⟨w.heap.size + 1, 3, none⟩ = some (.string s2) ∧ w'.cell? ⟨w.heap.size + 1, 4, none⟩ = some (.slice p2 l2 c2) ∧ w'.cell? ⟨w2.heap.size, 0, none⟩ = some (.int .i64 1) ∧ w'.cell? ⟨w2.heap.size, 1, none⟩ = some (.bool false) ∧ w'.cell? ⟨w2.heap.size, 2, none⟩ = some (.int .i64 0) ∧ w'.cell? ⟨w2.heap.size, 3, none⟩ = some (.string ⟨#[]⟩) ∧ w'.cell? ⟨w2.heap.size, 4, none⟩ = some (.slice none 0 0))
      (exact three_cells B1 B2 BX)
      (first
        | (go_at_call 16; refine Calls.mono (hRL.out _ Q1 Q2) ?_; rintro e wx ⟨rfl, hx⟩; replace B1 := B1.below hx; replace B2 := B2.below hx; replace BX := BX.below hx; replace Q1 := Q1.below hx; replace Q2 := Q2.below hx; replace h0 := below_on h0 hx; clear hx)
        | (go_at_call 8; refine Calls.mono (sm _ _ _) ?_; rintro e wx ⟨rfl, hx⟩; replace B1 := B1.below hx; replace B2 := B2.below hx; replace BX := BX.below hx; replace Q1 := Q1.below hx; replace Q2 := Q2.below hx; replace h0 := below_on h0 hx; clear hx))
    go_wp2_with fail
    go_returns
    exact ⟨rfl, h0⟩
  · have e1 : lessT k1 k1 1 = tv 1 false := by unfold lessT; simp [c0, c7]
    have e2 : lessT k1 k1 (-1) = tv 1 true := by unfold lessT; simp [c0, c7]
    have e3 : eqT k1 k1 1 = tv 1 false := by unfold eqT; simp [c0, c7]
    rw [e1] at hL hRL
    rw [e2] at hM
    rw [e3] at hE
    simp only [tv, vv] at hL hM hRL hE sm ⊢
    clear e1 e2 e3 h1 h2
    have nk0 : (k1 != 0) = true := by simp [c0]
    have nk7 : (k1 != 7) = true := by simp [c7]
    replace hL : Hid _ := hL
    replace hM : Hid _ := hM
    replace hE : Hid _ := hE
    replace hRL : Hid _ := hRL
    have hb1 := (BoxAt.new w k1 b1 n1 s1 p1 l1 c1 rfl).alloc (.cells #[.int .i64 k1, .bool b2, .int .i64 n2, .string s2, .slice p2 l2 c2] 25)
    have hb2 := BoxAt.new (w.alloc (.cells #[.int .i64 k1, .bool b1, .int .i64 n1, .string s1, .slice p1 l1 c1] 25)) k1 b2 n2 s2 p2 l2 c2 (x := w.heap.size + 1) (by simp)
    have g1 := (q1.alloc (.cells #[.int .i64 k1, .bool b1, .int .i64 n1, .string s1, .slice p1 l1 c1] 25)).alloc (.cells #[.int .i64 k1, .bool b2, .int .i64 n2, .string s2, .slice p2 l2 c2] 25)
    have g2 := (q2.alloc (.cells #[.int .i64 k1, .bool b1, .int .i64 n1, .string s1, .slice p1 l1 c1] 25)).alloc (.cells #[.int .i64 k1, .bool b2, .int .i64 n2, .string s2, .slice p2 l2 c2] 25)
    clear q1 q2
    go_enter Tryd.func6, Tryd.ntmps6
    go_wp2_with (first
      | (go_at_call 7; refine (head_any _ (cell_keep _ (cell_keep _ ht))).mono ?_; rintro e w1 ⟨rfl, hh⟩; have B1 := hb1.below hh; have B2 := hb2.below hh; have Q1 := g1.below hh; have Q2 := g2.below hh; have h0 := below_on (below_on (below_new w _) (below_new _ _)) hh; clear hh hb1 hb2 ht g1 g2; have D1 := B1; have D2 := B2; obtain ⟨i0, i1, i2, i3, i4, -⟩ := D1; obtain ⟨j0, j1, j2, j3, j4, -⟩ := D2)
      | (go_at_call 15; with_reducible refine Calls.mono (hL.out _ Q1 Q2) ?_; rintro e w2 ⟨rfl, hx⟩; replace B1 := (B1.below hx).alloc (.cells #[.int .i64 1, .bool false, .int .i64 0, .string ⟨#[]⟩, .slice none 0 0] 25); replace B2 := (B2.below hx).alloc (.cells #[.int .i64 1, .bool false, .int .i64 0, .string ⟨#[]⟩, .slice none 0 0] 25); replace Q1 := (Q1.below hx).alloc (.cells #[.int .i64 1, .bool false, .int .i64 0, .string ⟨#[]⟩, .slice none 0 0] 25); replace Q2 := (Q2.below hx).alloc (.cells #[.int .i64 1, .bool false, .int .i64 0, .string ⟨#[]⟩, .slice none 0 0] 25); replace h0 := below_on (below_on h0 hx) (below_new _ (.cells #[.int .i64 1, .bool false, .int .i64 0, .string ⟨#[]⟩, .slice none 0 0] 25)); have BX := BoxAt.new w2 1 false 0 ⟨#[]⟩ none 0 0 rfl; clear hx i0 i1 i2 i3 i4 j0 j1 j2 j3 j4; have D1 := B1; have D2 := B2; obtain ⟨i0, i1, i2, i3, i4, -⟩ := D1; obtain ⟨j0, j1, j2, j3, j4, -⟩ := D2)
      | (go_at_call 15; with_reducible refine Calls.mono (hM.out _ Q1 Q2) ?_; rintro e w3 ⟨rfl, hx⟩; replace B1 := (B1.below hx).alloc (.cells #[.int .i64 1, .bool true, .int .i64 0, .string ⟨#[]⟩, .slice none 0 0] 25); replace B2 := (B2.below hx).alloc (.cells #[.int .i64 1, .bool true, .int .i64 0, .string ⟨#[]⟩, .slice none 0 0] 25); replace Q1 := (Q1.below hx).alloc (.cells #[.int .i64 1, .bool true, .int .i64 0, .string ⟨#[]⟩, .slice none 0 0] 25); replace Q2 := (Q2.below hx).alloc (.cells #[.int .i64 1, .bool true, .int .i64 0, .string ⟨#[]⟩, .slice none 0 0] 25); replace h0 := below_on (below_on h0 hx) (below_new _ (.cells #[.int .i64 1, .bool true, .int .i64 0, .string ⟨#[]⟩, .slice none 0 0] 25)); replace BX := (BX.below hx).alloc (.cells #[.int .i64 1, .bool true, .int .i64 0, .string ⟨#[]⟩, .slice none 0 0] 25); have BY := BoxAt.new w3 1 true 0 ⟨#[]⟩ none 0 0 rfl; clear hx i0 i1 i2 i3 i4 j0 j1 j2 j3 j4; have D1 := B1; have D2 := B2; obtain ⟨i0, i1, i2, i3, i4, -⟩ := D1; obtain ⟨j0, j1, j2, j3, j4, -⟩ := D2; have D3 := BX; have D4 := BY; obtain ⟨x0, x1, x2, x3, x4, -⟩ := D3; obtain ⟨y0, y1, y2, y3, y4, -⟩ := D4)
      | (go_at_call 13; refine Calls.mono (hE.out _ Q1 Q2) ?_; rintro e w4 ⟨rfl, hx⟩; replace B1 := B1.below hx; replace B2 := B2.below hx; replace Q1 := Q1.below hx; replace Q2 := Q2.below hx; replace BX := BX.below hx; replace h0 := below_on h0 hx; clear hx))
    clear i0 i1 i2 i3 i4 j0 j1 j2 j3 j4 x0 x1 x2 x3 x4 y0 y1 y2 y3 y4 BY
    replace B1 := B1.below (w' := World.drew _) (Below.refl _ _).drew
    replace B2 := B2.below (w' := World.drew _) (Below.refl _ _).drew
    replace BX := BX.below (w' := World.drew _) (Below.refl _ _).drew
    replace Q1 := Q1.below (w' := World.drew _) (Below.refl _ _).drew
    replace Q2 := Q2.below (w' := World.drew _) (Below.refl _ _).drew
    replace h0 := h0.drew
    go_region_held3 (fun w' => w'.cell? ⟨w.heap.size, 0, none⟩ = some (.int .i64 k1) ∧ w'.cell? ⟨w.heap.size, 1, none⟩ = some (.bool b1) ∧ w'.cell? ⟨w.heap.size, 2, none⟩ = some (.int .i64 n1) ∧ w'.cell? ⟨w.heap.size, 3, none⟩ = some (.string s1) ∧ w'.cell? ⟨w.heap.size, 4, none⟩ = some (.slice p1 l1 c1) ∧ w'.cell? ⟨w.heap.size + 1, 0, none⟩ = some (.int .i64 k1) ∧ w'.cell? ⟨w.heap.size + 1, 1, none⟩ = some (.bool b2) ∧ w'.cell? ⟨w.heap.size + 1, 2, none⟩ = some (.int .i64 n2) ∧ w'.cell? ⟨w.heap.size + 1, 3, none⟩ = some (.string s2) ∧ w'.cell? ⟨w.heap.size + 1, 4, none⟩ = some (.slice p2 l2 c2) ∧ w'.cell? ⟨w2.heap.size, 0, none⟩ = some (.int .i64 1) ∧ w'.cell? ⟨w2.heap.size, 1, none⟩ = some (.bool false) ∧ w'.cell? ⟨w2.heap.size, 2, none⟩ = some (.int .i64 0) ∧ w'.cell? ⟨w2.heap.size, 3, none⟩ = some (.string ⟨#[]⟩) ∧ w'.cell? ⟨w2.heap.size, 4, none⟩ = some (.slice none 0 0))
      (exact three_cells B1 B2 BX)
      (first
        | (go_at_call 16; refine Calls.mono (hRL.out _ Q1 Q2) ?_; rintro e wx ⟨rfl, hx⟩; replace B1 := B1.below hx; replace B2 := B2.below hx; replace BX := BX.below hx; replace Q1 := Q1.below hx; replace Q2 := Q2.below hx; replace h0 := below_on h0 hx; clear hx)
        | (go_at_call 8; refine Calls.mono (sm _ _ _) ?_; rintro e wx ⟨rfl, hx⟩; replace B1 := B1.below hx; replace B2 := B2.below hx; replace BX := BX.below hx; replace Q1 := Q1.below hx; replace Q2 := Q2.below hx; replace h0 := below_on h0 hx; clear hx))
    go_wp2_with fail
    go_returns
    exact ⟨rfl, h0⟩
end Go.Proofs.YtokkmjcpjjiaaacDoor
