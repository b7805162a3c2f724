/-
  ValueEncodes: its own walk.
-/
import Derived.Test.YtokkmjcpjjiaaabDoorEnw
import Derived.Test.YtokkmjcpjjiaaabDoorTru
import Derived.Test.YtokkmjcpjjiaaabDoorTbs
import Derived.Deep.RegionWith
namespace Go.Proofs.YtokkmjcpjjiaaabDoor
open Go.RowKit
set_option linter.unusedSimpArgs false
set_option linter.unusedVariables false

set_option maxRecDepth 100000 in
set_option maxHeartbeats 4000000 in
theorem Encodes_walk (k1 : Int) (b1 : Bool) (n1 : Int) (s1 : ByteArray) (p1 : Option Addr) (l1 c1 : Nat) (z1 : List Int) (w : World) (h1 : z1.length = l1) (q1 : PathAt w p1 z1) (hs : s1.size ≤ maxLen) (hT : Tabs w) (ht : w.cell? ⟨3, 0, none⟩ = some (.int .u64 1)) :
    Calls Tryd.prog 6 #[vv k1 b1 n1 s1 p1 l1 c1] w fun e w' => e = .returned (.bool true) ∧ Below w.heap.size w w' := by
  have hk := rgt_says k1 b1 n1 s1 l1 z1 (Lib.validD s1.data.toList) h1
  have hE := fun w (a : PathAt w p1 z1) (t : Tabs w) => Encode_any k1 b1 n1 s1 p1 l1 c1 z1 _ h1 hk w a (fun w' hb => Right_any k1 b1 n1 s1 p1 l1 c1 z1 (Lib.validD s1.data.toList) w' h1 (a.below hb) (valid_any s1 hs w' (t.below hb)))
  have hRE := fun w (a : PathAt w p1 z1) (t : Tabs w) => refEncode_any k1 b1 n1 s1 p1 l1 c1 z1 _ h1 hk w a (fun w' hb => refRight_any k1 b1 n1 s1 p1 l1 c1 z1 (Lib.validD s1.data.toList) w' h1 (a.below hb) (valid_any s1 hs w' (t.below hb)))
  obtain ⟨zs, hzs⟩ := encV_ints k1 b1 n1 s1 l1 z1 (rgtB k1 b1 n1 s1 l1 z1 (Lib.validD s1.data.toList))
  rw [hzs] at hE hRE
  clear hzs hk
  unfold vv
  have hb1 := BoxAt.new w k1 b1 n1 s1 p1 l1 c1 rfl
  have g1 := q1.alloc (.cells #[.int .i64 k1, .bool b1, .int .i64 n1, .string s1, .slice p1 l1 c1] 25)
  have gT := hT.below (below_new w (.cells #[.int .i64 k1, .bool b1, .int .i64 n1, .string s1, .slice p1 l1 c1] 25))
  replace hE : Hid _ := hE
  replace hRE : Hid _ := hRE
  go_enter Tryd.func6, Tryd.ntmps6
  go_wp2_with (go_at_call 9; refine (head_any _ (cell_keep _ ht)).mono ?_; rintro e w1 ⟨rfl, hh⟩)
  have B1 := hb1.below hh.drew
  have Q1 := g1.below hh.drew
  have TT := gT.below hh.drew
  have h0 := below_on (below_new w _) hh.drew
  clear hh hb1 ht g1 gT hT q1
  have D := B1
  obtain ⟨i0, i1, i2, i3, i4, -⟩ := D
  go_region_with (first
    | (go_at_call 10; refine Calls.mono (hE.out _ Q1 TT) ?_; rintro e w2 ⟨v2, rfl, ho2, hx⟩; replace B1 := B1.below hx; replace Q1 := Q1.below hx; replace TT := TT.below hx; replace h0 := below_on h0 hx; clear hx; have cvA := conv_own ho2; have D := B1; obtain ⟨j0, j1, j2, j3, j4, -⟩ := D)
    | (go_at_call 17; refine Calls.mono (hRE.out _ Q1 TT) ?_; rintro e w3 ⟨v3, rfl, ho3, hx⟩; have cvC := conv_own (own_below ho2 hx); have cvB := conv_own ho3; replace h0 := below_on h0 hx; clear hx))
  all_goals go_wp2_with fail
  all_goals go_returns
  all_goals exact ⟨by simp [Act.put], h0⟩
end Go.Proofs.YtokkmjcpjjiaaabDoor
