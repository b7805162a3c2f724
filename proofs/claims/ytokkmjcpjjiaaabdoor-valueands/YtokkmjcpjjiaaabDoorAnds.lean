/-
  ValueAnds: its own walk.
-/
import Derived.Test.YtokkmjcpjjiaaabDoorTru
namespace Go.Proofs.YtokkmjcpjjiaaabDoor
open Go.RowKit
set_option linter.unusedSimpArgs false
set_option linter.unusedVariables false

set_option maxRecDepth 100000 in
set_option maxHeartbeats 4000000 in
theorem Ands_walk (k1 : Int) (b1 : Bool) (n1 : Int) (s1 : ByteArray) (p1 : Option Addr) (l1 c1 : Nat) (k2 : Int) (b2 : Bool) (n2 : Int) (s2 : ByteArray) (p2 : Option Addr) (l2 c2 : Nat) (w : World) (ht : w.cell? ⟨3, 0, none⟩ = some (.int .u64 1)) :
    Calls Tryd.prog 8 #[vv k1 b1 n1 s1 p1 l1 c1, vv k2 b2 n2 s2 p2 l2 c2] w fun e w' => e = .returned (.bool true) ∧ Below w.heap.size w w' := by
  unfold vv
  have hb1 := (BoxAt.new w k1 b1 n1 s1 p1 l1 c1 rfl).alloc (.cells #[.int .i64 k2, .bool b2, .int .i64 n2, .string s2, .slice p2 l2 c2] 25)
  have hb2 := BoxAt.new (w.alloc (.cells #[.int .i64 k1, .bool b1, .int .i64 n1, .string s1, .slice p1 l1 c1] 25)) k2 b2 n2 s2 p2 l2 c2 (x := w.heap.size + 1) (by simp)
  go_enter Tryd.func8, Tryd.ntmps8
  go_wp2_with (go_at_call 9; refine (head_any _ (cell_keep _ (cell_keep _ ht))).mono ?_; rintro e w1 ⟨rfl, h1⟩)
  have B1 := hb1.below h1.drew
  have B2 := hb2.below h1.drew
  have h0 := below_on (below_on (below_new w _) (below_new _ _)) h1.drew
  clear h1 hb1 hb2 ht
  obtain ⟨kA, bA, hA⟩ := decT_tv false k1 b1 k2 b2
  have hAnd := fun w => And_any k1 b1 n1 s1 p1 l1 c1 k2 b2 n2 s2 p2 l2 c2 w
  have hRAnd := fun w => refAnd_any k1 b1 n1 s1 p1 l1 c1 k2 b2 n2 s2 p2 l2 c2 w
  unfold vv at hRAnd
  rw [hA] at hAnd hRAnd
  clear hA
  go_region_held3 (fun w' => w'.cell? ⟨w.heap.size, 0, none⟩ = some (.int .i64 k1) ∧ w'.cell? ⟨w.heap.size, 1, none⟩ = some (.bool b1) ∧ w'.cell? ⟨w.heap.size, 2, none⟩ = some (.int .i64 n1) ∧ w'.cell? ⟨w.heap.size, 3, none⟩ = some (.string s1) ∧ w'.cell? ⟨w.heap.size, 4, none⟩ = some (.slice p1 l1 c1) ∧ w'.cell? ⟨w.heap.size + 1, 0, none⟩ = some (.int .i64 k2) ∧ w'.cell? ⟨w.heap.size + 1, 1, none⟩ = some (.bool b2) ∧ w'.cell? ⟨w.heap.size + 1, 2, none⟩ = some (.int .i64 n2) ∧ w'.cell? ⟨w.heap.size + 1, 3, none⟩ = some (.string s2) ∧ w'.cell? ⟨w.heap.size + 1, 4, none⟩ = some (.slice p2 l2 c2))
    (first | exact two_cells B1 B2 | exact two_cells (B1.below ha) (B2.below ha) | exact two_cells ((B1.below ha).below hb) ((B2.below ha).below hb) | exact two_cells (((B1.below ha).below hb).below hc) (((B2.below ha).below hb).below hc))
    (first
      | (go_at_call 20; refine (hAnd _).mono ?_; rintro e wa ⟨rfl, ha⟩)
      | (go_at_call 21; refine (hRAnd _).mono ?_; rintro e wb ⟨rfl, hb⟩)
      | (go_at_call 13; refine (same_tv _ _ _).mono ?_; rintro e wc ⟨rfl, hc⟩))
  have h4 := below_on (below_on (below_on h0 ha) hb) hc
  go_wp2_with fail
  go_returns
  exact ⟨rfl, h4⟩
end Go.Proofs.YtokkmjcpjjiaaabDoor
