/-
  ValueNots: its own walk.
-/
import Derived.Test.YtokkmjcpjjiaaacDoorTru
namespace Go.Proofs.YtokkmjcpjjiaaacDoor
open Go.RowKit
set_option linter.unusedSimpArgs false
set_option linter.unusedVariables false

set_option maxRecDepth 100000 in
set_option maxHeartbeats 4000000 in
theorem Nots_walk (k1 : Int) (b1 : Bool) (n1 : Int) (s1 : ByteArray) (p1 : Option Addr) (l1 c1 : Nat) (w : World) (ht : w.cell? ⟨3, 0, none⟩ = some (.int .u64 1)) :
    Calls Tryd.prog 4 #[vv k1 b1 n1 s1 p1 l1 c1] w fun e w' => e = .returned (.bool true) ∧ Below w.heap.size w w' := by
  unfold vv
  have hb1 := BoxAt.new w k1 b1 n1 s1 p1 l1 c1 rfl
  go_enter Tryd.func4, Tryd.ntmps4
  go_wp2_with (go_at_call 7; refine (head_any _ (cell_keep _ ht)).mono ?_; rintro e w1 ⟨rfl, h1⟩)
  have B1 := hb1.below h1.drew
  have h0 := below_on (below_new w _) h1.drew
  clear h1 hb1 ht
  obtain ⟨kA, bA, hA⟩ := notT_tv k1 b1
  have hNot := fun w => Not_any k1 b1 n1 s1 p1 l1 c1 w
  have hRNot := fun w => refNot_any k1 b1 n1 s1 p1 l1 c1 w
  unfold vv at hNot hRNot
  rw [hA] at hNot hRNot
  clear hA
  go_region_held3 (fun w' => w'.cell? ⟨w.heap.size, 0, none⟩ = some (.int .i64 k1) ∧ w'.cell? ⟨w.heap.size, 1, none⟩ = some (.bool b1) ∧ w'.cell? ⟨w.heap.size, 2, none⟩ = some (.int .i64 n1) ∧ w'.cell? ⟨w.heap.size, 3, none⟩ = some (.string s1) ∧ w'.cell? ⟨w.heap.size, 4, none⟩ = some (.slice p1 l1 c1))
    (first | exact one_cells B1 | exact one_cells (B1.below ha) | exact one_cells ((B1.below ha).below hb) | exact one_cells (((B1.below ha).below hb).below hc))
    (first
      | (go_at_call 11; refine (hNot _).mono ?_; rintro e wa ⟨rfl, ha⟩)
      | (go_at_call 12; refine (hRNot _).mono ?_; rintro e wb ⟨rfl, hb⟩)
      | (go_at_call 8; refine (same_tv _ _ _).mono ?_; rintro e wc ⟨rfl, hc⟩))
  have h4 := below_on (below_on (below_on h0 ha) hb) hc
  go_wp2_with fail
  go_returns
  exact ⟨rfl, h4⟩
end Go.Proofs.YtokkmjcpjjiaaacDoor
