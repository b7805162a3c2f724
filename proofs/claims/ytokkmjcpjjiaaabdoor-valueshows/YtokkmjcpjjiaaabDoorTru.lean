/-
  ValueTruths: its own walk.
-/
import Derived.Test.YtokkmjcpjjiaaabDoorRAnd
import Derived.Test.YtokkmjcpjjiaaabDoorHead
import Derived.Deep.RegionHeld3
namespace Go.Proofs.YtokkmjcpjjiaaabDoor
open Go.RowKit
set_option linter.unusedSimpArgs false
set_option linter.unusedVariables false

/-- What And and Or answer is a truth. -/
theorem decT_tv (d : Bool) (k1 : Int) (b1 : Bool) (k2 : Int) (b2 : Bool) : ∃ k b, decT d k1 b1 k2 b2 = tv k b := by
  unfold decT
  split
  · exact ⟨_, _, rfl⟩
  · split
    · exact ⟨_, _, rfl⟩
    · split <;> exact ⟨_, _, rfl⟩

theorem notT_tv (k1 : Int) (b1 : Bool) : ∃ k b, notT k1 b1 = tv k b := by
  unfold notT
  split
  · exact ⟨_, _, rfl⟩
  · split <;> exact ⟨_, _, rfl⟩

set_option maxRecDepth 100000 in
theorem same_tv (k : Int) (b : Bool) (w : World) : Calls Tryd.prog 13 #[tv k b, tv k b] w fun e w' => e = .returned (.bool true) ∧ Below w.heap.size w w' := by
  unfold tv vv
  go_enter Tryd.func13, Tryd.ntmps13
  go_wp2
  go_rounds 1
  go_returns
  exact ⟨rfl, by go_grown⟩

set_option maxRecDepth 100000 in
theorem And_any (k1 : Int) (b1 : Bool) (n1 : Int) (s1 : ByteArray) (p1 : Option Addr) (l1 c1 : Nat) (k2 : Int) (b2 : Bool) (n2 : Int) (s2 : ByteArray) (p2 : Option Addr) (l2 c2 : Nat) (w : World) :
    Calls Tryd.prog 20 #[.agg #[.int .i64 k1, .bool b1, .int .i64 n1, .string s1, .slice p1 l1 c1], .agg #[.int .i64 k2, .bool b2, .int .i64 n2, .string s2, .slice p2 l2 c2]] w fun e w' => e = .returned (decT false k1 b1 k2 b2) ∧ Below w.heap.size w w' := by
  have hd := fun w => decided_any false k1 b1 n1 s1 p1 l1 c1 k2 b2 n2 s2 p2 l2 c2 w
  unfold vv at hd
  have hK := decT_tv false k1 b1 k2 b2
  obtain ⟨k, b, hkb⟩ := hK
  rw [hkb] at hd ⊢
  clear hkb
  have hbx := BoxAt.new ((w.alloc (.cells #[.int .i64 k1, .bool b1, .int .i64 n1, .string s1, .slice p1 l1 c1] 25)).alloc (.cells #[.int .i64 k2, .bool b2, .int .i64 n2, .string s2, .slice p2 l2 c2] 25)) 0 false 0 ⟨#[]⟩ none 0 0 (x := w.heap.size + 1 + 1) (by simp)
  unfold tv vv at hd ⊢
  go_enter Tryd.func20, Tryd.ntmps20
  go_wp2_with (go_at_call 39; refine (hd _).mono ?_; rintro e w1 ⟨rfl, h1⟩; have hb1 := hbx.below h1; obtain ⟨c0, c1, c2, c3, c4, fr⟩ := hb1; have f0 := fr 0; have f1 := fr 1; have f2 := fr 2; have f3 := fr 3; have f4 := fr 4)
  have hb : Below w.heap.size w w1 := below_on (below_on (below_on (below_new _ _) (below_new _ _)) (below_new _ _)) h1
  refine bodyPost_ret (results_box rfl _ rfl ((hbx.below h1).put _ _ _ _ _ _ _)) rfl ?_
  exact ⟨rfl, by go_grown⟩

theorem one_cells {w' : World} {x : Nat} {k1 : Int} {b1 : Bool} {n1 : Int} {s1 : ByteArray} {p1 : Option Addr} {l1 c1 : Nat} (h : BoxAt w' x k1 b1 n1 s1 p1 l1 c1) :
    w'.cell? ⟨x, 0, none⟩ = some (.int .i64 k1) ∧ w'.cell? ⟨x, 1, none⟩ = some (.bool b1) ∧ w'.cell? ⟨x, 2, none⟩ = some (.int .i64 n1) ∧ w'.cell? ⟨x, 3, none⟩ = some (.string s1) ∧ w'.cell? ⟨x, 4, none⟩ = some (.slice p1 l1 c1) :=
  ⟨h.c0, h.c1, h.c2, h.c3, h.c4⟩

theorem two_cells {w' : World} {x y : Nat} {k1 : Int} {b1 : Bool} {n1 : Int} {s1 : ByteArray} {p1 : Option Addr} {l1 c1 : Nat} {k2 : Int} {b2 : Bool} {n2 : Int} {s2 : ByteArray} {p2 : Option Addr} {l2 c2 : Nat} (h : BoxAt w' x k1 b1 n1 s1 p1 l1 c1) (g : BoxAt w' y k2 b2 n2 s2 p2 l2 c2) :
    w'.cell? ⟨x, 0, none⟩ = some (.int .i64 k1) ∧ w'.cell? ⟨x, 1, none⟩ = some (.bool b1) ∧ w'.cell? ⟨x, 2, none⟩ = some (.int .i64 n1) ∧ w'.cell? ⟨x, 3, none⟩ = some (.string s1) ∧ w'.cell? ⟨x, 4, none⟩ = some (.slice p1 l1 c1) ∧ w'.cell? ⟨y, 0, none⟩ = some (.int .i64 k2) ∧ w'.cell? ⟨y, 1, none⟩ = some (.bool b2) ∧ w'.cell? ⟨y, 2, none⟩ = some (.int .i64 n2) ∧ w'.cell? ⟨y, 3, none⟩ = some (.string s2) ∧ w'.cell? ⟨y, 4, none⟩ = some (.slice p2 l2 c2) :=
  ⟨h.c0, h.c1, h.c2, h.c3, h.c4, g.c0, g.c1, g.c2, g.c3, g.c4⟩

end Go.Proofs.YtokkmjcpjjiaaabDoor
