/-
  ValueTruths: its own walk.
-/
import Derived.Test.YtokkmjcpjjiaaaaDoorRAnd
import Derived.Test.YtokkmjcpjjiaaaaDoorROr
import Derived.Test.YtokkmjcpjjiaaaaDoorHead
import Derived.Deep.RegionHeld3
namespace Go.Proofs.YtokkmjcpjjiaaaaDoor
open Go.RowKit
set_option linter.unusedSimpArgs false
set_option linter.unusedVariables false

/-- What And and Or answer is a truth. -/
theorem decT_tv (d : Bool) (k1 : Int) (b1 : Bool) (k2 : Int) (b2 : Bool) : ∃ k b, decT d k1 b1 k2 b2 = tv k b := by
  unfold decT
  split
  · exact ⟨_, _, rfl⟩
  · split
    · exact ⟨_, _, rfl⟩
    · split <;> exact ⟨_, _, rfl⟩
theorem notT_tv (k1 : Int) (b1 : Bool) : ∃ k b, notT k1 b1 = tv k b := by
  unfold notT
  split
  · exact ⟨_, _, rfl⟩
  · split <;> exact ⟨_, _, rfl⟩

set_option maxRecDepth 100000 in
theorem same_tv (k : Int) (b : Bool) (w : World) : Calls Tryd.prog 19 #[tv k b, tv k b] w fun e w' => e = .returned (.bool true) ∧ Below w.heap.size w w' := by
  unfold tv vv
  go_enter Tryd.func19, Tryd.ntmps19
  go_wp2
  go_rounds 1
  go_returns
  exact ⟨rfl, by go_grown⟩

set_option maxRecDepth 100000 in
theorem And_any (k1 : Int) (b1 : Bool) (n1 : Int) (s1 : ByteArray) (p1 : Option Addr) (l1 c1 : Nat) (k2 : Int) (b2 : Bool) (n2 : Int) (s2 : ByteArray) (p2 : Option Addr) (l2 c2 : Nat) (w : World) :
    Calls Tryd.prog 27 #[.agg #[.int .i64 k1, .bool b1, .int .i64 n1, .string s1, .slice p1 l1 c1], .agg #[.int .i64 k2, .bool b2, .int .i64 n2, .string s2, .slice p2 l2 c2]] w fun e w' => e = .returned (decT false k1 b1 k2 b2) ∧ Below w.heap.size w w' := by
  have hd := fun w => decided_any false k1 b1 n1 s1 p1 l1 c1 k2 b2 n2 s2 p2 l2 c2 w
  unfold vv at hd
  have hK := decT_tv false k1 b1 k2 b2
  obtain ⟨k, b, hkb⟩ := hK
  rw [hkb] at hd ⊢
  clear hkb
  have hbx := BoxAt.new ((w.alloc (.cells #[.int .i64 k1, .bool b1, .int .i64 n1, .string s1, .slice p1 l1 c1] 25)).alloc (.cells #[.int .i64 k2, .bool b2, .int .i64 n2, .string s2, .slice p2 l2 c2] 25)) 0 false 0 ⟨#[]⟩ none 0 0 (x := w.heap.size + 1 + 1) (by simp)
  unfold tv vv at hd ⊢
  go_enter Tryd.func27, Tryd.ntmps27
  go_wp2_with (go_at_call 58; refine (hd _).mono ?_; rintro e w1 ⟨rfl, h1⟩; have hb1 := hbx.below h1; obtain ⟨c0, c1, c2, c3, c4, fr⟩ := hb1; have f0 := fr 0; have f1 := fr 1; have f2 := fr 2; have f3 := fr 3; have f4 := fr 4)
  have hb : Below w.heap.size w w1 := below_on (below_on (below_on (below_new _ _) (below_new _ _)) (below_new _ _)) h1
  refine bodyPost_ret (results_box rfl _ rfl ((hbx.below h1).put _ _ _ _ _ _ _)) rfl ?_
  exact ⟨rfl, by go_grown⟩
set_option maxRecDepth 100000 in
theorem Or_any (k1 : Int) (b1 : Bool) (n1 : Int) (s1 : ByteArray) (p1 : Option Addr) (l1 c1 : Nat) (k2 : Int) (b2 : Bool) (n2 : Int) (s2 : ByteArray) (p2 : Option Addr) (l2 c2 : Nat) (w : World) :
    Calls Tryd.prog 29 #[.agg #[.int .i64 k1, .bool b1, .int .i64 n1, .string s1, .slice p1 l1 c1], .agg #[.int .i64 k2, .bool b2, .int .i64 n2, .string s2, .slice p2 l2 c2]] w fun e w' => e = .returned (decT true k1 b1 k2 b2) ∧ Below w.heap.size w w' := by
  have hd := fun w => decided_any true k1 b1 n1 s1 p1 l1 c1 k2 b2 n2 s2 p2 l2 c2 w
  unfold vv at hd
  have hK := decT_tv true k1 b1 k2 b2
  obtain ⟨k, b, hkb⟩ := hK
  rw [hkb] at hd ⊢
  clear hkb
  have hbx := BoxAt.new ((w.alloc (.cells #[.int .i64 k1, .bool b1, .int .i64 n1, .string s1, .slice p1 l1 c1] 25)).alloc (.cells #[.int .i64 k2, .bool b2, .int .i64 n2, .string s2, .slice p2 l2 c2] 25)) 0 false 0 ⟨#[]⟩ none 0 0 (x := w.heap.size + 1 + 1) (by simp)
  unfold tv vv at hd ⊢
  go_enter Tryd.func29, Tryd.ntmps29
  go_wp2_with (go_at_call 58; refine (hd _).mono ?_; rintro e w1 ⟨rfl, h1⟩; have hb1 := hbx.below h1; obtain ⟨c0, c1, c2, c3, c4, fr⟩ := hb1; have f0 := fr 0; have f1 := fr 1; have f2 := fr 2; have f3 := fr 3; have f4 := fr 4)
  have hb : Below w.heap.size w w1 := below_on (below_on (below_on (below_new _ _) (below_new _ _)) (below_new _ _)) h1
  refine bodyPost_ret (results_box rfl _ rfl ((hbx.below h1).put _ _ _ _ _ _ _)) rfl ?_
  exact ⟨rfl, by go_grown⟩

theorem one_cells {w' : World} {x : Nat} {k1 : Int} {b1 : Bool} {n1 : Int} {s1 : ByteArray} {p1 : Option Addr} {l1 c1 : Nat} (h : BoxAt w' x k1 b1 n1 s1 p1 l1 c1) :
    w'.cell? ⟨x, 0, none⟩ = some (.int .i64 k1) ∧ w'.cell? ⟨x, 1, none⟩ = some (.bool b1) ∧ w'.cell? ⟨x, 2, none⟩ = some (.int .i64 n1) ∧ w'.cell? ⟨x, 3, none⟩ = some (.string s1) ∧ w'.cell? ⟨x, 4, none⟩ = some (.slice p1 l1 c1) :=
  ⟨h.c0, h.c1, h.c2, h.c3, h.c4⟩
theorem two_cells {w' : World} {x y : Nat} {k1 : Int} {b1 : Bool} {n1 : Int} {s1 : ByteArray} {p1 : Option Addr} {l1 c1 : Nat} {k2 : Int} {b2 : Bool} {n2 : Int} {s2 : ByteArray} {p2 : Option Addr} {l2 c2 : Nat} (h : BoxAt w' x k1 b1 n1 s1 p1 l1 c1) (g : BoxAt w' y k2 b2 n2 s2 p2 l2 c2) :
    w'.cell? ⟨x, 0, none⟩ = some (.int .i64 k1) ∧ w'.cell? ⟨x, 1, none⟩ = some (.bool b1) ∧ w'.cell? ⟨x, 2, none⟩ = some (.int .i64 n1) ∧ w'.cell? ⟨x, 3, none⟩ = some (.string s1) ∧ w'.cell? ⟨x, 4, none⟩ = some (.slice p1 l1 c1) ∧ w'.cell? ⟨y, 0, none⟩ = some (.int .i64 k2) ∧ w'.cell? ⟨y, 1, none⟩ = some (.bool b2) ∧ w'.cell? ⟨y, 2, none⟩ = some (.int .i64 n2) ∧ w'.cell? ⟨y, 3, none⟩ = some (.string s2) ∧ w'.cell? ⟨y, 4, none⟩ = some (.slice p2 l2 c2) :=
  ⟨h.c0, h.c1, h.c2, h.c3, h.c4, g.c0, g.c1, g.c2, g.c3, g.c4⟩

set_option maxRecDepth 100000 in
set_option maxHeartbeats 4000000 in
theorem truths_walk (k1 : Int) (b1 : Bool) (n1 : Int) (s1 : ByteArray) (p1 : Option Addr) (l1 c1 : Nat) (k2 : Int) (b2 : Bool) (n2 : Int) (s2 : ByteArray) (p2 : Option Addr) (l2 c2 : Nat) (w : World) (ht : w.cell? ⟨3, 0, none⟩ = some (.int .u64 1)) :
    Calls Tryd.prog 5 #[vv k1 b1 n1 s1 p1 l1 c1, vv k2 b2 n2 s2 p2 l2 c2] w fun e w' => e = .returned (.bool true) ∧ Below w.heap.size w w' := by
  unfold vv
  have hb1 := (BoxAt.new w k1 b1 n1 s1 p1 l1 c1 rfl).alloc (.cells #[.int .i64 k2, .bool b2, .int .i64 n2, .string s2, .slice p2 l2 c2] 25)
  have hb2 := BoxAt.new (w.alloc (.cells #[.int .i64 k1, .bool b1, .int .i64 n1, .string s1, .slice p1 l1 c1] 25)) k2 b2 n2 s2 p2 l2 c2 (x := w.heap.size + 1) (by simp)
  go_enter Tryd.func5, Tryd.ntmps5
  go_wp2_with (go_at_call 9; refine (head_any _ (cell_keep _ (cell_keep _ ht))).mono ?_; rintro e w1 ⟨rfl, h1⟩)
  have B1 := hb1.below h1.drew
  have B2 := hb2.below h1.drew
  have h0 := below_on (below_on (below_new w _) (below_new _ _)) h1.drew
  clear h1 hb1 hb2 ht
  obtain ⟨kA, bA, hA⟩ := decT_tv false k1 b1 k2 b2
  obtain ⟨kO, bO, hO⟩ := decT_tv true k1 b1 k2 b2
  obtain ⟨kN, bN, hN⟩ := notT_tv k1 b1
  have hAnd := fun w => And_any k1 b1 n1 s1 p1 l1 c1 k2 b2 n2 s2 p2 l2 c2 w
  have hRAnd := fun w => refAnd_any k1 b1 n1 s1 p1 l1 c1 k2 b2 n2 s2 p2 l2 c2 w
  have hOr := fun w => Or_any k1 b1 n1 s1 p1 l1 c1 k2 b2 n2 s2 p2 l2 c2 w
  have hROr := fun w => refOr_any k1 b1 n1 s1 p1 l1 c1 k2 b2 n2 s2 p2 l2 c2 w
  have hNot := fun w => Not_any k1 b1 n1 s1 p1 l1 c1 w
  have hRNot := fun w => refNot_any k1 b1 n1 s1 p1 l1 c1 w
  unfold vv at hRAnd hROr hNot hRNot
  rw [hA] at hAnd hRAnd
  rw [hO] at hOr hROr
  rw [hN] at hNot hRNot
  clear hA hO hN
  go_region_held3 (fun w' => w'.cell? ⟨w.heap.size, 0, none⟩ = some (.int .i64 k1) ∧ w'.cell? ⟨w.heap.size, 1, none⟩ = some (.bool b1) ∧ w'.cell? ⟨w.heap.size, 2, none⟩ = some (.int .i64 n1) ∧ w'.cell? ⟨w.heap.size, 3, none⟩ = some (.string s1) ∧ w'.cell? ⟨w.heap.size, 4, none⟩ = some (.slice p1 l1 c1) ∧ w'.cell? ⟨w.heap.size + 1, 0, none⟩ = some (.int .i64 k2) ∧ w'.cell? ⟨w.heap.size + 1, 1, none⟩ = some (.bool b2) ∧ w'.cell? ⟨w.heap.size + 1, 2, none⟩ = some (.int .i64 n2) ∧ w'.cell? ⟨w.heap.size + 1, 3, none⟩ = some (.string s2) ∧ w'.cell? ⟨w.heap.size + 1, 4, none⟩ = some (.slice p2 l2 c2))
    (first | exact two_cells B1 B2 | exact two_cells (B1.below ha) (B2.below ha) | exact two_cells ((B1.below ha).below hb) ((B2.below ha).below hb) | exact two_cells (((B1.below ha).below hb).below hc) (((B2.below ha).below hb).below hc))
    (first
      | (go_at_call 27; refine (hAnd _).mono ?_; rintro e wa ⟨rfl, ha⟩)
      | (go_at_call 28; refine (hRAnd _).mono ?_; rintro e wb ⟨rfl, hb⟩)
      | (go_at_call 19; refine (same_tv _ _ _).mono ?_; rintro e wc ⟨rfl, hc⟩))
  have h2 := below_on (below_on (below_on h0 ha) hb) hc.drew
  replace B1 := ((B1.below ha).below hb).below hc.drew
  replace B2 := ((B2.below ha).below hb).below hc.drew
  clear h0 ha hb hc hAnd hRAnd
  go_wp2_with fail
  go_region_held3 (fun w' => w'.cell? ⟨w.heap.size, 0, none⟩ = some (.int .i64 k1) ∧ w'.cell? ⟨w.heap.size, 1, none⟩ = some (.bool b1) ∧ w'.cell? ⟨w.heap.size, 2, none⟩ = some (.int .i64 n1) ∧ w'.cell? ⟨w.heap.size, 3, none⟩ = some (.string s1) ∧ w'.cell? ⟨w.heap.size, 4, none⟩ = some (.slice p1 l1 c1) ∧ w'.cell? ⟨w.heap.size + 1, 0, none⟩ = some (.int .i64 k2) ∧ w'.cell? ⟨w.heap.size + 1, 1, none⟩ = some (.bool b2) ∧ w'.cell? ⟨w.heap.size + 1, 2, none⟩ = some (.int .i64 n2) ∧ w'.cell? ⟨w.heap.size + 1, 3, none⟩ = some (.string s2) ∧ w'.cell? ⟨w.heap.size + 1, 4, none⟩ = some (.slice p2 l2 c2))
    (first | exact two_cells B1 B2 | exact two_cells (B1.below ha) (B2.below ha) | exact two_cells ((B1.below ha).below hb) ((B2.below ha).below hb) | exact two_cells (((B1.below ha).below hb).below hc) (((B2.below ha).below hb).below hc))
    (first
      | (go_at_call 29; refine (hOr _).mono ?_; rintro e wa ⟨rfl, ha⟩)
      | (go_at_call 30; refine (hROr _).mono ?_; rintro e wb ⟨rfl, hb⟩)
      | (go_at_call 19; refine (same_tv _ _ _).mono ?_; rintro e wc ⟨rfl, hc⟩))
  have h3 := below_on (below_on (below_on h2 ha) hb) hc.drew
  replace B1 := ((B1.below ha).below hb).below hc.drew
  clear h2 ha hb hc hOr hROr B2
  go_wp2_with fail
  go_region_held3 (fun w' => w'.cell? ⟨w.heap.size, 0, none⟩ = some (.int .i64 k1) ∧ w'.cell? ⟨w.heap.size, 1, none⟩ = some (.bool b1) ∧ w'.cell? ⟨w.heap.size, 2, none⟩ = some (.int .i64 n1) ∧ w'.cell? ⟨w.heap.size, 3, none⟩ = some (.string s1) ∧ w'.cell? ⟨w.heap.size, 4, none⟩ = some (.slice p1 l1 c1))
    (first | exact one_cells B1 | exact one_cells (B1.below ha) | exact one_cells ((B1.below ha).below hb) | exact one_cells (((B1.below ha).below hb).below hc))
    (first
      | (go_at_call 31; refine (hNot _).mono ?_; rintro e wa ⟨rfl, ha⟩)
      | (go_at_call 32; refine (hRNot _).mono ?_; rintro e wb ⟨rfl, hb⟩)
      | (go_at_call 19; refine (same_tv _ _ _).mono ?_; rintro e wc ⟨rfl, hc⟩))
  have h4 := below_on (below_on (below_on h3 ha) hb) hc
  go_wp2_with fail
  go_returns
  exact ⟨rfl, h4⟩
end Go.Proofs.YtokkmjcpjjiaaaaDoor
