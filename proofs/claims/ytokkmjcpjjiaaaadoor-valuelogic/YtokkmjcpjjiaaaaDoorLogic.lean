/-
  ValueLogic: its own walk.
-/
import Derived.Test.YtokkmjcpjjiaaaaDoorTru
import Derived.Lib.QuietBelow
import Derived.BigQuiet
import Derived.Deep.RegionHeld3
namespace Go.Proofs.YtokkmjcpjjiaaaaDoor
open Go.RowKit Go.Sort
set_option linter.unusedSimpArgs false
set_option linter.unusedVariables false

/-- A kind of a truth. -/
def IsT (k : Int) : Prop := k = 1 ∨ k = 0 ∨ k = 7
theorem decT_comm (d : Bool) (k1 : Int) (b1 : Bool) (k2 : Int) (b2 : Bool) : decT d k1 b1 k2 b2 = decT d k2 b2 k1 b1 := by
  unfold decT
  simp only [or_comm, ne_eq]
/-- And and Or, of kinds and bools. -/
def decK (d : Bool) (k1 : Int) (b1 : Bool) (k2 : Int) (b2 : Bool) : Int × Bool :=
  if (k1 = 1 ∧ b1 = d) ∨ (k2 = 1 ∧ b2 = d) then (1, d) else if k1 = 0 ∨ k2 = 0 then (0, false) else if k1 ≠ 1 ∨ k2 ≠ 1 then (7, false) else (1, !d)
def notK (k : Int) (b : Bool) : Int × Bool := if k = 1 then (1, !b) else if k = 0 then (0, false) else (7, false)
theorem decT_K (d : Bool) (k1 : Int) (b1 : Bool) (k2 : Int) (b2 : Bool) : decT d k1 b1 k2 b2 = tv (decK d k1 b1 k2 b2).1 (decK d k1 b1 k2 b2).2 := by
  unfold decT decK
  split
  · rfl
  · split
    · rfl
    · split <;> rfl
theorem notT_K (k : Int) (b : Bool) : notT k b = tv (notK k b).1 (notK k b).2 := by
  unfold notT notK
  split
  · rfl
  · split <;> rfl
theorem decK_assoc (d : Bool) (k1 : Int) (b1 : Bool) (k2 : Int) (b2 : Bool) (k3 : Int) (b3 : Bool) (h1 : IsT k1) (h2 : IsT k2) (h3 : IsT k3) :
    decK d (decK d k1 b1 k2 b2).1 (decK d k1 b1 k2 b2).2 k3 b3 = decK d k1 b1 (decK d k2 b2 k3 b3).1 (decK d k2 b2 k3 b3).2 := by
  rcases h1 with rfl | rfl | rfl <;> rcases h2 with rfl | rfl | rfl <;> rcases h3 with rfl | rfl | rfl <;> cases d <;> cases b1 <;> cases b2 <;> cases b3 <;> rfl
theorem notK_and (k1 : Int) (b1 : Bool) (k2 : Int) (b2 : Bool) (h1 : IsT k1) (h2 : IsT k2) :
    decK true (notK k1 b1).1 (notK k1 b1).2 (notK k2 b2).1 (notK k2 b2).2 = notK (decK false k1 b1 k2 b2).1 (decK false k1 b1 k2 b2).2 := by
  rcases h1 with rfl | rfl | rfl <;> rcases h2 with rfl | rfl | rfl <;> cases b1 <;> cases b2 <;> rfl

theorem calls_regrown {w : World} {x : Nat} {k : Int} {b : Bool} {n : Int} {s : ByteArray} {p : Option Addr} {l c : Nat} (B : BoxAt w x k b n s p l c) {f : FuncId} {args : Array Value} {v : Value} (h : ∀ w', Calls Tryd.prog f args w' fun e w'' => e = .returned v ∧ Below w'.heap.size w' w'') :
    ∀ d os, Calls Tryd.prog f args (grow (redrawn w d) os) fun e w'' => e = .returned v ∧ ∃ p : Regrown, w'' = grow (redrawn w p.d) p.os := fun d os => Calls.regrown_of (h _)
theorem box_undrew {w : World} {x : Nat} {k : Int} {b : Bool} {n : Int} {s : ByteArray} {p : Option Addr} {l c : Nat} (h : BoxAt w.drew x k b n s p l c) : BoxAt w x k b n s p l c := ⟨h.c0, h.c1, h.c2, h.c3, h.c4, h.fr⟩
theorem below_undrew {B : Nat} {a w : World} (h : Below B a w.drew) : Below B a w := ⟨h.os, h.tape, h.output, h.size, h.block⟩
theorem arr_cell (w : World) (cs : Array Value) (j : Nat) (h : j < cs.size) : (w.alloc (.cells cs 25)).cell? ⟨w.heap.size, j, none⟩ = some cs[j] := by
  simp only [World.cell?, heap_alloc_new]
  simp [h]
theorem field0 (k : Int) (b : Bool) (w : World) : (Instr.field 25 (.agg #[.int .i64 k, .bool b, .int .i64 0, .string ⟨#[]⟩, .slice none 0 0]) 0).run Tryd.prog w = .ok (.int .i64 k) w := by kernel_rfl
theorem field1 (k : Int) (b : Bool) (w : World) : (Instr.field 25 (.agg #[.int .i64 k, .bool b, .int .i64 0, .string ⟨#[]⟩, .slice none 0 0]) 1).run Tryd.prog w = .ok (.bool b) w := by kernel_rfl
theorem t_next {j : Nat} {l : List Int} (h : ∀ i, i < j → IsT (l.getD i 0)) (t : IsT (l.getD j 0)) : ∀ i, i < j + 1 → IsT (l.getD i 0) := fun i hi => by
  by_cases e : i = j
  · rw [e]; exact t
  · exact h i (by omega)
theorem three_cells {w' : World} {x y z : Nat} {k1 : Int} {b1 : Bool} {n1 : Int} {s1 : ByteArray} {p1 : Option Addr} {l1 c1 : Nat} {k2 : Int} {b2 : Bool} {n2 : Int} {s2 : ByteArray} {p2 : Option Addr} {l2 c2 : Nat} {k3 : Int} {b3 : Bool} {n3 : Int} {s3 : ByteArray} {p3 : Option Addr} {l3 c3 : Nat} (h : BoxAt w' x k1 b1 n1 s1 p1 l1 c1) (g : BoxAt w' y k2 b2 n2 s2 p2 l2 c2) (m : BoxAt w' z k3 b3 n3 s3 p3 l3 c3) :
    w'.cell? ⟨x, 0, none⟩ = some (.int .i64 k1) ∧ w'.cell? ⟨x, 1, none⟩ = some (.bool b1) ∧ w'.cell? ⟨x, 2, none⟩ = some (.int .i64 n1) ∧ w'.cell? ⟨x, 3, none⟩ = some (.string s1) ∧ w'.cell? ⟨x, 4, none⟩ = some (.slice p1 l1 c1) ∧ w'.cell? ⟨y, 0, none⟩ = some (.int .i64 k2) ∧ w'.cell? ⟨y, 1, none⟩ = some (.bool b2) ∧ w'.cell? ⟨y, 2, none⟩ = some (.int .i64 n2) ∧ w'.cell? ⟨y, 3, none⟩ = some (.string s2) ∧ w'.cell? ⟨y, 4, none⟩ = some (.slice p2 l2 c2) ∧ w'.cell? ⟨z, 0, none⟩ = some (.int .i64 k3) ∧ w'.cell? ⟨z, 1, none⟩ = some (.bool b3) ∧ w'.cell? ⟨z, 2, none⟩ = some (.int .i64 n3) ∧ w'.cell? ⟨z, 3, none⟩ = some (.string s3) ∧ w'.cell? ⟨z, 4, none⟩ = some (.slice p3 l3 c3) :=
  ⟨h.c0, h.c1, h.c2, h.c3, h.c4, g.c0, g.c1, g.c2, g.c3, g.c4, m.c0, m.c1, m.c2, m.c3, m.c4⟩

set_option maxRecDepth 100000 in
set_option maxHeartbeats 40000000 in
theorem Logic_walk (k1 : Int) (b1 : Bool) (n1 : Int) (s1 : ByteArray) (p1 : Option Addr) (l1 c1 : Nat) (k2 : Int) (b2 : Bool) (n2 : Int) (s2 : ByteArray) (p2 : Option Addr) (l2 c2 : Nat) (k3 : Int) (b3 : Bool) (n3 : Int) (s3 : ByteArray) (p3 : Option Addr) (l3 c3 : Nat) (w : World) (ht : w.cell? ⟨3, 0, none⟩ = some (.int .u64 1)) :
    Calls Tryd.prog 8 #[vv k1 b1 n1 s1 p1 l1 c1, vv k2 b2 n2 s2 p2 l2 c2, vv k3 b3 n3 s3 p3 l3 c3] w fun e w' => e = .returned (.bool true) ∧ Below w.heap.size w w' := by
  unfold vv
  have hb1 := ((BoxAt.new w k1 b1 n1 s1 p1 l1 c1 rfl).alloc (.cells #[.int .i64 k2, .bool b2, .int .i64 n2, .string s2, .slice p2 l2 c2] 25)).alloc (.cells #[.int .i64 k3, .bool b3, .int .i64 n3, .string s3, .slice p3 l3 c3] 25)
  have hb2 := (BoxAt.new (w.alloc (.cells #[.int .i64 k1, .bool b1, .int .i64 n1, .string s1, .slice p1 l1 c1] 25)) k2 b2 n2 s2 p2 l2 c2 (x := w.heap.size + 1) (by simp)).alloc (.cells #[.int .i64 k3, .bool b3, .int .i64 n3, .string s3, .slice p3 l3 c3] 25)
  have hb3 := BoxAt.new ((w.alloc (.cells #[.int .i64 k1, .bool b1, .int .i64 n1, .string s1, .slice p1 l1 c1] 25)).alloc (.cells #[.int .i64 k2, .bool b2, .int .i64 n2, .string s2, .slice p2 l2 c2] 25)) k3 b3 n3 s3 p3 l3 c3 (x := w.heap.size + 1 + 1) (by simp)
  go_enter Tryd.func8, Tryd.ntmps8
  go_wp2_with (go_at_call 9; refine (head_any _ (cell_keep _ (cell_keep _ (cell_keep _ ht)))).mono ?_; rintro e w1 ⟨rfl, h1⟩; have B1 := hb1.below h1; have B2 := hb2.below h1; have B3 := hb3.below h1; obtain ⟨i0, i1, i2, i3, i4, -⟩ := B1; obtain ⟨j0, j1, j2, j3, j4, -⟩ := B2; obtain ⟨m0, m1, m2, m3, m4, -⟩ := B3)
  clear i0 i1 i2 i3 i4 j0 j1 j2 j3 j4 m0 m1 m2 m3 m4
  have h0 := below_on (below_on (below_on (below_new w _) (below_new _ _)) (below_new _ _)) h1
  have B1 := (hb1.below h1).alloc (.cells #[.int .i64 k1, .bool b1, .int .i64 n1, .string s1, .slice p1 l1 c1, .int .i64 k2, .bool b2, .int .i64 n2, .string s2, .slice p2 l2 c2, .int .i64 k3, .bool b3, .int .i64 n3, .string s3, .slice p3 l3 c3] 25)
  have B2 := (hb2.below h1).alloc (.cells #[.int .i64 k1, .bool b1, .int .i64 n1, .string s1, .slice p1 l1 c1, .int .i64 k2, .bool b2, .int .i64 n2, .string s2, .slice p2 l2 c2, .int .i64 k3, .bool b3, .int .i64 n3, .string s3, .slice p3 l3 c3] 25)
  have B3 := (hb3.below h1).alloc (.cells #[.int .i64 k1, .bool b1, .int .i64 n1, .string s1, .slice p1 l1 c1, .int .i64 k2, .bool b2, .int .i64 n2, .string s2, .slice p2 l2 c2, .int .i64 k3, .bool b3, .int .i64 n3, .string s3, .slice p3 l3 c3] 25)
  clear hb1 hb2 hb3 h1 ht
  go_loopw [20] (fun i wr => ∃ j : Nat, j ≤ 3 ∧ i = .int .i64 j ∧ Below (w1.heap.size + 1) (w1.alloc (.cells #[.int .i64 k1, .bool b1, .int .i64 n1, .string s1, .slice p1 l1 c1, .int .i64 k2, .bool b2, .int .i64 n2, .string s2, .slice p2 l2 c2, .int .i64 k3, .bool b3, .int .i64 n3, .string s3, .slice p3 l3 c3] 25)) wr ∧ ∀ i, i < j → IsT ([k1, k2, k3].getD i 0)) (fun i _ => 3 - (intOf i).toNat)
  case atStart => exact ⟨0, by omega, rfl, Below.refl _ _, by intro i hi; omega⟩
  case round =>
    obtain ⟨j, hj, rfl, hb, ht⟩ := hrel
    have hbb : Below w.heap.size w wr := below_on (below_on h0 (below_new _ _)) (by simpa using hb)
    have hsz := hbb.size
    have hc : j = 0 ∨ j = 1 ∨ j = 2 ∨ j = 3 := by omega
    rcases hc with rfl | rfl | rfl | rfl
    · -- 1
      have q0 : wr.cell? ⟨w1.heap.size, 0, none⟩ = some (.int .i64 k1) := (hb.cell (by simp)).trans (arr_cell w1 #[.int .i64 k1, .bool b1, .int .i64 n1, .string s1, .slice p1 l1 c1, .int .i64 k2, .bool b2, .int .i64 n2, .string s2, .slice p2 l2 c2, .int .i64 k3, .bool b3, .int .i64 n3, .string s3, .slice p3 l3 c3] 0 (by simp))
      have q1 : wr.cell? ⟨w1.heap.size, 1, none⟩ = some (.bool b1) := (hb.cell (by simp)).trans (arr_cell w1 #[.int .i64 k1, .bool b1, .int .i64 n1, .string s1, .slice p1 l1 c1, .int .i64 k2, .bool b2, .int .i64 n2, .string s2, .slice p2 l2 c2, .int .i64 k3, .bool b3, .int .i64 n3, .string s3, .slice p3 l3 c3] 1 (by simp))
      have q2 : wr.cell? ⟨w1.heap.size, 2, none⟩ = some (.int .i64 n1) := (hb.cell (by simp)).trans (arr_cell w1 #[.int .i64 k1, .bool b1, .int .i64 n1, .string s1, .slice p1 l1 c1, .int .i64 k2, .bool b2, .int .i64 n2, .string s2, .slice p2 l2 c2, .int .i64 k3, .bool b3, .int .i64 n3, .string s3, .slice p3 l3 c3] 2 (by simp))
      have q3 : wr.cell? ⟨w1.heap.size, 3, none⟩ = some (.string s1) := (hb.cell (by simp)).trans (arr_cell w1 #[.int .i64 k1, .bool b1, .int .i64 n1, .string s1, .slice p1 l1 c1, .int .i64 k2, .bool b2, .int .i64 n2, .string s2, .slice p2 l2 c2, .int .i64 k3, .bool b3, .int .i64 n3, .string s3, .slice p3 l3 c3] 3 (by simp))
      have q4 : wr.cell? ⟨w1.heap.size, 4, none⟩ = some (.slice p1 l1 c1) := (hb.cell (by simp)).trans (arr_cell w1 #[.int .i64 k1, .bool b1, .int .i64 n1, .string s1, .slice p1 l1 c1, .int .i64 k2, .bool b2, .int .i64 n2, .string s2, .slice p2 l2 c2, .int .i64 k3, .bool b3, .int .i64 n3, .string s3, .slice p3 l3 c3] 4 (by simp))
      by_cases tk : IsT k1
      · have tk' := tk
        rcases tk' with hk | hk | hk
        all_goals
          replace tk : Hid (IsT k1) := tk
          replace ht : Hid (∀ i, i < 0 → IsT ([k1, k2, k3].getD i 0)) := ht
          rw [hk] at q0
          clear hk
          go_wp2_with fail
          exact ⟨⟨1, by omega, by go_num, (hb.alloc (by have := hb.size; simp at this; omega) _), t_next ht.out tk.out⟩, by simp [intOf]⟩
      · have t1 : ¬ k1 = 1 := fun h => tk (.inl h)
        have t0 : ¬ k1 = 0 := fun h => tk (.inr (.inl h))
        have t7 : ¬ k1 = 7 := fun h => tk (.inr (.inr h))
        clear tk
        go_wp2_with fail
        all_goals first | (exfalso; simp_all; done) | (go_returns; exact ⟨rfl, by go_grown⟩) | (simp only [Exit.jump]; go_returns; exact ⟨rfl, by go_grown⟩)
    · -- 2
      have q0 : wr.cell? ⟨w1.heap.size, 5, none⟩ = some (.int .i64 k2) := (hb.cell (by simp)).trans (arr_cell w1 #[.int .i64 k1, .bool b1, .int .i64 n1, .string s1, .slice p1 l1 c1, .int .i64 k2, .bool b2, .int .i64 n2, .string s2, .slice p2 l2 c2, .int .i64 k3, .bool b3, .int .i64 n3, .string s3, .slice p3 l3 c3] 5 (by simp))
      have q1 : wr.cell? ⟨w1.heap.size, 6, none⟩ = some (.bool b2) := (hb.cell (by simp)).trans (arr_cell w1 #[.int .i64 k1, .bool b1, .int .i64 n1, .string s1, .slice p1 l1 c1, .int .i64 k2, .bool b2, .int .i64 n2, .string s2, .slice p2 l2 c2, .int .i64 k3, .bool b3, .int .i64 n3, .string s3, .slice p3 l3 c3] 6 (by simp))
      have q2 : wr.cell? ⟨w1.heap.size, 7, none⟩ = some (.int .i64 n2) := (hb.cell (by simp)).trans (arr_cell w1 #[.int .i64 k1, .bool b1, .int .i64 n1, .string s1, .slice p1 l1 c1, .int .i64 k2, .bool b2, .int .i64 n2, .string s2, .slice p2 l2 c2, .int .i64 k3, .bool b3, .int .i64 n3, .string s3, .slice p3 l3 c3] 7 (by simp))
      have q3 : wr.cell? ⟨w1.heap.size, 8, none⟩ = some (.string s2) := (hb.cell (by simp)).trans (arr_cell w1 #[.int .i64 k1, .bool b1, .int .i64 n1, .string s1, .slice p1 l1 c1, .int .i64 k2, .bool b2, .int .i64 n2, .string s2, .slice p2 l2 c2, .int .i64 k3, .bool b3, .int .i64 n3, .string s3, .slice p3 l3 c3] 8 (by simp))
      have q4 : wr.cell? ⟨w1.heap.size, 9, none⟩ = some (.slice p2 l2 c2) := (hb.cell (by simp)).trans (arr_cell w1 #[.int .i64 k1, .bool b1, .int .i64 n1, .string s1, .slice p1 l1 c1, .int .i64 k2, .bool b2, .int .i64 n2, .string s2, .slice p2 l2 c2, .int .i64 k3, .bool b3, .int .i64 n3, .string s3, .slice p3 l3 c3] 9 (by simp))
      by_cases tk : IsT k2
      · have tk' := tk
        rcases tk' with hk | hk | hk
        all_goals
          replace tk : Hid (IsT k2) := tk
          replace ht : Hid (∀ i, i < 1 → IsT ([k1, k2, k3].getD i 0)) := ht
          rw [hk] at q0
          clear hk
          go_wp2_with fail
          exact ⟨⟨2, by omega, by go_num, (hb.alloc (by have := hb.size; simp at this; omega) _), t_next ht.out tk.out⟩, by simp [intOf]⟩
      · have t1 : ¬ k2 = 1 := fun h => tk (.inl h)
        have t0 : ¬ k2 = 0 := fun h => tk (.inr (.inl h))
        have t7 : ¬ k2 = 7 := fun h => tk (.inr (.inr h))
        clear tk
        go_wp2_with fail
        all_goals first | (exfalso; simp_all; done) | (go_returns; exact ⟨rfl, by go_grown⟩) | (simp only [Exit.jump]; go_returns; exact ⟨rfl, by go_grown⟩)
    · -- 3
      have q0 : wr.cell? ⟨w1.heap.size, 10, none⟩ = some (.int .i64 k3) := (hb.cell (by simp)).trans (arr_cell w1 #[.int .i64 k1, .bool b1, .int .i64 n1, .string s1, .slice p1 l1 c1, .int .i64 k2, .bool b2, .int .i64 n2, .string s2, .slice p2 l2 c2, .int .i64 k3, .bool b3, .int .i64 n3, .string s3, .slice p3 l3 c3] 10 (by simp))
      have q1 : wr.cell? ⟨w1.heap.size, 11, none⟩ = some (.bool b3) := (hb.cell (by simp)).trans (arr_cell w1 #[.int .i64 k1, .bool b1, .int .i64 n1, .string s1, .slice p1 l1 c1, .int .i64 k2, .bool b2, .int .i64 n2, .string s2, .slice p2 l2 c2, .int .i64 k3, .bool b3, .int .i64 n3, .string s3, .slice p3 l3 c3] 11 (by simp))
      have q2 : wr.cell? ⟨w1.heap.size, 12, none⟩ = some (.int .i64 n3) := (hb.cell (by simp)).trans (arr_cell w1 #[.int .i64 k1, .bool b1, .int .i64 n1, .string s1, .slice p1 l1 c1, .int .i64 k2, .bool b2, .int .i64 n2, .string s2, .slice p2 l2 c2, .int .i64 k3, .bool b3, .int .i64 n3, .string s3, .slice p3 l3 c3] 12 (by simp))
      have q3 : wr.cell? ⟨w1.heap.size, 13, none⟩ = some (.string s3) := (hb.cell (by simp)).trans (arr_cell w1 #[.int .i64 k1, .bool b1, .int .i64 n1, .string s1, .slice p1 l1 c1, .int .i64 k2, .bool b2, .int .i64 n2, .string s2, .slice p2 l2 c2, .int .i64 k3, .bool b3, .int .i64 n3, .string s3, .slice p3 l3 c3] 13 (by simp))
      have q4 : wr.cell? ⟨w1.heap.size, 14, none⟩ = some (.slice p3 l3 c3) := (hb.cell (by simp)).trans (arr_cell w1 #[.int .i64 k1, .bool b1, .int .i64 n1, .string s1, .slice p1 l1 c1, .int .i64 k2, .bool b2, .int .i64 n2, .string s2, .slice p2 l2 c2, .int .i64 k3, .bool b3, .int .i64 n3, .string s3, .slice p3 l3 c3] 14 (by simp))
      by_cases tk : IsT k3
      · have tk' := tk
        rcases tk' with hk | hk | hk
        all_goals
          replace tk : Hid (IsT k3) := tk
          replace ht : Hid (∀ i, i < 2 → IsT ([k1, k2, k3].getD i 0)) := ht
          rw [hk] at q0
          clear hk
          go_wp2_with fail
          exact ⟨⟨3, by omega, by go_num, (hb.alloc (by have := hb.size; simp at this; omega) _), t_next ht.out tk.out⟩, by simp [intOf]⟩
      · have t1 : ¬ k3 = 1 := fun h => tk (.inl h)
        have t0 : ¬ k3 = 0 := fun h => tk (.inr (.inl h))
        have t7 : ¬ k3 = 7 := fun h => tk (.inr (.inr h))
        clear tk
        go_wp2_with fail
        all_goals first | (exfalso; simp_all; done) | (go_returns; exact ⟨rfl, by go_grown⟩) | (simp only [Exit.jump]; go_returns; exact ⟨rfl, by go_grown⟩)
    · have T1 : IsT k1 := ht 0 (by omega)
      have T2 : IsT k2 := ht 1 (by omega)
      have T3 : IsT k3 := ht 2 (by omega)
      replace T1 : Hid (IsT k1) := T1
      replace T2 : Hid (IsT k2) := T2
      replace T3 : Hid (IsT k3) := T3
      replace B1 := B1.below (w' := wr) (by simpa using hb)
      replace B2 := B2.below (w' := wr) (by simpa using hb)
      replace B3 := B3.below (w' := wr) (by simpa using hb)
      clear hb h0 ht hj hsz
      go_wp2_with fail
      have sm := same_tv
      unfold tv vv at sm
      obtain ⟨ka, ba, ha⟩ : ∃ k b, decK false k1 b1 k2 b2 = (k, b) := ⟨_, _, rfl⟩
      obtain ⟨ka2, ba2, ha2⟩ : ∃ k b, decK false k2 b2 k3 b3 = (k, b) := ⟨_, _, rfl⟩
      obtain ⟨ka3, ba3, ha3⟩ : ∃ k b, decK false k1 b1 ka2 ba2 = (k, b) := ⟨_, _, rfl⟩
      have ha4 : decK false ka ba k3 b3 = (ka3, ba3) := by
        have := decK_assoc false k1 b1 k2 b2 k3 b3 T1 T2 T3
        rw [ha, ha2] at this
        exact this.trans ha3
      have aAB := fun w => And_any k1 b1 n1 s1 p1 l1 c1 k2 b2 n2 s2 p2 l2 c2 w
      have aBA := fun w => And_any k2 b2 n2 s2 p2 l2 c2 k1 b1 n1 s1 p1 l1 c1 w
      have aBC := fun w => And_any k2 b2 n2 s2 p2 l2 c2 k3 b3 n3 s3 p3 l3 c3 w
      have aL := fun w => And_any k1 b1 n1 s1 p1 l1 c1 ka2 ba2 0 ⟨#[]⟩ none 0 0 w
      have aR := fun w => And_any ka ba 0 ⟨#[]⟩ none 0 0 k3 b3 n3 s3 p3 l3 c3 w
      rw [decT_K, ha] at aAB
      rw [decT_comm, decT_K, ha] at aBA
      rw [decT_K, ha2] at aBC
      rw [decT_K, ha3] at aL
      rw [decT_K, ha4] at aR
      unfold tv vv at aAB aBA aBC aL aR
      clear ha2 ha3 ha4
      obtain ⟨ko, bo, ho⟩ : ∃ k b, decK true k1 b1 k2 b2 = (k, b) := ⟨_, _, rfl⟩
      obtain ⟨ko2, bo2, ho2⟩ : ∃ k b, decK true k2 b2 k3 b3 = (k, b) := ⟨_, _, rfl⟩
      obtain ⟨ko3, bo3, ho3⟩ : ∃ k b, decK true k1 b1 ko2 bo2 = (k, b) := ⟨_, _, rfl⟩
      have ho4 : decK true ko bo k3 b3 = (ko3, bo3) := by
        have := decK_assoc true k1 b1 k2 b2 k3 b3 T1 T2 T3
        rw [ho, ho2] at this
        exact this.trans ho3
      have oAB := fun w => Or_any k1 b1 n1 s1 p1 l1 c1 k2 b2 n2 s2 p2 l2 c2 w
      have oBA := fun w => Or_any k2 b2 n2 s2 p2 l2 c2 k1 b1 n1 s1 p1 l1 c1 w
      have oBC := fun w => Or_any k2 b2 n2 s2 p2 l2 c2 k3 b3 n3 s3 p3 l3 c3 w
      have oL := fun w => Or_any k1 b1 n1 s1 p1 l1 c1 ko2 bo2 0 ⟨#[]⟩ none 0 0 w
      have oR := fun w => Or_any ko bo 0 ⟨#[]⟩ none 0 0 k3 b3 n3 s3 p3 l3 c3 w
      rw [decT_K, ho] at oAB
      rw [decT_comm, decT_K, ho] at oBA
      rw [decT_K, ho2] at oBC
      rw [decT_K, ho3] at oL
      rw [decT_K, ho4] at oR
      unfold tv vv at oAB oBA oBC oL oR
      clear ho2 ho3 ho4
      obtain ⟨kx, bx, hx1⟩ : ∃ k b, notK k1 b1 = (k, b) := ⟨_, _, rfl⟩
      obtain ⟨ky, by', hy1⟩ : ∃ k b, notK k2 b2 = (k, b) := ⟨_, _, rfl⟩
      obtain ⟨kz, bz, hz1⟩ : ∃ k b, notK ka ba = (k, b) := ⟨_, _, rfl⟩
      have hm : decK true kx bx ky by' = (kz, bz) := by
        have := notK_and k1 b1 k2 b2 T1 T2
        rw [hx1, hy1, ha] at this
        exact this.trans hz1
      have nA := fun w => Not_any k1 b1 n1 s1 p1 l1 c1 w
      have nB := fun w => Not_any k2 b2 n2 s2 p2 l2 c2 w
      have nAB := fun w => Not_any ka ba 0 ⟨#[]⟩ none 0 0 w
      have oN := fun w => Or_any kx bx 0 ⟨#[]⟩ none 0 0 ky by' 0 ⟨#[]⟩ none 0 0 w
      rw [notT_K, hx1] at nA
      rw [notT_K, hy1] at nB
      rw [notT_K, hz1] at nAB
      rw [decT_K, hm] at oN
      unfold tv vv at nA nB nAB oN
      clear hy1 hz1 hm ha ho
      replace hx1 : Hid _ := hx1
      replace B1 := B1.below (w' := World.drew _) (Below.refl _ _).drew
      replace B2 := B2.below (w' := World.drew _) (Below.refl _ _).drew
      replace B3 := B3.below (w' := World.drew _) (Below.refl _ _).drew
      replace hbb := hbb.drew
      go_region_held3 (fun w' => w'.cell? ⟨w.heap.size, 0, none⟩ = some (.int .i64 k1) ∧ w'.cell? ⟨w.heap.size, 1, none⟩ = some (.bool b1) ∧ w'.cell? ⟨w.heap.size, 2, none⟩ = some (.int .i64 n1) ∧ w'.cell? ⟨w.heap.size, 3, none⟩ = some (.string s1) ∧ w'.cell? ⟨w.heap.size, 4, none⟩ = some (.slice p1 l1 c1) ∧ w'.cell? ⟨w.heap.size + 1, 0, none⟩ = some (.int .i64 k2) ∧ w'.cell? ⟨w.heap.size + 1, 1, none⟩ = some (.bool b2) ∧ w'.cell? ⟨w.heap.size + 1, 2, none⟩ = some (.int .i64 n2) ∧ w'.cell? ⟨w.heap.size + 1, 3, none⟩ = some (.string s2) ∧ w'.cell? ⟨w.heap.size + 1, 4, none⟩ = some (.slice p2 l2 c2) ∧ w'.cell? ⟨w.heap.size + 1 + 1, 0, none⟩ = some (.int .i64 k3) ∧ w'.cell? ⟨w.heap.size + 1 + 1, 1, none⟩ = some (.bool b3) ∧ w'.cell? ⟨w.heap.size + 1 + 1, 2, none⟩ = some (.int .i64 n3) ∧ w'.cell? ⟨w.heap.size + 1 + 1, 3, none⟩ = some (.string s3) ∧ w'.cell? ⟨w.heap.size + 1 + 1, 4, none⟩ = some (.slice p3 l3 c3))
        (exact three_cells B1 B2 B3)
        (first
        | (go_at_call 27; (first | (with_reducible refine Calls.mono (aAB _) ?_) | (with_reducible refine Calls.mono (aBA _) ?_)); rintro e wx ⟨rfl, hx⟩; replace B1 := B1.below hx; replace B2 := B2.below hx; replace B3 := B3.below hx; replace hbb := below_on hbb hx; clear hx)
        | (go_at_call 29; (first | (with_reducible refine Calls.mono (oAB _) ?_) | (with_reducible refine Calls.mono (oBA _) ?_)); rintro e wx ⟨rfl, hx⟩; replace B1 := B1.below hx; replace B2 := B2.below hx; replace B3 := B3.below hx; replace hbb := below_on hbb hx; clear hx)
        | (go_at_call 19; refine Calls.mono (sm _ _ _) ?_; rintro e wx ⟨rfl, hx⟩; replace B1 := B1.below hx; replace B2 := B2.below hx; replace B3 := B3.below hx; replace hbb := below_on hbb hx; clear hx))
      clear oBA aBA
      go_wp2_with fail
      replace B1 := B1.below (w' := World.drew _) (Below.refl _ _).drew
      replace B2 := B2.below (w' := World.drew _) (Below.refl _ _).drew
      replace B3 := B3.below (w' := World.drew _) (Below.refl _ _).drew
      replace hbb := hbb.drew
      go_region_held3 (fun w' => w'.cell? ⟨w.heap.size, 0, none⟩ = some (.int .i64 k1) ∧ w'.cell? ⟨w.heap.size, 1, none⟩ = some (.bool b1) ∧ w'.cell? ⟨w.heap.size, 2, none⟩ = some (.int .i64 n1) ∧ w'.cell? ⟨w.heap.size, 3, none⟩ = some (.string s1) ∧ w'.cell? ⟨w.heap.size, 4, none⟩ = some (.slice p1 l1 c1) ∧ w'.cell? ⟨w.heap.size + 1, 0, none⟩ = some (.int .i64 k2) ∧ w'.cell? ⟨w.heap.size + 1, 1, none⟩ = some (.bool b2) ∧ w'.cell? ⟨w.heap.size + 1, 2, none⟩ = some (.int .i64 n2) ∧ w'.cell? ⟨w.heap.size + 1, 3, none⟩ = some (.string s2) ∧ w'.cell? ⟨w.heap.size + 1, 4, none⟩ = some (.slice p2 l2 c2) ∧ w'.cell? ⟨w.heap.size + 1 + 1, 0, none⟩ = some (.int .i64 k3) ∧ w'.cell? ⟨w.heap.size + 1 + 1, 1, none⟩ = some (.bool b3) ∧ w'.cell? ⟨w.heap.size + 1 + 1, 2, none⟩ = some (.int .i64 n3) ∧ w'.cell? ⟨w.heap.size + 1 + 1, 3, none⟩ = some (.string s3) ∧ w'.cell? ⟨w.heap.size + 1 + 1, 4, none⟩ = some (.slice p3 l3 c3))
        (exact three_cells B1 B2 B3)
        (first
        | (go_at_call 27; (first | (with_reducible refine Calls.mono (aBC _) ?_) | (with_reducible refine Calls.mono (aL _) ?_) | (with_reducible refine Calls.mono (aAB _) ?_) | (with_reducible refine Calls.mono (aR _) ?_)); rintro e wx ⟨rfl, hx⟩; replace B1 := B1.below hx; replace B2 := B2.below hx; replace B3 := B3.below hx; replace hbb := below_on hbb hx; clear hx)
        | (go_at_call 29; (first | (with_reducible refine Calls.mono (oBC _) ?_) | (with_reducible refine Calls.mono (oL _) ?_) | (with_reducible refine Calls.mono (oAB _) ?_) | (with_reducible refine Calls.mono (oR _) ?_)); rintro e wx ⟨rfl, hx⟩; replace B1 := B1.below hx; replace B2 := B2.below hx; replace B3 := B3.below hx; replace hbb := below_on hbb hx; clear hx)
        | (go_at_call 19; refine Calls.mono (sm _ _ _) ?_; rintro e wx ⟨rfl, hx⟩; replace B1 := B1.below hx; replace B2 := B2.below hx; replace B3 := B3.below hx; replace hbb := below_on hbb hx; clear hx))
      clear aBC aL aR oBC oL oAB oR
      go_wp2_with fail
      replace B1 := B1.below (w' := World.drew _) (Below.refl _ _).drew
      replace B2 := B2.below (w' := World.drew _) (Below.refl _ _).drew
      replace B3 := B3.below (w' := World.drew _) (Below.refl _ _).drew
      replace hbb := hbb.drew
      go_region_held3 (fun w' => w'.cell? ⟨w.heap.size, 0, none⟩ = some (.int .i64 k1) ∧ w'.cell? ⟨w.heap.size, 1, none⟩ = some (.bool b1) ∧ w'.cell? ⟨w.heap.size, 2, none⟩ = some (.int .i64 n1) ∧ w'.cell? ⟨w.heap.size, 3, none⟩ = some (.string s1) ∧ w'.cell? ⟨w.heap.size, 4, none⟩ = some (.slice p1 l1 c1) ∧ w'.cell? ⟨w.heap.size + 1, 0, none⟩ = some (.int .i64 k2) ∧ w'.cell? ⟨w.heap.size + 1, 1, none⟩ = some (.bool b2) ∧ w'.cell? ⟨w.heap.size + 1, 2, none⟩ = some (.int .i64 n2) ∧ w'.cell? ⟨w.heap.size + 1, 3, none⟩ = some (.string s2) ∧ w'.cell? ⟨w.heap.size + 1, 4, none⟩ = some (.slice p2 l2 c2) ∧ w'.cell? ⟨w.heap.size + 1 + 1, 0, none⟩ = some (.int .i64 k3) ∧ w'.cell? ⟨w.heap.size + 1 + 1, 1, none⟩ = some (.bool b3) ∧ w'.cell? ⟨w.heap.size + 1 + 1, 2, none⟩ = some (.int .i64 n3) ∧ w'.cell? ⟨w.heap.size + 1 + 1, 3, none⟩ = some (.string s3) ∧ w'.cell? ⟨w.heap.size + 1 + 1, 4, none⟩ = some (.slice p3 l3 c3))
        (exact three_cells B1 B2 B3)
        (first
        | (go_at_call 27; (first | (with_reducible refine Calls.mono (aAB _) ?_)); rintro e wx ⟨rfl, hx⟩; replace B1 := B1.below hx; replace B2 := B2.below hx; replace B3 := B3.below hx; replace hbb := below_on hbb hx; clear hx)
        | (go_at_call 31; (first | (with_reducible refine Calls.mono (nAB _) ?_) | (with_reducible refine Calls.mono (nA _) ?_) | (with_reducible refine Calls.mono (nB _) ?_)); rintro e wx ⟨rfl, hx⟩; replace B1 := B1.below hx; replace B2 := B2.below hx; replace B3 := B3.below hx; replace hbb := below_on hbb hx; clear hx)
        | (go_at_call 29; (first | (with_reducible refine Calls.mono (oN _) ?_)); rintro e wx ⟨rfl, hx⟩; replace B1 := B1.below hx; replace B2 := B2.below hx; replace B3 := B3.below hx; replace hbb := below_on hbb hx; clear hx)
        | (go_at_call 19; refine Calls.mono (sm _ _ _) ?_; rintro e wx ⟨rfl, hx⟩; replace B1 := B1.below hx; replace B2 := B2.below hx; replace B3 := B3.below hx; replace hbb := below_on hbb hx; clear hx))
      clear aAB nAB nA nB oN hx1 sm
      go_wp2_with fail
      replace B1 := B1.below (w' := World.drew _) (Below.refl _ _).drew
      replace B2 := B2.below (w' := World.drew _) (Below.refl _ _).drew
      replace B3 := B3.below (w' := World.drew _) (Below.refl _ _).drew
      replace hbb := hbb.drew
      have tt := T1.out
      have hf0 := field0
      have hf1 := field1
      clear T1 T2 T3
      rcases tt with rfl | rfl | rfl
      · have nF := fun w => Not_any 1 b1 n1 s1 p1 l1 c1 w
        have nG := fun w => Not_any 1 (!b1) 0 ⟨#[]⟩ none 0 0 w
        rw [show notT 1 b1 = tv 1 (!b1) from rfl] at nF
        rw [show notT 1 (!b1) = tv 1 b1 from by simp [notT]] at nG
        unfold tv vv at nF nG
        go_region_held3 (fun w' => w'.cell? ⟨w.heap.size, 0, none⟩ = some (.int .i64 1) ∧ w'.cell? ⟨w.heap.size, 1, none⟩ = some (.bool b1) ∧ w'.cell? ⟨w.heap.size, 2, none⟩ = some (.int .i64 n1) ∧ w'.cell? ⟨w.heap.size, 3, none⟩ = some (.string s1) ∧ w'.cell? ⟨w.heap.size, 4, none⟩ = some (.slice p1 l1 c1) ∧ w'.cell? ⟨w.heap.size + 1, 0, none⟩ = some (.int .i64 k2) ∧ w'.cell? ⟨w.heap.size + 1, 1, none⟩ = some (.bool b2) ∧ w'.cell? ⟨w.heap.size + 1, 2, none⟩ = some (.int .i64 n2) ∧ w'.cell? ⟨w.heap.size + 1, 3, none⟩ = some (.string s2) ∧ w'.cell? ⟨w.heap.size + 1, 4, none⟩ = some (.slice p2 l2 c2) ∧ w'.cell? ⟨w.heap.size + 1 + 1, 0, none⟩ = some (.int .i64 k3) ∧ w'.cell? ⟨w.heap.size + 1 + 1, 1, none⟩ = some (.bool b3) ∧ w'.cell? ⟨w.heap.size + 1 + 1, 2, none⟩ = some (.int .i64 n3) ∧ w'.cell? ⟨w.heap.size + 1 + 1, 3, none⟩ = some (.string s3) ∧ w'.cell? ⟨w.heap.size + 1 + 1, 4, none⟩ = some (.slice p3 l3 c3))
          (exact three_cells B1 B2 B3)
          (first
          | (go_at_call 31; (first | (with_reducible refine Calls.mono (nF _) ?_) | (with_reducible refine Calls.mono (nG _) ?_)); rintro e wx ⟨rfl, hx⟩; replace B1 := B1.below hx; replace B2 := B2.below hx; replace B3 := B3.below hx; replace hbb := below_on hbb hx; clear hx))
        all_goals go_wp2_with fail
        all_goals go_returns
        all_goals exact ⟨rfl, hbb⟩
      · have nF := fun w => Not_any 0 b1 n1 s1 p1 l1 c1 w
        have nG := fun w => Not_any 0 false 0 ⟨#[]⟩ none 0 0 w
        rw [show notT 0 b1 = tv 0 false from rfl] at nF
        rw [show notT 0 false = tv 0 false from rfl] at nG
        unfold tv vv at nF nG
        replace B1 := box_undrew B1
        replace hbb := below_undrew hbb
        have cF := calls_regrown B1 nF
        have cG := calls_regrown B1 nG
        obtain ⟨i0, i1, i2, i3, i4, -⟩ := B1
        have e0 := cell_regrown i0
        have e1 := cell_regrown i1
        have e2 := cell_regrown i2
        have e3 := cell_regrown i3
        have e4 := cell_regrown i4
        clear i0 i1 i2 i3 i4 B2 B3
        clear nF nG
        replace cF : Hid _ := cF
        replace cG : Hid _ := cG
        refine wp_region_quiet_below (by kernel_rfl) (by kernel_rfl) ?_
        repeat (first | go_big_quiet_step (first | (with_reducible exact cF.out _ _) | (with_reducible exact cG.out _ _)) | quiet_step (first | (with_reducible exact cF.out _ _) | (with_reducible exact cG.out _ _)))
        refine wpQuiet_nil ?_
        intro _ hw'
        obtain ⟨⟨dq, osq⟩, hw''⟩ := hw'
        subst hw''
        go_wp2_with fail
        go_returns
        exact ⟨rfl, below_on hbb (below_regrown _ _ _)⟩
      · have nF := fun w => Not_any 7 b1 n1 s1 p1 l1 c1 w
        have nG := fun w => Not_any 7 false 0 ⟨#[]⟩ none 0 0 w
        rw [show notT 7 b1 = tv 7 false from rfl] at nF
        rw [show notT 7 false = tv 7 false from rfl] at nG
        unfold tv vv at nF nG
        replace B1 := box_undrew B1
        replace hbb := below_undrew hbb
        have cF := calls_regrown B1 nF
        have cG := calls_regrown B1 nG
        obtain ⟨i0, i1, i2, i3, i4, -⟩ := B1
        have e0 := cell_regrown i0
        have e1 := cell_regrown i1
        have e2 := cell_regrown i2
        have e3 := cell_regrown i3
        have e4 := cell_regrown i4
        clear i0 i1 i2 i3 i4 B2 B3
        clear nF nG
        replace cF : Hid _ := cF
        replace cG : Hid _ := cG
        refine wp_region_quiet_below (by kernel_rfl) (by kernel_rfl) ?_
        repeat (first | go_big_quiet_step (first | (with_reducible exact cF.out _ _) | (with_reducible exact cG.out _ _)) | quiet_step (first | (with_reducible exact cF.out _ _) | (with_reducible exact cG.out _ _)))
        refine wpQuiet_nil ?_
        intro _ hw'
        obtain ⟨⟨dq, osq⟩, hw''⟩ := hw'
        subst hw''
        go_wp2_with fail
        go_returns
        exact ⟨rfl, below_on hbb (below_regrown _ _ _)⟩

end Go.Proofs.YtokkmjcpjjiaaaaDoor
