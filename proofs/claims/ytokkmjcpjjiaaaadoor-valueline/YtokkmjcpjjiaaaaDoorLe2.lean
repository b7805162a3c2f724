/-
  Less of the document.
-/
import Derived.Test.YtokkmjcpjjiaaaaDoorEqt
namespace Go.Proofs.YtokkmjcpjjiaaaaDoor
open Go.RowKit
set_option linter.unusedSimpArgs false
set_option linter.unusedVariables false

set_option maxRecDepth 100000 in
set_option maxHeartbeats 4000000 in
theorem refLess_any (k1 : Int) (b1 : Bool) (n1 : Int) (s1 : ByteArray) (p1 : Option Addr) (l1 c1 : Nat) (z1 : List Int) (k2 : Int) (b2 : Bool) (n2 : Int) (s2 : ByteArray) (p2 : Option Addr) (l2 c2 : Nat) (z2 : List Int) (w : World) (h1 : z1.length = l1) (h2 : z2.length = l2) (q1 : PathAt w p1 z1) (q2 : PathAt w p2 z2) (m1 : l1 ≤ maxLen) (m2 : l2 ≤ maxLen) :
    Calls Tryd.prog 26 #[vv k1 b1 n1 s1 p1 l1 c1, vv k2 b2 n2 s2 p2 l2 c2] w fun e w' => e = .returned (lessT k1 k2 (ordV k1 b1 n1 s1 z1 k2 b2 n2 s2 z2)) ∧ Below w.heap.size w w' := by
  unfold vv
  have hO := refOrder_any k1 b1 n1 s1 p1 l1 c1 z1 k2 b2 n2 s2 p2 l2 c2 z2 (((w.alloc (.cells #[.int .i64 k1, .bool b1, .int .i64 n1, .string s1, .slice p1 l1 c1] 25)).alloc (.cells #[.int .i64 k2, .bool b2, .int .i64 n2, .string s2, .slice p2 l2 c2] 25)).alloc (.cells #[.int .i64 0, .bool false, .int .i64 0, .string ⟨#[]⟩, .slice none 0 0] 25)) h1 h2 (((q1.alloc _).alloc _).alloc _) (((q2.alloc _).alloc _).alloc _) m1 m2
  unfold vv at hO
  generalize ordV k1 b1 n1 s1 z1 k2 b2 n2 s2 z2 = ov at hO ⊢
  have hbx := BoxAt.new ((w.alloc (.cells #[.int .i64 k1, .bool b1, .int .i64 n1, .string s1, .slice p1 l1 c1] 25)).alloc (.cells #[.int .i64 k2, .bool b2, .int .i64 n2, .string s2, .slice p2 l2 c2] 25)) 0 false 0 ⟨#[]⟩ none 0 0 (x := w.heap.size + 1 + 1) (by simp)
  clear q1 q2 m1 m2
  by_cases c0 : k1 = 0
  · have hr : lessT k1 k2 ov = tv 0 false := by unfold lessT; simp [c0]
    rw [hr]
    clear hr hO hbx
    unfold tv vv
    subst c0
    go_enter Tryd.func26, Tryd.ntmps26
    go_wp2_with (go_at_call 57; refine (Fault_raw _).mono ?_; rintro e wf ⟨rfl, rfl⟩)
    all_goals first | (go_returns; exact ⟨rfl, by go_grown⟩) | (exfalso; simp_all; done)
  by_cases d0 : k2 = 0
  · have hr : lessT k1 k2 ov = tv 0 false := by unfold lessT; simp [d0]
    rw [hr]
    clear hr hO hbx
    unfold tv vv
    subst d0
    go_enter Tryd.func26, Tryd.ntmps26
    go_wp2_with (go_at_call 57; refine (Fault_raw _).mono ?_; rintro e wf ⟨rfl, rfl⟩)
    all_goals first | (go_returns; exact ⟨rfl, by go_grown⟩) | (exfalso; simp_all; done)
  by_cases c7 : k1 = 7
  · have hr : lessT k1 k2 ov = tv 7 false := by unfold lessT; simp [d0, c7]
    rw [hr]
    clear hr hO hbx
    unfold tv vv
    subst c7
    go_enter Tryd.func26, Tryd.ntmps26
    go_wp2_with (go_at_call 57; refine (Fault_raw _).mono ?_; rintro e wf ⟨rfl, rfl⟩)
    all_goals first | (go_returns; exact ⟨rfl, by go_grown⟩) | (exfalso; simp_all; done)
  by_cases d7 : k2 = 7
  · have hr : lessT k1 k2 ov = tv 7 false := by unfold lessT; simp [c0, d7]
    rw [hr]
    clear hr hO hbx
    unfold tv vv
    subst d7
    go_enter Tryd.func26, Tryd.ntmps26
    go_wp2_with (go_at_call 57; refine (Fault_raw _).mono ?_; rintro e wf ⟨rfl, rfl⟩)
    all_goals first | (go_returns; exact ⟨rfl, by go_grown⟩) | (exfalso; simp_all; done)
  by_cases ne : k1 = k2
  case neg =>
    have hr : lessT k1 k2 ov = tv 7 false := by unfold lessT; simp [c0, d0, c7, d7, ne]
    rw [hr]
    clear hr hO hbx
    unfold tv vv
    go_enter Tryd.func26, Tryd.ntmps26
    go_wp2_with (go_at_call 57; refine (Fault_raw _).mono ?_; rintro e wf ⟨rfl, rfl⟩)
    all_goals first | (go_returns; exact ⟨rfl, by go_grown⟩) | (exfalso; simp_all; done)
  case pos =>
  subst ne
  have hr : lessT k1 k1 ov = tv 1 (decide (ov < 0)) := by unfold lessT; simp [c0, c7]
  rw [hr]
  clear hr
  unfold tv vv
  replace hO : Hid _ := hO
  replace hbx : Hid _ := hbx
  go_enter Tryd.func26, Tryd.ntmps26
  go_wp2_with (first | (go_at_call 22; refine Calls.mono hO.out ?_; rintro e w1 ⟨rfl, g1⟩) | (go_at_call 35; refine (Truth_raw _ _).mono ?_; rintro e w2 ⟨rfl, rfl⟩; have B := (BoxAt.below hbx.out g1).alloc (.cells #[.int .i64 1, .bool (decide (ov < 0)), .int .i64 0, .string ⟨#[]⟩, .slice none 0 0] 25); obtain ⟨y0, y1, y2, y3, y4, fr⟩ := B; have f0 := fr 0; have f1 := fr 1; have f2 := fr 2; have f3 := fr 3; have f4 := fr 4))
  all_goals first | (exfalso; simp_all; done) | skip
  have hb : Below w.heap.size w w1 := below_on (below_on (below_on (below_new _ _) (below_new _ _)) (below_new _ _)) g1
  have hsz := hb.size
  refine bodyPost_ret (results_box rfl _ rfl (((BoxAt.below hbx.out g1).alloc _).put _ _ _ _ _ _ _)) rfl ?_
  exact ⟨rfl, by go_grown⟩
end Go.Proofs.YtokkmjcpjjiaaaaDoor
