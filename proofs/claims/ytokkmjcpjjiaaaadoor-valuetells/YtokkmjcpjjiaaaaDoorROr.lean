/-
  Or of the document.
-/
import Derived.Test.YtokkmjcpjjiaaaaDoorRnd
namespace Go.Proofs.YtokkmjcpjjiaaaaDoor
open Go.RowKit
set_option linter.unusedSimpArgs false
set_option linter.unusedVariables false

set_option maxRecDepth 100000 in
set_option maxHeartbeats 2000000 in
theorem refOr_any (k1 : Int) (b1 : Bool) (n1 : Int) (s1 : ByteArray) (p1 : Option Addr) (l1 c1 : Nat) (k2 : Int) (b2 : Bool) (n2 : Int) (s2 : ByteArray) (p2 : Option Addr) (l2 c2 : Nat) (w : World) :
    Calls Tryd.prog 30 #[vv k1 b1 n1 s1 p1 l1 c1, vv k2 b2 n2 s2 p2 l2 c2] w fun e w' => e = .returned (decT true k1 b1 k2 b2) ∧ Below w.heap.size w w' := by
  unfold vv
  refine dec_all true k1 b1 k2 b2 ?_ ?_ ?_ ?_ ?_ ?_ ?_ ?_ ?_ ?_ ?_
  · intro a b
    subst k1
    subst b1
    rw [show decT true _ _ _ _ = tv 1 true by simp [decT]]
    skip
    go_enter Tryd.func30, Tryd.ntmps30
    go_wp2_with (first | (go_at_call 35; refine (Truth_raw _ _).mono ?_; rintro e w1 ⟨rfl, rfl⟩) | (go_at_call 57; refine (Fault_raw _).mono ?_; rintro e w1 ⟨rfl, rfl⟩))
    all_goals first | (go_returns; exact ⟨rfl, by go_grown⟩) | (exfalso; simp_all; done)
  · intro a b c e
    subst k1
    subst b1
    subst k2
    subst b2
    rw [show decT true _ _ _ _ = tv 1 true by simp [decT]]
    skip
    go_enter Tryd.func30, Tryd.ntmps30
    go_wp2_with (first | (go_at_call 35; refine (Truth_raw _ _).mono ?_; rintro e w1 ⟨rfl, rfl⟩) | (go_at_call 57; refine (Fault_raw _).mono ?_; rintro e w1 ⟨rfl, rfl⟩))
    all_goals first | (go_returns; exact ⟨rfl, by go_grown⟩) | (exfalso; simp_all; done)
  · intro a b c e
    subst k1
    subst b1
    subst k2
    subst b2
    rw [show decT true _ _ _ _ = tv 1 false by simp [decT]]
    skip
    go_enter Tryd.func30, Tryd.ntmps30
    go_wp2_with (first | (go_at_call 35; refine (Truth_raw _ _).mono ?_; rintro e w1 ⟨rfl, rfl⟩) | (go_at_call 57; refine (Fault_raw _).mono ?_; rintro e w1 ⟨rfl, rfl⟩))
    all_goals first | (go_returns; exact ⟨rfl, by go_grown⟩) | (exfalso; simp_all; done)
  · intro a b c
    subst k1
    subst b1
    subst k2
    rw [show decT true _ _ _ _ = tv 0 false by simp [decT]]
    skip
    go_enter Tryd.func30, Tryd.ntmps30
    go_wp2_with (first | (go_at_call 35; refine (Truth_raw _ _).mono ?_; rintro e w1 ⟨rfl, rfl⟩) | (go_at_call 57; refine (Fault_raw _).mono ?_; rintro e w1 ⟨rfl, rfl⟩))
    all_goals first | (go_returns; exact ⟨rfl, by go_grown⟩) | (exfalso; simp_all; done)
  · intro a b h3 h4
    subst k1
    subst b1
    rw [show decT true _ _ _ _ = tv 7 false by simp [decT, h3, h4]]
    skip
    go_enter Tryd.func30, Tryd.ntmps30
    go_wp2_with (first | (go_at_call 35; refine (Truth_raw _ _).mono ?_; rintro e w1 ⟨rfl, rfl⟩) | (go_at_call 57; refine (Fault_raw _).mono ?_; rintro e w1 ⟨rfl, rfl⟩))
    all_goals first | (go_returns; exact ⟨rfl, by go_grown⟩) | (exfalso; simp_all; done)
  · intro h1 a b
    subst k2
    subst b2
    rw [show decT true _ _ _ _ = tv 1 true by simp [decT, h1]]
    skip
    go_enter Tryd.func30, Tryd.ntmps30
    go_wp2_with (first | (go_at_call 35; refine (Truth_raw _ _).mono ?_; rintro e w1 ⟨rfl, rfl⟩) | (go_at_call 57; refine (Fault_raw _).mono ?_; rintro e w1 ⟨rfl, rfl⟩))
    all_goals first | (go_returns; exact ⟨rfl, by go_grown⟩) | (exfalso; simp_all; done)
  · intro a b c
    subst k1
    subst k2
    subst b2
    rw [show decT true _ _ _ _ = tv 0 false by simp [decT]]
    skip
    go_enter Tryd.func30, Tryd.ntmps30
    go_wp2_with (first | (go_at_call 35; refine (Truth_raw _ _).mono ?_; rintro e w1 ⟨rfl, rfl⟩) | (go_at_call 57; refine (Fault_raw _).mono ?_; rintro e w1 ⟨rfl, rfl⟩))
    all_goals first | (go_returns; exact ⟨rfl, by go_grown⟩) | (exfalso; simp_all; done)
  · intro a h2
    subst k1
    rw [show decT true _ _ _ _ = tv 0 false by simp [decT, h2]]
    skip
    go_enter Tryd.func30, Tryd.ntmps30
    go_wp2_with (first | (go_at_call 35; refine (Truth_raw _ _).mono ?_; rintro e w1 ⟨rfl, rfl⟩) | (go_at_call 57; refine (Fault_raw _).mono ?_; rintro e w1 ⟨rfl, rfl⟩))
    all_goals first | (go_returns; exact ⟨rfl, by go_grown⟩) | (exfalso; simp_all; done)
  · intro h1 h2 a b
    subst k2
    subst b2
    rw [show decT true _ _ _ _ = tv 7 false by simp [decT, h1, h2]]
    skip
    go_enter Tryd.func30, Tryd.ntmps30
    go_wp2_with (first | (go_at_call 35; refine (Truth_raw _ _).mono ?_; rintro e w1 ⟨rfl, rfl⟩) | (go_at_call 57; refine (Fault_raw _).mono ?_; rintro e w1 ⟨rfl, rfl⟩))
    all_goals first | (go_returns; exact ⟨rfl, by go_grown⟩) | (exfalso; simp_all; done)
  · intro h1 h2 a
    subst k2
    rw [show decT true _ _ _ _ = tv 0 false by simp [decT, h1, h2]]
    skip
    go_enter Tryd.func30, Tryd.ntmps30
    go_wp2_with (first | (go_at_call 35; refine (Truth_raw _ _).mono ?_; rintro e w1 ⟨rfl, rfl⟩) | (go_at_call 57; refine (Fault_raw _).mono ?_; rintro e w1 ⟨rfl, rfl⟩))
    all_goals first | (go_returns; exact ⟨rfl, by go_grown⟩) | (exfalso; simp_all; done)
  · intro h1 h2 h3 h4
    rw [show decT true _ _ _ _ = tv 7 false by simp [decT, h1, h2, h3, h4]]
    skip
    go_enter Tryd.func30, Tryd.ntmps30
    go_wp2_with (first | (go_at_call 35; refine (Truth_raw _ _).mono ?_; rintro e w1 ⟨rfl, rfl⟩) | (go_at_call 57; refine (Fault_raw _).mono ?_; rintro e w1 ⟨rfl, rfl⟩))
    all_goals first | (go_returns; exact ⟨rfl, by go_grown⟩) | (exfalso; simp_all; done)
end Go.Proofs.YtokkmjcpjjiaaaaDoor
