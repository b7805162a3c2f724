/-
  That the fields that do not count are zero: othersAreZero.
-/
import Derived.Test.YtokkmjcpjjiaaaaDoorRgt
namespace Go.Proofs.YtokkmjcpjjiaaaaDoor
open Go.RowKit
set_option linter.unusedSimpArgs false
set_option linter.unusedVariables false

set_option maxRecDepth 100000 in
set_option maxHeartbeats 4000000 in
theorem oth_b1 (b : Bool) (n : Int) (s : ByteArray) (p : Option Addr) (l c : Nat) (w : World) :
    Calls Tryd.prog 38 #[.agg #[.int .i64 1, .bool b, .int .i64 n, .string s, .slice p l c]] w fun e w' => e = .returned (.bool (othB 1 b n s l)) ∧ Below w.heap.size w w' := by
  by_cases hn : n = 0
  case neg =>
    rw [show othB _ _ _ _ _ = false by first | rfl | (simp [othB, hn]; done) | (simp [othB, hn, e00]; done)]
    go_enter Tryd.func38, Tryd.ntmps38
    go_wp2_with fail
    all_goals first | (go_returns; exact ⟨rfl, by go_grown⟩) | (go_returns; exact ⟨by simp [*], by go_grown⟩) | (exfalso; simp_all; done)
  case pos =>
  subst hn
  by_cases hs : s.size = 0
  case neg =>
    have hs1 := toList_ne hs
    have hs2 : (s.toList == []) = false := by simpa using hs1
    rw [show othB _ _ _ _ _ = false by first | rfl | (simp [othB, hs]; done) | (simp [othB, hs, e00]; done)]
    go_enter Tryd.func38, Tryd.ntmps38
    go_wp2_with fail
    all_goals first | (go_returns; exact ⟨rfl, by go_grown⟩) | (go_returns; exact ⟨by simp [*], by go_grown⟩) | (exfalso; simp_all; done)
  case pos =>
  obtain rfl := size0 hs
  clear hs
  by_cases hl : l = 0
  case neg =>
    have hl1 : ¬ ((l : Int) = 0) := by omega
    have hl2 : ((l : Int) == 0) = false := by simpa using hl
    rw [show othB _ _ _ _ _ = false by first | rfl | (simp [othB, hl]; done) | (simp [othB, hl, e00]; done)]
    go_enter Tryd.func38, Tryd.ntmps38
    go_wp2_with fail
    all_goals first | (go_returns; exact ⟨rfl, by go_grown⟩) | (go_returns; exact ⟨by simp [*], by go_grown⟩) | (exfalso; simp_all; done)
  case pos =>
  subst hl
  rw [show othB _ _ _ _ _ = true by first | rfl | (simp [othB]; done) | (simp [othB, e00]; done)]
  go_enter Tryd.func38, Tryd.ntmps38
  go_wp2_with fail
  all_goals first | (go_returns; exact ⟨rfl, by go_grown⟩) | (go_returns; exact ⟨by simp [*], by go_grown⟩) | (exfalso; simp_all; done)

set_option maxRecDepth 100000 in
set_option maxHeartbeats 4000000 in
theorem oth_n2 (b : Bool) (n : Int) (s : ByteArray) (p : Option Addr) (l c : Nat) (w : World) :
    Calls Tryd.prog 38 #[.agg #[.int .i64 2, .bool b, .int .i64 n, .string s, .slice p l c]] w fun e w' => e = .returned (.bool (othB 2 b n s l)) ∧ Below w.heap.size w w' := by
  cases b
  case true =>
    rw [show othB _ _ _ _ _ = false by first | rfl | (simp [othB]; done) | (simp [othB, e00]; done)]
    go_enter Tryd.func38, Tryd.ntmps38
    go_wp2_with fail
    all_goals first | (go_returns; exact ⟨rfl, by go_grown⟩) | (go_returns; exact ⟨by simp [*], by go_grown⟩) | (exfalso; simp_all; done)
  case false =>
  by_cases hs : s.size = 0
  case neg =>
    have hs1 := toList_ne hs
    have hs2 : (s.toList == []) = false := by simpa using hs1
    rw [show othB _ _ _ _ _ = false by first | rfl | (simp [othB, hs]; done) | (simp [othB, hs, e00]; done)]
    go_enter Tryd.func38, Tryd.ntmps38
    go_wp2_with fail
    all_goals first | (go_returns; exact ⟨rfl, by go_grown⟩) | (go_returns; exact ⟨by simp [*], by go_grown⟩) | (exfalso; simp_all; done)
  case pos =>
  obtain rfl := size0 hs
  clear hs
  by_cases hl : l = 0
  case neg =>
    have hl1 : ¬ ((l : Int) = 0) := by omega
    have hl2 : ((l : Int) == 0) = false := by simpa using hl
    rw [show othB _ _ _ _ _ = false by first | rfl | (simp [othB, hl]; done) | (simp [othB, hl, e00]; done)]
    go_enter Tryd.func38, Tryd.ntmps38
    go_wp2_with fail
    all_goals first | (go_returns; exact ⟨rfl, by go_grown⟩) | (go_returns; exact ⟨by simp [*], by go_grown⟩) | (exfalso; simp_all; done)
  case pos =>
  subst hl
  rw [show othB _ _ _ _ _ = true by first | rfl | (simp [othB]; done) | (simp [othB, e00]; done)]
  go_enter Tryd.func38, Tryd.ntmps38
  go_wp2_with fail
  all_goals first | (go_returns; exact ⟨rfl, by go_grown⟩) | (go_returns; exact ⟨by simp [*], by go_grown⟩) | (exfalso; simp_all; done)

set_option maxRecDepth 100000 in
set_option maxHeartbeats 4000000 in
theorem oth_n4 (b : Bool) (n : Int) (s : ByteArray) (p : Option Addr) (l c : Nat) (w : World) :
    Calls Tryd.prog 38 #[.agg #[.int .i64 4, .bool b, .int .i64 n, .string s, .slice p l c]] w fun e w' => e = .returned (.bool (othB 4 b n s l)) ∧ Below w.heap.size w w' := by
  cases b
  case true =>
    rw [show othB _ _ _ _ _ = false by first | rfl | (simp [othB]; done) | (simp [othB, e00]; done)]
    go_enter Tryd.func38, Tryd.ntmps38
    go_wp2_with fail
    all_goals first | (go_returns; exact ⟨rfl, by go_grown⟩) | (go_returns; exact ⟨by simp [*], by go_grown⟩) | (exfalso; simp_all; done)
  case false =>
  by_cases hs : s.size = 0
  case neg =>
    have hs1 := toList_ne hs
    have hs2 : (s.toList == []) = false := by simpa using hs1
    rw [show othB _ _ _ _ _ = false by first | rfl | (simp [othB, hs]; done) | (simp [othB, hs, e00]; done)]
    go_enter Tryd.func38, Tryd.ntmps38
    go_wp2_with fail
    all_goals first | (go_returns; exact ⟨rfl, by go_grown⟩) | (go_returns; exact ⟨by simp [*], by go_grown⟩) | (exfalso; simp_all; done)
  case pos =>
  obtain rfl := size0 hs
  clear hs
  by_cases hl : l = 0
  case neg =>
    have hl1 : ¬ ((l : Int) = 0) := by omega
    have hl2 : ((l : Int) == 0) = false := by simpa using hl
    rw [show othB _ _ _ _ _ = false by first | rfl | (simp [othB, hl]; done) | (simp [othB, hl, e00]; done)]
    go_enter Tryd.func38, Tryd.ntmps38
    go_wp2_with fail
    all_goals first | (go_returns; exact ⟨rfl, by go_grown⟩) | (go_returns; exact ⟨by simp [*], by go_grown⟩) | (exfalso; simp_all; done)
  case pos =>
  subst hl
  rw [show othB _ _ _ _ _ = true by first | rfl | (simp [othB]; done) | (simp [othB, e00]; done)]
  go_enter Tryd.func38, Tryd.ntmps38
  go_wp2_with fail
  all_goals first | (go_returns; exact ⟨rfl, by go_grown⟩) | (go_returns; exact ⟨by simp [*], by go_grown⟩) | (exfalso; simp_all; done)

set_option maxRecDepth 100000 in
set_option maxHeartbeats 4000000 in
theorem oth_n5 (b : Bool) (n : Int) (s : ByteArray) (p : Option Addr) (l c : Nat) (w : World) :
    Calls Tryd.prog 38 #[.agg #[.int .i64 5, .bool b, .int .i64 n, .string s, .slice p l c]] w fun e w' => e = .returned (.bool (othB 5 b n s l)) ∧ Below w.heap.size w w' := by
  cases b
  case true =>
    rw [show othB _ _ _ _ _ = false by first | rfl | (simp [othB]; done) | (simp [othB, e00]; done)]
    go_enter Tryd.func38, Tryd.ntmps38
    go_wp2_with fail
    all_goals first | (go_returns; exact ⟨rfl, by go_grown⟩) | (go_returns; exact ⟨by simp [*], by go_grown⟩) | (exfalso; simp_all; done)
  case false =>
  by_cases hs : s.size = 0
  case neg =>
    have hs1 := toList_ne hs
    have hs2 : (s.toList == []) = false := by simpa using hs1
    rw [show othB _ _ _ _ _ = false by first | rfl | (simp [othB, hs]; done) | (simp [othB, hs, e00]; done)]
    go_enter Tryd.func38, Tryd.ntmps38
    go_wp2_with fail
    all_goals first | (go_returns; exact ⟨rfl, by go_grown⟩) | (go_returns; exact ⟨by simp [*], by go_grown⟩) | (exfalso; simp_all; done)
  case pos =>
  obtain rfl := size0 hs
  clear hs
  by_cases hl : l = 0
  case neg =>
    have hl1 : ¬ ((l : Int) = 0) := by omega
    have hl2 : ((l : Int) == 0) = false := by simpa using hl
    rw [show othB _ _ _ _ _ = false by first | rfl | (simp [othB, hl]; done) | (simp [othB, hl, e00]; done)]
    go_enter Tryd.func38, Tryd.ntmps38
    go_wp2_with fail
    all_goals first | (go_returns; exact ⟨rfl, by go_grown⟩) | (go_returns; exact ⟨by simp [*], by go_grown⟩) | (exfalso; simp_all; done)
  case pos =>
  subst hl
  rw [show othB _ _ _ _ _ = true by first | rfl | (simp [othB]; done) | (simp [othB, e00]; done)]
  go_enter Tryd.func38, Tryd.ntmps38
  go_wp2_with fail
  all_goals first | (go_returns; exact ⟨rfl, by go_grown⟩) | (go_returns; exact ⟨by simp [*], by go_grown⟩) | (exfalso; simp_all; done)

set_option maxRecDepth 100000 in
set_option maxHeartbeats 4000000 in
theorem oth_t3 (b : Bool) (n : Int) (s : ByteArray) (p : Option Addr) (l c : Nat) (w : World) :
    Calls Tryd.prog 38 #[.agg #[.int .i64 3, .bool b, .int .i64 n, .string s, .slice p l c]] w fun e w' => e = .returned (.bool (othB 3 b n s l)) ∧ Below w.heap.size w w' := by
  cases b
  case true =>
    rw [show othB _ _ _ _ _ = false by first | rfl | (simp [othB]; done) | (simp [othB, e00]; done)]
    go_enter Tryd.func38, Tryd.ntmps38
    go_wp2_with fail
    all_goals first | (go_returns; exact ⟨rfl, by go_grown⟩) | (go_returns; exact ⟨by simp [*], by go_grown⟩) | (exfalso; simp_all; done)
  case false =>
  by_cases hn : n = 0
  case neg =>
    rw [show othB _ _ _ _ _ = false by first | rfl | (simp [othB, hn]; done) | (simp [othB, hn, e00]; done)]
    go_enter Tryd.func38, Tryd.ntmps38
    go_wp2_with fail
    all_goals first | (go_returns; exact ⟨rfl, by go_grown⟩) | (go_returns; exact ⟨by simp [*], by go_grown⟩) | (exfalso; simp_all; done)
  case pos =>
  subst hn
  by_cases hl : l = 0
  case neg =>
    have hl1 : ¬ ((l : Int) = 0) := by omega
    have hl2 : ((l : Int) == 0) = false := by simpa using hl
    rw [show othB _ _ _ _ _ = false by first | rfl | (simp [othB, hl]; done) | (simp [othB, hl, e00]; done)]
    go_enter Tryd.func38, Tryd.ntmps38
    go_wp2_with fail
    all_goals first | (go_returns; exact ⟨rfl, by go_grown⟩) | (go_returns; exact ⟨by simp [*], by go_grown⟩) | (exfalso; simp_all; done)
  case pos =>
  subst hl
  rw [show othB _ _ _ _ _ = true by first | rfl | (simp [othB]; done) | (simp [othB, e00]; done)]
  go_enter Tryd.func38, Tryd.ntmps38
  go_wp2_with fail
  all_goals first | (go_returns; exact ⟨rfl, by go_grown⟩) | (go_returns; exact ⟨by simp [*], by go_grown⟩) | (exfalso; simp_all; done)

set_option maxRecDepth 100000 in
set_option maxHeartbeats 4000000 in
theorem oth_p6 (b : Bool) (n : Int) (s : ByteArray) (p : Option Addr) (l c : Nat) (w : World) :
    Calls Tryd.prog 38 #[.agg #[.int .i64 6, .bool b, .int .i64 n, .string s, .slice p l c]] w fun e w' => e = .returned (.bool (othB 6 b n s l)) ∧ Below w.heap.size w w' := by
  cases b
  case true =>
    rw [show othB _ _ _ _ _ = false by first | rfl | (simp [othB]; done) | (simp [othB, e00]; done)]
    go_enter Tryd.func38, Tryd.ntmps38
    go_wp2_with fail
    all_goals first | (go_returns; exact ⟨rfl, by go_grown⟩) | (go_returns; exact ⟨by simp [*], by go_grown⟩) | (exfalso; simp_all; done)
  case false =>
  by_cases hn : n = 0
  case neg =>
    rw [show othB _ _ _ _ _ = false by first | rfl | (simp [othB, hn]; done) | (simp [othB, hn, e00]; done)]
    go_enter Tryd.func38, Tryd.ntmps38
    go_wp2_with fail
    all_goals first | (go_returns; exact ⟨rfl, by go_grown⟩) | (go_returns; exact ⟨by simp [*], by go_grown⟩) | (exfalso; simp_all; done)
  case pos =>
  subst hn
  by_cases hs : s.size = 0
  case neg =>
    have hs1 := toList_ne hs
    have hs2 : (s.toList == []) = false := by simpa using hs1
    rw [show othB _ _ _ _ _ = false by first | rfl | (simp [othB, hs]; done) | (simp [othB, hs, e00]; done)]
    go_enter Tryd.func38, Tryd.ntmps38
    go_wp2_with fail
    all_goals first | (go_returns; exact ⟨rfl, by go_grown⟩) | (go_returns; exact ⟨by simp [*], by go_grown⟩) | (exfalso; simp_all; done)
  case pos =>
  obtain rfl := size0 hs
  clear hs
  rw [show othB _ _ _ _ _ = true by first | rfl | (simp [othB]; done) | (simp [othB, e00]; done)]
  go_enter Tryd.func38, Tryd.ntmps38
  go_wp2_with fail
  all_goals first | (go_returns; exact ⟨rfl, by go_grown⟩) | (go_returns; exact ⟨by simp [*], by go_grown⟩) | (exfalso; simp_all; done)

set_option maxRecDepth 100000 in
set_option maxHeartbeats 4000000 in
theorem oth_any (k : Int) (b : Bool) (n : Int) (s : ByteArray) (p : Option Addr) (l c : Nat) (w : World) (h1 : ¬ k = 1) (h2 : ¬ k = 2) (h4 : ¬ k = 4) (h5 : ¬ k = 5) (h3 : ¬ k = 3) (h6 : ¬ k = 6) :
    Calls Tryd.prog 38 #[.agg #[.int .i64 k, .bool b, .int .i64 n, .string s, .slice p l c]] w fun e w' => e = .returned (.bool (othB k b n s l)) ∧ Below w.heap.size w w' := by
  cases b
  case true =>
    rw [show othB _ _ _ _ _ = false by first | rfl | (simp [othB, h1, h2, h4, h5, h3, h6]; done) | (simp [othB, h1, h2, h4, h5, h3, h6, e00]; done)]
    go_enter Tryd.func38, Tryd.ntmps38
    go_wp2_with fail
    all_goals first | (go_returns; exact ⟨rfl, by go_grown⟩) | (go_returns; exact ⟨by simp [*], by go_grown⟩) | (exfalso; simp_all; done)
  case false =>
  by_cases hn : n = 0
  case neg =>
    rw [show othB _ _ _ _ _ = false by first | rfl | (simp [othB, h1, h2, h4, h5, h3, h6, hn]; done) | (simp [othB, h1, h2, h4, h5, h3, h6, hn, e00]; done)]
    go_enter Tryd.func38, Tryd.ntmps38
    go_wp2_with fail
    all_goals first | (go_returns; exact ⟨rfl, by go_grown⟩) | (go_returns; exact ⟨by simp [*], by go_grown⟩) | (exfalso; simp_all; done)
  case pos =>
  subst hn
  by_cases hs : s.size = 0
  case neg =>
    have hs1 := toList_ne hs
    have hs2 : (s.toList == []) = false := by simpa using hs1
    rw [show othB _ _ _ _ _ = false by first | rfl | (simp [othB, h1, h2, h4, h5, h3, h6, hs]; done) | (simp [othB, h1, h2, h4, h5, h3, h6, hs, e00]; done)]
    go_enter Tryd.func38, Tryd.ntmps38
    go_wp2_with fail
    all_goals first | (go_returns; exact ⟨rfl, by go_grown⟩) | (go_returns; exact ⟨by simp [*], by go_grown⟩) | (exfalso; simp_all; done)
  case pos =>
  obtain rfl := size0 hs
  clear hs
  by_cases hl : l = 0
  case neg =>
    have hl1 : ¬ ((l : Int) = 0) := by omega
    have hl2 : ((l : Int) == 0) = false := by simpa using hl
    rw [show othB _ _ _ _ _ = false by first | rfl | (simp [othB, h1, h2, h4, h5, h3, h6, hl]; done) | (simp [othB, h1, h2, h4, h5, h3, h6, hl, e00]; done)]
    go_enter Tryd.func38, Tryd.ntmps38
    go_wp2_with fail
    all_goals first | (go_returns; exact ⟨rfl, by go_grown⟩) | (go_returns; exact ⟨by simp [*], by go_grown⟩) | (exfalso; simp_all; done)
  case pos =>
  subst hl
  rw [show othB _ _ _ _ _ = true by first | rfl | (simp [othB, h1, h2, h4, h5, h3, h6]; done) | (simp [othB, h1, h2, h4, h5, h3, h6, e00]; done)]
  go_enter Tryd.func38, Tryd.ntmps38
  go_wp2_with fail
  all_goals first | (go_returns; exact ⟨rfl, by go_grown⟩) | (go_returns; exact ⟨by simp [*], by go_grown⟩) | (exfalso; simp_all; done)

theorem others_any (k : Int) (b : Bool) (n : Int) (s : ByteArray) (p : Option Addr) (l c : Nat) (w : World) : Calls Tryd.prog 38 #[.agg #[.int .i64 k, .bool b, .int .i64 n, .string s, .slice p l c]] w fun e w' => e = .returned (.bool (othB k b n s l)) ∧ Below w.heap.size w w' := by
  by_cases h1 : k = 1
  · subst h1; exact oth_b1 b n s p l c w
  by_cases h2 : k = 2
  · subst h2; exact oth_n2 b n s p l c w
  by_cases h4 : k = 4
  · subst h4; exact oth_n4 b n s p l c w
  by_cases h5 : k = 5
  · subst h5; exact oth_n5 b n s p l c w
  by_cases h3 : k = 3
  · subst h3; exact oth_t3 b n s p l c w
  by_cases h6 : k = 6
  · subst h6; exact oth_p6 b n s p l c w
  exact oth_any k b n s p l c w h1 h2 h4 h5 h3 h6
end Go.Proofs.YtokkmjcpjjiaaaaDoor
