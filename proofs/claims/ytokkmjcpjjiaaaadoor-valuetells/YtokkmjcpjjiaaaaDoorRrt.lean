/-
  Whether a thing is a value: the document's Right.
-/
import Derived.Test.YtokkmjcpjjiaaaaDoorRit
namespace Go.Proofs.YtokkmjcpjjiaaaaDoor
open Go.RowKit
set_option linter.unusedSimpArgs false
set_option linter.unusedVariables false

set_option maxRecDepth 100000 in
set_option maxHeartbeats 4000000 in
theorem rr_0 (b : Bool) (n : Int) (s : ByteArray) (p : Option Addr) (l c : Nat) (z : List Int) (V : Bool) (w : World) (h1 : z.length = l) (q : PathAt w p z) (hV : ∀ w', Below w.heap.size w w' → Calls Tryd.prog 40 #[.string s] w' fun e w'' => e = .returned (.bool V) ∧ Below w'.heap.size w' w'')  :
    Calls Tryd.prog 13 #[.agg #[.int .i64 0, .bool b, .int .i64 n, .string s, .slice p l c]] w fun e w' => e = .returned (.bool (rgtB 0 b n s l z V)) ∧ Below w.heap.size w w' := by
  cases b
  case true =>
    rw [show rgtB _ _ _ _ _ _ _ = false by first | (simp [rgtB, othB]; done) | (simp [rgtB, othB, fitB, e00]; done)]
    clear hV q
    go_enter Tryd.func13, Tryd.ntmps13
    go_wp2_with fail
    all_goals first | (go_returns; exact ⟨rfl, by go_grown⟩) | (go_returns; exact ⟨by simp [*], by go_grown⟩) | (exfalso; simp_all; done)
  case false =>
  by_cases hs : s.size = 0
  case neg =>
    have hs1 := toList_ne hs
    have hs2 : (s.toList == []) = false := by simpa using hs1
    rw [show rgtB _ _ _ _ _ _ _ = false by first | (simp [rgtB, othB, hs]; done) | (simp [rgtB, othB, fitB, e00, hs]; done)]
    clear hV q
    go_enter Tryd.func13, Tryd.ntmps13
    go_wp2_with fail
    all_goals first | (go_returns; exact ⟨rfl, by go_grown⟩) | (go_returns; exact ⟨by simp [*], by go_grown⟩) | (exfalso; simp_all; done)
  case pos =>
  obtain rfl := size0 hs
  clear hs
  by_cases hl : l = 0
  case neg =>
    have hl1 : ¬ ((l : Int) = 0) := by omega
    have hl3 : (0 : Int) < (l : Int) := by omega
    rw [show rgtB _ _ _ _ _ _ _ = false by first | (simp [rgtB, othB, hl]; done) | (simp [rgtB, othB, fitB, e00, hl]; done)]
    clear hV q
    go_enter Tryd.func13, Tryd.ntmps13
    go_wp2_with fail
    all_goals first | (go_returns; exact ⟨rfl, by go_grown⟩) | (go_returns; exact ⟨by simp [*], by go_grown⟩) | (exfalso; simp_all; done)
  case pos =>
  subst hl
  by_cases hn : n = 0
  case neg =>
    rw [show rgtB _ _ _ _ _ _ _ = false by first | (simp [rgtB, othB, hn]; done) | (simp [rgtB, othB, fitB, e00, hn]; done)]
    clear hV q
    go_enter Tryd.func13, Tryd.ntmps13
    go_wp2_with fail
    all_goals first | (go_returns; exact ⟨rfl, by go_grown⟩) | (go_returns; exact ⟨by simp [*], by go_grown⟩) | (exfalso; simp_all; done)
  case pos =>
  subst hn
  rw [show rgtB _ _ _ _ _ _ _ = true by first | (simp [rgtB, othB]; done) | (simp [rgtB, othB, fitB, e00]; done)]
  clear hV q
  go_enter Tryd.func13, Tryd.ntmps13
  go_wp2_with fail
  all_goals first | (go_returns; exact ⟨rfl, by go_grown⟩) | (go_returns; exact ⟨by simp [*], by go_grown⟩) | (exfalso; simp_all; done)

set_option maxRecDepth 100000 in
set_option maxHeartbeats 4000000 in
theorem rr_1 (b : Bool) (n : Int) (s : ByteArray) (p : Option Addr) (l c : Nat) (z : List Int) (V : Bool) (w : World) (h1 : z.length = l) (q : PathAt w p z) (hV : ∀ w', Below w.heap.size w w' → Calls Tryd.prog 40 #[.string s] w' fun e w'' => e = .returned (.bool V) ∧ Below w'.heap.size w' w'')  :
    Calls Tryd.prog 13 #[.agg #[.int .i64 1, .bool b, .int .i64 n, .string s, .slice p l c]] w fun e w' => e = .returned (.bool (rgtB 1 b n s l z V)) ∧ Below w.heap.size w w' := by
  by_cases hs : s.size = 0
  case neg =>
    have hs1 := toList_ne hs
    have hs2 : (s.toList == []) = false := by simpa using hs1
    rw [show rgtB _ _ _ _ _ _ _ = false by first | (simp [rgtB, othB, hs]; done) | (simp [rgtB, othB, fitB, e00, hs]; done)]
    clear hV q
    go_enter Tryd.func13, Tryd.ntmps13
    go_wp2_with fail
    all_goals first | (go_returns; exact ⟨rfl, by go_grown⟩) | (go_returns; exact ⟨by simp [*], by go_grown⟩) | (exfalso; simp_all; done)
  case pos =>
  obtain rfl := size0 hs
  clear hs
  by_cases hl : l = 0
  case neg =>
    have hl1 : ¬ ((l : Int) = 0) := by omega
    have hl3 : (0 : Int) < (l : Int) := by omega
    rw [show rgtB _ _ _ _ _ _ _ = false by first | (simp [rgtB, othB, hl]; done) | (simp [rgtB, othB, fitB, e00, hl]; done)]
    clear hV q
    go_enter Tryd.func13, Tryd.ntmps13
    go_wp2_with fail
    all_goals first | (go_returns; exact ⟨rfl, by go_grown⟩) | (go_returns; exact ⟨by simp [*], by go_grown⟩) | (exfalso; simp_all; done)
  case pos =>
  subst hl
  by_cases hn : n = 0
  case neg =>
    rw [show rgtB _ _ _ _ _ _ _ = false by first | (simp [rgtB, othB, hn]; done) | (simp [rgtB, othB, fitB, e00, hn]; done)]
    clear hV q
    go_enter Tryd.func13, Tryd.ntmps13
    go_wp2_with fail
    all_goals first | (go_returns; exact ⟨rfl, by go_grown⟩) | (go_returns; exact ⟨by simp [*], by go_grown⟩) | (exfalso; simp_all; done)
  case pos =>
  subst hn
  rw [show rgtB _ _ _ _ _ _ _ = true by first | (simp [rgtB, othB]; done) | (simp [rgtB, othB, fitB, e00]; done)]
  clear hV q
  go_enter Tryd.func13, Tryd.ntmps13
  go_wp2_with fail
  all_goals first | (go_returns; exact ⟨rfl, by go_grown⟩) | (go_returns; exact ⟨by simp [*], by go_grown⟩) | (exfalso; simp_all; done)

set_option maxRecDepth 100000 in
set_option maxHeartbeats 4000000 in
theorem rr_2 (b : Bool) (n : Int) (s : ByteArray) (p : Option Addr) (l c : Nat) (z : List Int) (V : Bool) (w : World) (h1 : z.length = l) (q : PathAt w p z) (hV : ∀ w', Below w.heap.size w w' → Calls Tryd.prog 40 #[.string s] w' fun e w'' => e = .returned (.bool V) ∧ Below w'.heap.size w' w'')  :
    Calls Tryd.prog 13 #[.agg #[.int .i64 2, .bool b, .int .i64 n, .string s, .slice p l c]] w fun e w' => e = .returned (.bool (rgtB 2 b n s l z V)) ∧ Below w.heap.size w w' := by
  cases b
  case true =>
    rw [show rgtB _ _ _ _ _ _ _ = false by first | (simp [rgtB, othB]; done) | (simp [rgtB, othB, fitB, e00]; done)]
    clear hV q
    go_enter Tryd.func13, Tryd.ntmps13
    go_wp2_with fail
    all_goals first | (go_returns; exact ⟨rfl, by go_grown⟩) | (go_returns; exact ⟨by simp [*], by go_grown⟩) | (exfalso; simp_all; done)
  case false =>
  by_cases hs : s.size = 0
  case neg =>
    have hs1 := toList_ne hs
    have hs2 : (s.toList == []) = false := by simpa using hs1
    rw [show rgtB _ _ _ _ _ _ _ = false by first | (simp [rgtB, othB, hs]; done) | (simp [rgtB, othB, fitB, e00, hs]; done)]
    clear hV q
    go_enter Tryd.func13, Tryd.ntmps13
    go_wp2_with fail
    all_goals first | (go_returns; exact ⟨rfl, by go_grown⟩) | (go_returns; exact ⟨by simp [*], by go_grown⟩) | (exfalso; simp_all; done)
  case pos =>
  obtain rfl := size0 hs
  clear hs
  by_cases hl : l = 0
  case neg =>
    have hl1 : ¬ ((l : Int) = 0) := by omega
    have hl3 : (0 : Int) < (l : Int) := by omega
    rw [show rgtB _ _ _ _ _ _ _ = false by first | (simp [rgtB, othB, hl]; done) | (simp [rgtB, othB, fitB, e00, hl]; done)]
    clear hV q
    go_enter Tryd.func13, Tryd.ntmps13
    go_wp2_with fail
    all_goals first | (go_returns; exact ⟨rfl, by go_grown⟩) | (go_returns; exact ⟨by simp [*], by go_grown⟩) | (exfalso; simp_all; done)
  case pos =>
  subst hl
  rw [show rgtB _ _ _ _ _ _ _ = true by first | (simp [rgtB, othB]; done) | (simp [rgtB, othB, fitB, e00]; done)]
  clear hV q
  go_enter Tryd.func13, Tryd.ntmps13
  go_wp2_with fail
  all_goals first | (go_returns; exact ⟨rfl, by go_grown⟩) | (go_returns; exact ⟨by simp [*], by go_grown⟩) | (exfalso; simp_all; done)

set_option maxRecDepth 100000 in
set_option maxHeartbeats 4000000 in
theorem rr_3 (b : Bool) (n : Int) (s : ByteArray) (p : Option Addr) (l c : Nat) (z : List Int) (V : Bool) (w : World) (h1 : z.length = l) (q : PathAt w p z) (hV : ∀ w', Below w.heap.size w w' → Calls Tryd.prog 40 #[.string s] w' fun e w'' => e = .returned (.bool V) ∧ Below w'.heap.size w' w'')  :
    Calls Tryd.prog 13 #[.agg #[.int .i64 3, .bool b, .int .i64 n, .string s, .slice p l c]] w fun e w' => e = .returned (.bool (rgtB 3 b n s l z V)) ∧ Below w.heap.size w w' := by
  cases b
  case true =>
    rw [show rgtB _ _ _ _ _ _ _ = false by first | (simp [rgtB, othB]; done) | (simp [rgtB, othB, fitB, e00]; done)]
    clear hV q
    go_enter Tryd.func13, Tryd.ntmps13
    go_wp2_with fail
    all_goals first | (go_returns; exact ⟨rfl, by go_grown⟩) | (go_returns; exact ⟨by simp [*], by go_grown⟩) | (exfalso; simp_all; done)
  case false =>
  by_cases hl : l = 0
  case neg =>
    have hl1 : ¬ ((l : Int) = 0) := by omega
    have hl3 : (0 : Int) < (l : Int) := by omega
    rw [show rgtB _ _ _ _ _ _ _ = false by first | (simp [rgtB, othB, hl]; done) | (simp [rgtB, othB, fitB, e00, hl]; done)]
    clear hV q
    go_enter Tryd.func13, Tryd.ntmps13
    go_wp2_with fail
    all_goals first | (go_returns; exact ⟨rfl, by go_grown⟩) | (go_returns; exact ⟨by simp [*], by go_grown⟩) | (exfalso; simp_all; done)
  case pos =>
  subst hl
  by_cases hn : n = 0
  case neg =>
    rw [show rgtB _ _ _ _ _ _ _ = false by first | (simp [rgtB, othB, hn]; done) | (simp [rgtB, othB, fitB, e00, hn]; done)]
    clear hV q
    go_enter Tryd.func13, Tryd.ntmps13
    go_wp2_with fail
    all_goals first | (go_returns; exact ⟨rfl, by go_grown⟩) | (go_returns; exact ⟨by simp [*], by go_grown⟩) | (exfalso; simp_all; done)
  case pos =>
  subst hn
  by_cases hz : s.size ≤ 4096
  · rw [show rgtB _ _ _ _ _ _ _ = V by simp [rgtB, othB, fitB, hz]]
    have hv := hV _ (below_new w (.cells #[.int .i64 3, .bool false, .int .i64 0, .string s, .slice p 0 c] 25))
    replace hv : Hid _ := hv
    clear hV q
    go_enter Tryd.func13, Tryd.ntmps13
    go_wp2_with (go_at_call 40; refine Calls.mono hv.out ?_; rintro e w1 ⟨rfl, g1⟩)
    go_returns
    exact ⟨rfl, below_on (below_new _ _) g1⟩
  · rw [show rgtB _ _ _ _ _ _ _ = false by simp [rgtB, othB, fitB, hz]]
    clear hV q
    go_enter Tryd.func13, Tryd.ntmps13
    go_wp2_with fail
    go_returns
    exact ⟨rfl, by go_grown⟩

set_option maxRecDepth 100000 in
set_option maxHeartbeats 4000000 in
theorem rr_4 (b : Bool) (n : Int) (s : ByteArray) (p : Option Addr) (l c : Nat) (z : List Int) (V : Bool) (w : World) (h1 : z.length = l) (q : PathAt w p z) (hV : ∀ w', Below w.heap.size w w' → Calls Tryd.prog 40 #[.string s] w' fun e w'' => e = .returned (.bool V) ∧ Below w'.heap.size w' w'')  :
    Calls Tryd.prog 13 #[.agg #[.int .i64 4, .bool b, .int .i64 n, .string s, .slice p l c]] w fun e w' => e = .returned (.bool (rgtB 4 b n s l z V)) ∧ Below w.heap.size w w' := by
  cases b
  case true =>
    rw [show rgtB _ _ _ _ _ _ _ = false by first | (simp [rgtB, othB]; done) | (simp [rgtB, othB, fitB, e00]; done)]
    clear hV q
    go_enter Tryd.func13, Tryd.ntmps13
    go_wp2_with fail
    all_goals first | (go_returns; exact ⟨rfl, by go_grown⟩) | (go_returns; exact ⟨by simp [*], by go_grown⟩) | (exfalso; simp_all; done)
  case false =>
  by_cases hs : s.size = 0
  case neg =>
    have hs1 := toList_ne hs
    have hs2 : (s.toList == []) = false := by simpa using hs1
    rw [show rgtB _ _ _ _ _ _ _ = false by first | (simp [rgtB, othB, hs]; done) | (simp [rgtB, othB, fitB, e00, hs]; done)]
    clear hV q
    go_enter Tryd.func13, Tryd.ntmps13
    go_wp2_with fail
    all_goals first | (go_returns; exact ⟨rfl, by go_grown⟩) | (go_returns; exact ⟨by simp [*], by go_grown⟩) | (exfalso; simp_all; done)
  case pos =>
  obtain rfl := size0 hs
  clear hs
  by_cases hl : l = 0
  case neg =>
    have hl1 : ¬ ((l : Int) = 0) := by omega
    have hl3 : (0 : Int) < (l : Int) := by omega
    rw [show rgtB _ _ _ _ _ _ _ = false by first | (simp [rgtB, othB, hl]; done) | (simp [rgtB, othB, fitB, e00, hl]; done)]
    clear hV q
    go_enter Tryd.func13, Tryd.ntmps13
    go_wp2_with fail
    all_goals first | (go_returns; exact ⟨rfl, by go_grown⟩) | (go_returns; exact ⟨by simp [*], by go_grown⟩) | (exfalso; simp_all; done)
  case pos =>
  subst hl
  rw [show rgtB _ _ _ _ _ _ _ = idB n by first | (simp [rgtB, othB]; done) | (simp [rgtB, othB, fitB, e00]; done)]
  clear hV q
  go_enter Tryd.func13, Tryd.ntmps13
  go_wp2_with (go_at_call 41; refine (id_any _ _).mono ?_; rintro e w1 ⟨rfl, rfl⟩)
  all_goals first | (go_returns; exact ⟨rfl, by go_grown⟩) | (go_returns; exact ⟨by simp [*], by go_grown⟩) | (exfalso; simp_all; done)

set_option maxRecDepth 100000 in
set_option maxHeartbeats 4000000 in
theorem rr_5 (b : Bool) (n : Int) (s : ByteArray) (p : Option Addr) (l c : Nat) (z : List Int) (V : Bool) (w : World) (h1 : z.length = l) (q : PathAt w p z) (hV : ∀ w', Below w.heap.size w w' → Calls Tryd.prog 40 #[.string s] w' fun e w'' => e = .returned (.bool V) ∧ Below w'.heap.size w' w'')  :
    Calls Tryd.prog 13 #[.agg #[.int .i64 5, .bool b, .int .i64 n, .string s, .slice p l c]] w fun e w' => e = .returned (.bool (rgtB 5 b n s l z V)) ∧ Below w.heap.size w w' := by
  cases b
  case true =>
    rw [show rgtB _ _ _ _ _ _ _ = false by first | (simp [rgtB, othB]; done) | (simp [rgtB, othB, fitB, e00]; done)]
    clear hV q
    go_enter Tryd.func13, Tryd.ntmps13
    go_wp2_with fail
    all_goals first | (go_returns; exact ⟨rfl, by go_grown⟩) | (go_returns; exact ⟨by simp [*], by go_grown⟩) | (exfalso; simp_all; done)
  case false =>
  by_cases hs : s.size = 0
  case neg =>
    have hs1 := toList_ne hs
    have hs2 : (s.toList == []) = false := by simpa using hs1
    rw [show rgtB _ _ _ _ _ _ _ = false by first | (simp [rgtB, othB, hs]; done) | (simp [rgtB, othB, fitB, e00, hs]; done)]
    clear hV q
    go_enter Tryd.func13, Tryd.ntmps13
    go_wp2_with fail
    all_goals first | (go_returns; exact ⟨rfl, by go_grown⟩) | (go_returns; exact ⟨by simp [*], by go_grown⟩) | (exfalso; simp_all; done)
  case pos =>
  obtain rfl := size0 hs
  clear hs
  by_cases hl : l = 0
  case neg =>
    have hl1 : ¬ ((l : Int) = 0) := by omega
    have hl3 : (0 : Int) < (l : Int) := by omega
    rw [show rgtB _ _ _ _ _ _ _ = false by first | (simp [rgtB, othB, hl]; done) | (simp [rgtB, othB, fitB, e00, hl]; done)]
    clear hV q
    go_enter Tryd.func13, Tryd.ntmps13
    go_wp2_with fail
    all_goals first | (go_returns; exact ⟨rfl, by go_grown⟩) | (go_returns; exact ⟨by simp [*], by go_grown⟩) | (exfalso; simp_all; done)
  case pos =>
  subst hl
  rw [show rgtB _ _ _ _ _ _ _ = idB n by first | (simp [rgtB, othB]; done) | (simp [rgtB, othB, fitB, e00]; done)]
  clear hV q
  go_enter Tryd.func13, Tryd.ntmps13
  go_wp2_with (go_at_call 41; refine (id_any _ _).mono ?_; rintro e w1 ⟨rfl, rfl⟩)
  all_goals first | (go_returns; exact ⟨rfl, by go_grown⟩) | (go_returns; exact ⟨by simp [*], by go_grown⟩) | (exfalso; simp_all; done)

set_option maxRecDepth 100000 in
set_option maxHeartbeats 4000000 in
theorem rr_6 (b : Bool) (n : Int) (s : ByteArray) (p : Option Addr) (l c : Nat) (z : List Int) (V : Bool) (w : World) (h1 : z.length = l) (q : PathAt w p z) (hV : ∀ w', Below w.heap.size w w' → Calls Tryd.prog 40 #[.string s] w' fun e w'' => e = .returned (.bool V) ∧ Below w'.heap.size w' w'')  :
    Calls Tryd.prog 13 #[.agg #[.int .i64 6, .bool b, .int .i64 n, .string s, .slice p l c]] w fun e w' => e = .returned (.bool (rgtB 6 b n s l z V)) ∧ Below w.heap.size w w' := by
  cases b
  case true =>
    rw [show rgtB _ _ _ _ _ _ _ = false by first | (simp [rgtB, othB]; done) | (simp [rgtB, othB, fitB, e00]; done)]
    clear hV q
    go_enter Tryd.func13, Tryd.ntmps13
    go_wp2_with fail
    all_goals first | (go_returns; exact ⟨rfl, by go_grown⟩) | (go_returns; exact ⟨by simp [*], by go_grown⟩) | (exfalso; simp_all; done)
  case false =>
  by_cases hs : s.size = 0
  case neg =>
    have hs1 := toList_ne hs
    have hs2 : (s.toList == []) = false := by simpa using hs1
    rw [show rgtB _ _ _ _ _ _ _ = false by first | (simp [rgtB, othB, hs]; done) | (simp [rgtB, othB, fitB, e00, hs]; done)]
    clear hV q
    go_enter Tryd.func13, Tryd.ntmps13
    go_wp2_with fail
    all_goals first | (go_returns; exact ⟨rfl, by go_grown⟩) | (go_returns; exact ⟨by simp [*], by go_grown⟩) | (exfalso; simp_all; done)
  case pos =>
  obtain rfl := size0 hs
  clear hs
  by_cases hn : n = 0
  case neg =>
    rw [show rgtB _ _ _ _ _ _ _ = false by first | (simp [rgtB, othB, hn]; done) | (simp [rgtB, othB, fitB, e00, hn]; done)]
    clear hV q
    go_enter Tryd.func13, Tryd.ntmps13
    go_wp2_with fail
    all_goals first | (go_returns; exact ⟨rfl, by go_grown⟩) | (go_returns; exact ⟨by simp [*], by go_grown⟩) | (exfalso; simp_all; done)
  case pos =>
  subst hn
  by_cases c1 : 1 ≤ l
  case neg =>
    rw [show rgtB _ _ _ _ _ _ _ = false by (simp [rgtB, othB, fitB, trailB, h1, c1, e00]; done)]
    clear hV q
    go_enter Tryd.func13, Tryd.ntmps13
    go_wp2_with fail
    all_goals first | (go_returns; exact ⟨rfl, by go_grown⟩) | (go_returns; exact ⟨by simp [*], by go_grown⟩) | (exfalso; simp_all; done)
  case pos =>
  by_cases c9 : l ≤ 9
  case neg =>
    rw [show rgtB _ _ _ _ _ _ _ = false by (simp [rgtB, othB, fitB, trailB, h1, c9, e00]; done)]
    clear hV q
    go_enter Tryd.func13, Tryd.ntmps13
    go_wp2_with fail
    all_goals first | (go_returns; exact ⟨rfl, by go_grown⟩) | (go_returns; exact ⟨by simp [*], by go_grown⟩) | (exfalso; simp_all; done)
  case pos =>
  rw [show rgtB _ _ _ _ _ _ _ = z.all idB by simp [rgtB, othB, fitB, trailB, h1, c1, c9, e00]]
  have q' := q.alloc (.cells #[.int .i64 6, .bool false, .int .i64 0, .string ⟨#[]⟩, .slice p l c] 25)
  replace q' : Hid _ := q'
  clear hV q
  go_enter Tryd.func13, Tryd.ntmps13
  go_wp2_with fail
  go_loopw [3] (fun i wr => wr = w.alloc (.cells #[.int .i64 6, .bool false, .int .i64 0, .string ⟨#[]⟩, .slice p l c] 25) ∧ ∃ j : Nat, j ≤ l ∧ i = .int .i64 j ∧ (z.take j).all idB = true) (fun i _ => l - (intOf i).toNat)
  case atStart => exact ⟨rfl, 0, by omega, rfl, by simp⟩
  case round =>
    obtain ⟨hw, j, j1, rfl, hz⟩ := hrel
    rw [hw]
    clear hw
    by_cases hj : j < l
    · obtain ⟨x, o, rfl, r⟩ := PathAt.num (zs := z) q'.out j (by omega)
      clear q'
      cases hi : idB (z.getD j 0)
      · have hn := all_no z j (by omega) hi
        replace hz : Hid _ := hz
        generalize z.getD j 0 = u at *
        go_wp2_with (go_at_call 41; refine (id_any _ _).mono ?_; rintro e w1 ⟨rfl, hw1⟩; subst hw1; rw [hi])
        go_returns
        exact ⟨by rw [hn]; rfl, by go_grown⟩
      · have hy : Hid ((z.take (j + 1)).all idB = true) := all_take z j (by omega) hz hi
        replace hz : Hid _ := hz
        generalize z.getD j 0 = u at *
        go_wp2_with (go_at_call 41; refine (id_any _ _).mono ?_; rintro e w1 ⟨rfl, hw1⟩; subst hw1; rw [hi])
        exact ⟨⟨by first | rfl | trivial, j + 1, by omega, by go_num, hy.out⟩, by simp [intOf]; omega⟩
    · have hy := all_yes z j (by omega) hz
      replace hz : Hid _ := hz
      clear q'
      go_wp2_with fail
      go_returns
      exact ⟨by rw [hy]; rfl, by go_grown⟩

set_option maxRecDepth 100000 in
set_option maxHeartbeats 4000000 in
theorem rr_o (k : Int) (b : Bool) (n : Int) (s : ByteArray) (p : Option Addr) (l c : Nat) (z : List Int) (V : Bool) (w : World) (h1 : z.length = l) (q : PathAt w p z) (hV : ∀ w', Below w.heap.size w w' → Calls Tryd.prog 40 #[.string s] w' fun e w'' => e = .returned (.bool V) ∧ Below w'.heap.size w' w'') (g0 : ¬ k = 0) (g1 : ¬ k = 1) (g2 : ¬ k = 2) (g3 : ¬ k = 3) (g4 : ¬ k = 4) (g5 : ¬ k = 5) (g6 : ¬ k = 6) :
    Calls Tryd.prog 13 #[.agg #[.int .i64 k, .bool b, .int .i64 n, .string s, .slice p l c]] w fun e w' => e = .returned (.bool (rgtB k b n s l z V)) ∧ Below w.heap.size w w' := by
  cases b
  case true =>
    rw [show rgtB _ _ _ _ _ _ _ = false by first | (simp [rgtB, othB, g0, g1, g2, g3, g4, g5, g6]; done) | (simp [rgtB, othB, fitB, e00, g0, g1, g2, g3, g4, g5, g6]; done)]
    clear hV q
    go_enter Tryd.func13, Tryd.ntmps13
    go_wp2_with fail
    all_goals first | (go_returns; exact ⟨rfl, by go_grown⟩) | (go_returns; exact ⟨by simp [*], by go_grown⟩) | (exfalso; simp_all; done)
  case false =>
  by_cases hs : s.size = 0
  case neg =>
    have hs1 := toList_ne hs
    have hs2 : (s.toList == []) = false := by simpa using hs1
    rw [show rgtB _ _ _ _ _ _ _ = false by first | (simp [rgtB, othB, g0, g1, g2, g3, g4, g5, g6, hs]; done) | (simp [rgtB, othB, fitB, e00, g0, g1, g2, g3, g4, g5, g6, hs]; done)]
    clear hV q
    go_enter Tryd.func13, Tryd.ntmps13
    go_wp2_with fail
    all_goals first | (go_returns; exact ⟨rfl, by go_grown⟩) | (go_returns; exact ⟨by simp [*], by go_grown⟩) | (exfalso; simp_all; done)
  case pos =>
  obtain rfl := size0 hs
  clear hs
  by_cases hl : l = 0
  case neg =>
    have hl1 : ¬ ((l : Int) = 0) := by omega
    have hl3 : (0 : Int) < (l : Int) := by omega
    rw [show rgtB _ _ _ _ _ _ _ = false by first | (simp [rgtB, othB, g0, g1, g2, g3, g4, g5, g6, hl]; done) | (simp [rgtB, othB, fitB, e00, g0, g1, g2, g3, g4, g5, g6, hl]; done)]
    clear hV q
    go_enter Tryd.func13, Tryd.ntmps13
    go_wp2_with fail
    all_goals first | (go_returns; exact ⟨rfl, by go_grown⟩) | (go_returns; exact ⟨by simp [*], by go_grown⟩) | (exfalso; simp_all; done)
  case pos =>
  subst hl
  by_cases hn : n = 0
  case neg =>
    rw [show rgtB _ _ _ _ _ _ _ = false by first | (simp [rgtB, othB, g0, g1, g2, g3, g4, g5, g6, hn]; done) | (simp [rgtB, othB, fitB, e00, g0, g1, g2, g3, g4, g5, g6, hn]; done)]
    clear hV q
    go_enter Tryd.func13, Tryd.ntmps13
    go_wp2_with fail
    all_goals first | (go_returns; exact ⟨rfl, by go_grown⟩) | (go_returns; exact ⟨by simp [*], by go_grown⟩) | (exfalso; simp_all; done)
  case pos =>
  subst hn
  rw [show rgtB _ _ _ _ _ _ _ = false by first | (simp [rgtB, othB, g0, g1, g2, g3, g4, g5, g6]; done) | (simp [rgtB, othB, fitB, e00, g0, g1, g2, g3, g4, g5, g6]; done)]
  clear hV q
  go_enter Tryd.func13, Tryd.ntmps13
  go_wp2_with fail
  all_goals first | (go_returns; exact ⟨rfl, by go_grown⟩) | (go_returns; exact ⟨by simp [*], by go_grown⟩) | (exfalso; simp_all; done)

theorem refRight_any (k : Int) (b : Bool) (n : Int) (s : ByteArray) (p : Option Addr) (l c : Nat) (z : List Int) (V : Bool) (w : World) (h1 : z.length = l) (q : PathAt w p z) (hV : ∀ w', Below w.heap.size w w' → Calls Tryd.prog 40 #[.string s] w' fun e w'' => e = .returned (.bool V) ∧ Below w'.heap.size w' w'') :
    Calls Tryd.prog 13 #[.agg #[.int .i64 k, .bool b, .int .i64 n, .string s, .slice p l c]] w fun e w' => e = .returned (.bool (rgtB k b n s l z V)) ∧ Below w.heap.size w w' := by
  by_cases k0 : k = 0
  · subst k0; exact rr_0 b n s p l c z V w h1 q hV
  by_cases k1 : k = 1
  · subst k1; exact rr_1 b n s p l c z V w h1 q hV
  by_cases k2 : k = 2
  · subst k2; exact rr_2 b n s p l c z V w h1 q hV
  by_cases k3 : k = 3
  · subst k3; exact rr_3 b n s p l c z V w h1 q hV
  by_cases k4 : k = 4
  · subst k4; exact rr_4 b n s p l c z V w h1 q hV
  by_cases k5 : k = 5
  · subst k5; exact rr_5 b n s p l c z V w h1 q hV
  by_cases k6 : k = 6
  · subst k6; exact rr_6 b n s p l c z V w h1 q hV
  exact rr_o k b n s p l c z V w h1 q hV k0 k1 k2 k3 k4 k5 k6
end Go.Proofs.YtokkmjcpjjiaaaaDoor
