/-
  What a value is: its parts.
-/
import Derived.Test.YtokkmjcpjjiaaaaDoorPth
import Derived.Test.YtokkmjcpjjiaaaaDoorBox
import Derived.LoopTactic
namespace Go.Proofs.YtokkmjcpjjiaaaaDoor
open Go.RowKit
set_option linter.unusedSimpArgs false
set_option linter.unusedVariables false

def idB (n : Int) : Bool := decide (0 ≤ n) && decide (n ≤ 1099511627776)
def othB (k : Int) (b : Bool) (n : Int) (s : ByteArray) (l : Nat) : Bool :=
  (decide (k = 1) || !b) && (decide (k = 2) || decide (k = 4) || decide (k = 5) || decide (n = 0)) && (decide (k = 3) || decide (s.size = 0)) && (decide (k = 6) || decide (l = 0))
def trailB (z : List Int) : Bool := decide (1 ≤ z.length) && decide (z.length ≤ 9) && z.all idB
def fitB (k : Int) (n : Int) (s : ByteArray) (z : List Int) (V : Bool) : Bool :=
  if k = 0 ∨ k = 1 ∨ k = 2 then true else if k = 3 then decide (s.size ≤ 4096) && V else if k = 4 ∨ k = 5 then idB n else if k = 6 then trailB z else false

theorem size0 {s : ByteArray} (h : s.size = 0) : s = ⟨#[]⟩ := by
  obtain ⟨⟨l⟩⟩ := s
  cases l with
  | nil => rfl
  | cons a r => simp [ByteArray.size] at h
theorem e00 : (ByteArray.mk #[]).size = 0 := rfl
theorem toList_ne {s : ByteArray} (h : ¬ s.size = 0) : ¬ s.toList = [] := by
  rw [ByteArray.toList_eq]
  intro e
  have := congrArg List.length e
  exact h (by simpa using this)

theorem isID_any (n : Int) (w : World) : Calls Tryd.prog 61 #[.int .i64 n] w fun e w' => e = .returned (.bool (idB n)) ∧ w' = w := by
  unfold idB
  by_cases h : 0 ≤ n
  · go_enter Tryd.func61, Tryd.ntmps61
    go_wp2
    go_returns
    exact ⟨by simp [h], rfl⟩
  · rw [decide_eq_false h]
    go_enter Tryd.func61, Tryd.ntmps61
    go_wp2
    go_returns
    exact ⟨rfl, rfl⟩
theorem id_any (n : Int) (w : World) : Calls Tryd.prog 41 #[.int .i64 n] w fun e w' => e = .returned (.bool (idB n)) ∧ w' = w := by
  unfold idB
  by_cases h : 0 ≤ n
  · go_enter Tryd.func41, Tryd.ntmps41
    go_wp2
    go_returns
    exact ⟨by simp [h], rfl⟩
  · rw [decide_eq_false h]
    go_enter Tryd.func41, Tryd.ntmps41
    go_wp2
    go_returns
    exact ⟨rfl, rfl⟩

theorem all_take (z : List Int) (j : Nat) (hj : j < z.length) (h : (z.take j).all idB = true) (hi : idB (z.getD j 0) = true) : (z.take (j + 1)).all idB = true := by
  rw [List.take_succ_eq_append_getElem hj, List.all_append, h]
  simp [List.getD, List.getElem?_eq_getElem hj] at hi
  simp [hi]
theorem all_no (z : List Int) (j : Nat) (hj : j < z.length) (hi : idB (z.getD j 0) = false) : z.all idB = false := by
  rw [List.all_eq_false]
  refine ⟨z[j], List.getElem_mem hj, ?_⟩
  simp [List.getD, List.getElem?_eq_getElem hj] at hi
  simp [hi]
theorem all_yes (z : List Int) (j : Nat) (hj : ¬ j < z.length) (h : (z.take j).all idB = true) : z.all idB = true := by
  rwa [List.take_of_length_le (by omega)] at h

set_option maxRecDepth 100000 in
theorem isTrail_any (a : Option Addr) (l c : Nat) (z : List Int) (w : World) (h1 : z.length = l) (p : PathAt w a z) :
    Calls Tryd.prog 62 #[.slice a l c] w fun e w' => e = .returned (.bool (trailB z)) ∧ w' = w := by
  unfold trailB
  rw [h1]
  by_cases c1 : 1 ≤ l
  case neg =>
    go_enter Tryd.func62, Tryd.ntmps62
    go_wp2
    go_returns
    exact ⟨by simp [c1], rfl⟩
  case pos =>
  by_cases c9 : l ≤ 9
  case neg =>
    go_enter Tryd.func62, Tryd.ntmps62
    go_wp2
    go_returns
    exact ⟨by simp [c9], rfl⟩
  case pos =>
  simp only [c1, c9, decide_true, Bool.true_and]
  go_enter Tryd.func62, Tryd.ntmps62
  go_wp2
  go_loopw [15] (fun i wr => wr = w ∧ ∃ j : Nat, j ≤ l ∧ i = .int .i64 j ∧ (z.take j).all idB = true) (fun i _ => l - (intOf i).toNat)
  case atStart => exact ⟨rfl, 0, by omega, rfl, by simp⟩
  case round =>
    obtain ⟨hw, j, j1, rfl, hz⟩ := hrel
    rw [hw]
    clear hw
    by_cases hj : j < l
    · obtain ⟨x, o, rfl, q⟩ := p.num j (by omega)
      cases hi : idB (z.getD j 0)
      · have hn := all_no z j (by omega) hi
        replace hz : Hid _ := hz
        generalize z.getD j 0 = u at *
        go_wp2_with (go_at_call 61; refine (isID_any _ _).mono ?_; rintro e w1 ⟨rfl, hw1⟩; subst hw1; rw [hi])
        go_returns
        exact ⟨by rw [hn]; rfl, rfl⟩
      · have hy : Hid ((z.take (j + 1)).all idB = true) := all_take z j (by omega) hz hi
        replace hz : Hid _ := hz
        generalize z.getD j 0 = u at *
        go_wp2_with (go_at_call 61; refine (isID_any _ _).mono ?_; rintro e w1 ⟨rfl, hw1⟩; subst hw1; rw [hi])
        exact ⟨⟨by first | rfl | trivial, j + 1, by omega, by go_num, hy.out⟩, by simp [intOf]; omega⟩
    · have hy := all_yes z j (by omega) hz
      replace hz : Hid _ := hz
      go_wp2_with fail
      go_returns
      exact ⟨by rw [hy]; rfl, rfl⟩
end Go.Proofs.YtokkmjcpjjiaaaaDoor
