/-
  How numbers, texts and lists of numbers stand to one another.
-/
import Derived.Test.YtokkmjcpjjiaaaaDoorPth
import Derived.Lib.Bytealg
import Derived.LoopTactic
import Derived.BigQuiet
namespace Go.Proofs.YtokkmjcpjjiaaaaDoor
open Go.RowKit
set_option linter.unusedSimpArgs false
set_option linter.unusedVariables false

def cmpI (a b : Int) : Int := if a < b then -1 else if b < a then 1 else 0
def cmpZ : List Int → List Int → Int
  | [], [] => 0
  | [], _ :: _ => -1
  | _ :: _, [] => 1
  | a :: x, b :: y => if a < b then -1 else if b < a then 1 else cmpZ x y
def bitI (b : Bool) : Int := if b then 1 else 0

theorem compareKind (a b : Int) (w : World) : Calls Tryd.prog 50 #[.int .i64 a, .int .i64 b] w fun e w' => e = .returned (.int .i64 (cmpI a b)) ∧ w' = w := by
  unfold cmpI
  by_cases h : a < b
  · go_enter Tryd.func50, Tryd.ntmps50
    go_wp2
    go_returns
    exact ⟨by simp [h], rfl⟩
  · by_cases h' : b < a
    · go_enter Tryd.func50, Tryd.ntmps50
      go_wp2
      go_returns
      exact ⟨by simp [h, h'], rfl⟩
    · go_enter Tryd.func50, Tryd.ntmps50
      go_wp2
      go_returns
      exact ⟨by simp [h, h'], rfl⟩

theorem compareByte (a b : Int) (w : World) : Calls Tryd.prog 51 #[.int .u8 a, .int .u8 b] w fun e w' => e = .returned (.int .i64 (cmpI a b)) ∧ w' = w := by
  unfold cmpI
  by_cases h : a < b
  · go_enter Tryd.func51, Tryd.ntmps51
    go_wp2
    go_returns
    exact ⟨by simp [h], rfl⟩
  · by_cases h' : b < a
    · go_enter Tryd.func51, Tryd.ntmps51
      go_wp2
      go_returns
      exact ⟨by simp [h, h'], rfl⟩
    · go_enter Tryd.func51, Tryd.ntmps51
      go_wp2
      go_returns
      exact ⟨by simp [h, h'], rfl⟩

theorem compareInt (a b : Int) (w : World) : Calls Tryd.prog 52 #[.int .i64 a, .int .i64 b] w fun e w' => e = .returned (.int .i64 (cmpI a b)) ∧ w' = w := by
  unfold cmpI
  by_cases h : a < b
  · go_enter Tryd.func52, Tryd.ntmps52
    go_wp2
    go_returns
    exact ⟨by simp [h], rfl⟩
  · by_cases h' : b < a
    · go_enter Tryd.func52, Tryd.ntmps52
      go_wp2
      go_returns
      exact ⟨by simp [h, h'], rfl⟩
    · go_enter Tryd.func52, Tryd.ntmps52
      go_wp2
      go_returns
      exact ⟨by simp [h, h'], rfl⟩

theorem number_any (a b : Int) (w : World) : Calls Tryd.prog 55 #[.int .i64 a, .int .i64 b] w fun e w' => e = .returned (.int .i64 (cmpI a b)) ∧ w' = w := by
  unfold cmpI
  by_cases h : a < b
  · go_enter Tryd.func55, Tryd.ntmps55
    go_wp2
    go_returns
    exact ⟨by simp [h], rfl⟩
  · by_cases h' : b < a
    · go_enter Tryd.func55, Tryd.ntmps55
      go_wp2
      go_returns
      exact ⟨by simp [h, h'], rfl⟩
    · go_enter Tryd.func55, Tryd.ntmps55
      go_wp2
      go_returns
      exact ⟨by simp [h, h'], rfl⟩

theorem bit_any (b : Bool) (w : World) : Calls Tryd.prog 36 #[.bool b] w fun e w' => e = .returned (.int .u8 (bitI b)) ∧ w' = w := by
  cases b
  · go_enter Tryd.func36, Tryd.ntmps36
    go_wp2
    go_returns
    exact ⟨rfl, rfl⟩
  · go_enter Tryd.func36, Tryd.ntmps36
    go_wp2
    go_returns
    exact ⟨rfl, rfl⟩

set_option maxRecDepth 100000 in
theorem compareString_any (a b : ByteArray) (w : World) :
    Calls Tryd.prog 74 #[.string a, .string b] w fun e w' => e = .returned (.int .i64 (Lib.compareBytes a.data.toList b.data.toList)) ∧ w' = w := by
  go_enter Tryd.func74, Tryd.ntmps74
  go_wp2
  rw [run_callFunc_extern Tryd.func87 (by kernel_rfl) (by kernel_rfl) (by kernel_rfl) (e := Extern.BytealgCompare.compare) (by kernel_rfl), Lib.run_compareString]
  simp only [Result.andThen]
  rw [Oper.upon_value]
  go_wp2
  go_returns
  exact ⟨rfl, rfl⟩

theorem strCompare_any (a b : ByteArray) (w : World) :
    Calls Tryd.prog 53 #[.string a, .string b] w fun e w' => e = .returned (.int .i64 (Lib.compareBytes a.data.toList b.data.toList)) ∧ w' = w := by
  go_enter Tryd.func53, Tryd.ntmps53
  go_wp2_with (go_at_call 74; refine (compareString_any _ _ _).mono ?_; rintro e w1 ⟨rfl, hw1⟩; subst hw1)
  go_returns
  exact ⟨rfl, rfl⟩

theorem cmpZ_end (z1 z2 : List Int) (j : Nat) (h1 : z1.length = j) (h2 : j ≤ z2.length) : cmpZ (z1.drop j) (z2.drop j) = if z1.length < z2.length then -1 else 0 := by
  rw [List.drop_of_length_le (by omega)]
  by_cases h : z1.length < z2.length
  · rw [if_pos h]
    cases e : z2.drop j with
    | nil => have := congrArg List.length e; simp at this; omega
    | cons x y => rfl
  · rw [if_neg h, List.drop_of_length_le (by omega)]
    rfl
theorem cmpZ_over (z1 z2 : List Int) (j : Nat) (h1 : j < z1.length) (h2 : z2.length ≤ j) : cmpZ (z1.drop j) (z2.drop j) = 1 := by
  rw [List.drop_of_length_le h2]
  cases e : z1.drop j with
  | nil => have := congrArg List.length e; simp at this; omega
  | cons x y => rfl
theorem cmpZ_step (z1 z2 : List Int) (j : Nat) (h1 : j < z1.length) (h2 : j < z2.length) : cmpZ (z1.drop j) (z2.drop j) = if z1.getD j 0 < z2.getD j 0 then -1 else if z2.getD j 0 < z1.getD j 0 then 1 else cmpZ (z1.drop (j + 1)) (z2.drop (j + 1)) := by
  rw [List.drop_eq_getElem_cons h1, List.drop_eq_getElem_cons h2]
  simp only [cmpZ, List.getD, List.getElem?_eq_getElem h1, List.getElem?_eq_getElem h2, Option.getD_some]

set_option maxRecDepth 100000 in
theorem sliceCompare_any (a1 : Option Addr) (l1 c1 : Nat) (z1 : List Int) (a2 : Option Addr) (l2 c2 : Nat) (z2 : List Int) (w : World) (h1 : z1.length = l1) (h2 : z2.length = l2) (p1 : PathAt w a1 z1) (p2 : PathAt w a2 z2) (m1 : l1 ≤ maxLen) (m2 : l2 ≤ maxLen) :
    Calls Tryd.prog 54 #[.slice a1 l1 c1, .slice a2 l2 c2] w fun e w' => e = .returned (.int .i64 (cmpZ z1 z2)) ∧ w' = w := by
  unfold maxLen at m1 m2
  go_enter Tryd.func54, Tryd.ntmps54
  go_wp2
  go_loopw [11] (fun i wr => wr = w ∧ ∃ j : Nat, j ≤ l1 ∧ j ≤ l2 ∧ i = .int .i64 j ∧ cmpZ z1 z2 = cmpZ (z1.drop j) (z2.drop j)) (fun i _ => l1 - (intOf i).toNat)
  case atStart => exact ⟨rfl, 0, by omega, by omega, rfl, rfl⟩
  case round =>
    obtain ⟨hw, j, j1, j2, rfl, hz⟩ := hrel
    rw [hw]
    clear hw
    by_cases hj : j < l1
    · by_cases hk : j < l2
      · obtain ⟨x1, o1, rfl, q1⟩ := p1.num j (by omega)
        obtain ⟨x2, o2, rfl, q2⟩ := p2.num j (by omega)
        have hs := cmpZ_step z1 z2 j (by omega) (by omega)
        generalize z1.getD j 0 = u at *
        generalize z2.getD j 0 = v at *
        by_cases hu : u < v
        · rw [if_pos hu] at hs
          have hc : cmpI u v = -1 := by simp [cmpI, hu]
          go_wp2_with (go_at_call 52; refine (compareInt _ _ _).mono ?_; rintro e w1 ⟨rfl, hw1⟩; subst hw1; rw [hc])
          go_returns
          exact ⟨by rw [hz, hs]; rfl, rfl⟩
        · by_cases hv : v < u
          · rw [if_neg hu, if_pos hv] at hs
            have hc : cmpI u v = 1 := by simp [cmpI, hu, hv]
            go_wp2_with (go_at_call 52; refine (compareInt _ _ _).mono ?_; rintro e w1 ⟨rfl, hw1⟩; subst hw1; rw [hc])
            go_returns
            exact ⟨by rw [hz, hs]; rfl, rfl⟩
          · rw [if_neg hu, if_neg hv] at hs
            have hc : cmpI u v = 0 := by simp [cmpI, hu, hv]
            go_wp2_with (go_at_call 52; refine (compareInt _ _ _).mono ?_; rintro e w1 ⟨rfl, hw1⟩; subst hw1; rw [hc])
            exact ⟨⟨by first | rfl | trivial, j + 1, by omega, by omega, by go_num, hz.trans hs⟩, by simp [intOf]; omega⟩
      · obtain ⟨x1, o1, rfl, q1⟩ := p1.num j (by omega)
        have hs := cmpZ_over z1 z2 j (by omega) (by omega)
        go_wp2_with fail
        go_returns
        exact ⟨by rw [hz, hs]; rfl, rfl⟩
    · have hs := cmpZ_end z1 z2 j (by omega) (by omega)
      by_cases hl : l1 < l2
      · rw [if_pos (by omega)] at hs
        go_wp2_with fail
        go_returns
        exact ⟨by rw [hz, hs]; rfl, rfl⟩
      · rw [if_neg (by omega)] at hs
        go_wp2_with fail
        go_returns
        exact ⟨by rw [hz, hs]; rfl, rfl⟩
end Go.Proofs.YtokkmjcpjjiaaaaDoor
