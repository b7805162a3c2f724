/-
  slices.BinarySearch of a rising list; countBelow; rises; SameInts; has.
-/
import Derived.Test.YthdeifjnfcjaaaaLst
import Derived.Deep.LoopGhost
import Derived.BigQuiet
import Derived.Deep.QuietTactic
import Derived.Lib.QuietBelow
namespace Go.Proofs.Ythdeifjnfcjaaaa
open Go.RowKit
set_option linter.unusedSimpArgs false
set_option linter.unusedVariables false

theorem nanC (x : Int) (w : World) : Calls Try.prog 42 #[.int .i64 x] w fun e w' => e = .returned (.bool false) ∧ w' = w := by
  go_enter Try.func42, Try.ntmps42
  go_wp2
  go_ret
  exact ⟨by simp, rfl⟩
theorem nanS (x : Int) (w : World) : Calls Try.prog 41 #[.int .i64 x] w fun e w' => e = .returned (.bool false) ∧ w' = w := by
  go_enter Try.func41, Try.ntmps41
  go_wp2
  go_ret
  exact ⟨by simp, rfl⟩
theorem less_any (x y : Int) (w : World) : Calls Try.prog 40 #[.int .i64 x, .int .i64 y] w fun e w' => e = .returned (.bool (decide (x < y))) ∧ w' = w := by
  go_enter Try.func40, Try.ntmps40
  go_wp2_with (go_at_call 42; refine (nanC _ _).mono ?_; rintro e w' ⟨rfl, rfl⟩)
  go_ret
  exact ⟨rfl, rfl⟩

set_option maxRecDepth 100000 in
set_option maxHeartbeats 4000000 in
theorem bs_any (a : Option Addr) (n c : Nat) (Z : List Int) (x : Int) (w : World) (hz : Z.length = n) (hbig : n < 4611686018427387904) (hp : PathAt w a Z) (hs : Ris Z) :
    Calls Try.prog 31 #[.slice a n c, .int .i64 x] w fun e w' => ∃ (m : Nat) (b : Bool), e = .returned (.tuple #[.int .i64 m, .bool b]) ∧ (m ≤ n ∧ (∀ j, j < m → Z.getD j 0 < x) ∧ ∀ j, m ≤ j → j < n → x ≤ Z.getD j 0) ∧ Below w.heap.size w w' := by
  replace hp : Hid _ := hp
  replace hs : Hid _ := hs
  replace hz : Hid _ := hz
  go_enter Try.func31, Try.ntmps31
  go_wp2
  go_loopg [7, 8] n (fun g s7 s8 wr => ∃ lo hi : Nat, s7 = .int .i64 lo ∧ s8 = .int .i64 hi ∧ lo ≤ hi ∧ hi ≤ n ∧ hi - lo ≤ g ∧ Below w.heap.size w wr ∧ (∀ t, t < lo → Z.getD t 0 < x) ∧ (∀ t, hi ≤ t → t < n → x ≤ Z.getD t 0))
  case atStart => exact ⟨0, n, rfl, rfl, Nat.zero_le _, Nat.le_refl _, by omega, Below.refl _ _, fun t ht => absurd ht (Nat.not_lt_zero _), fun t h1 h2 => by omega⟩
  case round =>
    obtain ⟨lo, hi, rfl, rfl, hlh, hin, hg, hb, h1, h2⟩ := hrel
    have I : Aside ((∀ t, t < lo → Z.getD t 0 < x) ∧ (∀ t, hi ≤ t → t < n → x ≤ Z.getD t 0)) := ⟨h1, h2⟩
    clear h1 h2
    by_cases hlt : lo < hi
    · obtain ⟨b, off, rfl, cm⟩ := PathAt.num (PathAt.below hp.out hb) ((lo + hi) / 2) (by rw [hz.out]; omega)
      have SR : Aside (∀ i j, i < j → j < n → Z.getD i 0 < Z.getD j 0) := fun i j hij hj => ris_at hs.out hij (by rw [hz.out]; exact hj)
      clear hp hs
      generalize hy : Z.getD ((lo + hi) / 2) 0 = y at cm
      have Y : Aside (Z.getD ((lo + hi) / 2) 0 = y) := hy
      clear hy
      by_cases hyx : y < x
      · go_wp2_with (first | (go_at_call 40; refine (less_any _ _ _).mono ?_; rintro e w' ⟨rfl, rfl⟩) | (go_at_call 41; refine (nanS _ _).mono ?_; rintro e w' ⟨rfl, rfl⟩))
        go_roundg (hi - ((lo + hi) / 2 + 1))
        case measure => omega
        case rel =>
          refine ⟨(lo + hi) / 2 + 1, hi, by rw [show ((lo : Int) + (hi : Int)) / 2 + 1 = (((lo + hi) / 2 + 1 : Nat) : Int) by omega], rfl, by omega, hin, Nat.le_refl _, by go_grown, fun t ht => ?_, I.out.2⟩
          have h1 := Y.out
          by_cases e : t = (lo + hi) / 2
          · rw [e]; omega
          · have := SR.out t ((lo + hi) / 2) (by omega) (by omega)
            omega
      · go_wp2_with (first | (go_at_call 40; refine (less_any _ _ _).mono ?_; rintro e w' ⟨rfl, rfl⟩) | (go_at_call 41; refine (nanS _ _).mono ?_; rintro e w' ⟨rfl, rfl⟩))
        go_roundg ((lo + hi) / 2 - lo)
        case measure => omega
        case rel =>
          refine ⟨lo, (lo + hi) / 2, rfl, by rw [show ((lo : Int) + (hi : Int)) / 2 = (((lo + hi) / 2 : Nat) : Int) by omega], by omega, by omega, Nat.le_refl _, by go_grown, I.out.1, fun t ht htn => ?_⟩
          have h1 := Y.out
          by_cases e : t = (lo + hi) / 2
          · rw [e]; omega
          · have := SR.out ((lo + hi) / 2) t (by omega) htn
            omega
    · have : hi = lo := by omega
      subst this
      by_cases hn : hi < n
      · obtain ⟨b, off, rfl, cl⟩ := PathAt.num (PathAt.below hp.out hb) hi (by rw [hz.out]; omega)
        clear hp hs
        generalize Z.getD hi 0 = y at cl
        by_cases hyx : y = x
        · go_wp2_with (first | (go_at_call 40; refine (less_any _ _ _).mono ?_; rintro e w' ⟨rfl, rfl⟩) | (go_at_call 41; refine (nanS _ _).mono ?_; rintro e w' ⟨rfl, rfl⟩))
          go_ret2
          exact ⟨hi, _, rfl, ⟨hin, I.out.1, I.out.2⟩, by go_grown⟩
        · go_wp2_with (first | (go_at_call 40; refine (less_any _ _ _).mono ?_; rintro e w' ⟨rfl, rfl⟩) | (go_at_call 41; refine (nanS _ _).mono ?_; rintro e w' ⟨rfl, rfl⟩))
          go_ret2
          exact ⟨hi, _, rfl, ⟨hin, I.out.1, I.out.2⟩, by go_grown⟩
      · clear hp hs
        go_wp2_with (first | (go_at_call 40; refine (less_any _ _ _).mono ?_; rintro e w' ⟨rfl, rfl⟩) | (go_at_call 41; refine (nanS _ _).mono ?_; rintro e w' ⟨rfl, rfl⟩))
        go_ret2
        exact ⟨hi, _, rfl, ⟨hin, I.out.1, I.out.2⟩, by go_grown⟩
end Go.Proofs.Ythdeifjnfcjaaaa
