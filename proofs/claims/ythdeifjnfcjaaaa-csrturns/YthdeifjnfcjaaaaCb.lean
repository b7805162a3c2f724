/-
  rises, countBelow of the program; SameInts, has of the document; times.
-/
import Derived.Test.YthdeifjnfcjaaaaBs
namespace Go.Proofs.Ythdeifjnfcjaaaa
open Go.RowKit
set_option linter.unusedSimpArgs false
set_option linter.unusedVariables false

/-- Does a list rise? -/
def risB (l : List Int) : Bool := decide (Ris l)
theorem risB_yes {l : List Int} (h : Ris l) : risB l = true := by simpa [risB] using h
theorem risB_no {l : List Int} (h : ¬ Ris l) : risB l = false := by simpa [risB] using h

set_option maxRecDepth 100000 in
set_option maxHeartbeats 2000000 in
theorem rises_any (a : Option Addr) (n c : Nat) (Z : List Int) (w : World) (hz : Z.length = n) (hm : n ≤ maxLen) (hp : PathAt w a Z) :
    Calls Try.prog 12 #[.slice a n c] w fun e w' => e = .returned (.bool (risB Z)) ∧ Below w.heap.size w w' := by
  unfold maxLen at hm
  replace hp : Hid _ := hp
  replace hz : Hid _ := hz
  go_enter Try.func12, Try.ntmps12
  go_wp2_with fail
  go_loopw [7] (fun i wr => ∃ j : Nat, (j = 0 ∨ j + 1 ≤ n) ∧ i = .int .i64 j ∧ Below w.heap.size w wr ∧ ∀ t, t < j → Z.getD t 0 < Z.getD (t + 1) 0) (fun i _ => n - (intOf i).toNat)
  case atStart => exact ⟨0, .inl rfl, rfl, Below.refl _ _, by simp⟩
  case round =>
    obtain ⟨j, j1, rfl, hb, hu⟩ := hrel
    replace hu : Hid _ := hu
    by_cases hj : j + 1 < n
    · obtain ⟨b, off, rfl, cx, cy⟩ := PathAt.two (PathAt.below hp.out hb) j (j + 1) (by rw [hz.out]; omega) (by rw [hz.out]; omega)
      have hjI : (j : Int) < (n : Int) - 1 := by omega
      generalize hx : Z.getD j 0 = x at cx
      generalize hy : Z.getD (j + 1) 0 = y at cy
      replace hx : Hid _ := hx
      replace hy : Hid _ := hy
      clear hp
      by_cases hxy : x < y
      · have e1 : ¬ (y ≤ x) := by omega
        go_wp2_with fail
        go_region
        go_wp2_with fail
        refine ⟨⟨j + 1, by omega, by first | rfl | go_num | (congr 1; omega), hb.drew, fun t ht => ?_⟩, by simp [intOf]; omega⟩
        rcases Nat.lt_succ_iff_lt_or_eq.1 ht with h | rfl
        · exact hu.out t h
        · rw [hx.out, hy.out]; exact hxy
      · have e1 : y ≤ x := by omega
        go_wp2_with fail
        go_region
        go_wp2_with fail
        go_returns
        refine ⟨?_, hb.drew⟩
        rw [risB_no (not_ris (i := j) (by rw [hz.out]; exact hj) (by rw [hx.out, hy.out]; exact e1))]
        rfl
    · have hjI : ¬ (j : Int) < (n : Int) - 1 := by omega
      clear hp
      go_wp2_with fail
      go_returns
      refine ⟨?_, hb⟩
      rw [risB_yes (ris_of_next fun i hi => hu.out i (by rw [hz.out] at hi; omega))]
      rfl

/-- Does a list have a number? -/
def hasB (l : List Int) (x : Int) : Bool := l.contains x
set_option maxRecDepth 100000 in
set_option maxHeartbeats 2000000 in
theorem has_any (a : Option Addr) (n c : Nat) (Z : List Int) (x : Int) (w : World) (hz : Z.length = n) (hm : n ≤ maxLen) (hp : PathAt w a Z) :
    Calls Try.prog 14 #[.slice a n c, .int .i64 x] w fun e w' => e = .returned (.bool (hasB Z x)) ∧ w' = w := by
  unfold maxLen at hm
  replace hp : Hid _ := hp
  replace hz : Hid _ := hz
  go_enter Try.func14, Try.ntmps14
  go_wp2_with fail
  go_loop [5] (fun i => ∃ j : Nat, j ≤ n ∧ i = .int .i64 j ∧ ∀ t, t < j → Z.getD t 0 ≠ x) (fun i => n - (intOf i).toNat)
  case atStart => exact ⟨0, by omega, rfl, by simp⟩
  case round =>
    obtain ⟨j, j1, rfl, hu⟩ := hrel
    replace hu : Hid _ := hu
    by_cases hj : j < n
    · obtain ⟨b, off, rfl, cx⟩ := PathAt.num hp.out j (by rw [hz.out]; omega)
      generalize hy : Z.getD j 0 = y at cx
      replace hy : Hid _ := hy
      clear hp
      by_cases hxy : y = x
      · have e1 : (y == x) = true := by simpa using hxy
        replace hxy : Hid _ := hxy
        go_wp2_with fail
        go_returns
        refine ⟨?_, rfl⟩
        have : hasB Z x = true := by
          rw [hasB, List.contains_iff_mem, ← hxy.out, ← hy.out]
          have hjl : j < Z.length := by rw [hz.out]; exact hj
          simp [List.getD, hjl]
        rw [this]
        rfl
      · have e1 : (y == x) = false := by simpa using hxy
        go_wp2_with fail
        go_round
        case rel =>
          refine ⟨j + 1, by omega, by first | rfl | go_num | (congr 1; omega), fun t ht => ?_⟩
          rcases Nat.lt_succ_iff_lt_or_eq.1 ht with h | rfl
          · exact hu.out t h
          · rw [hy.out]; exact hxy
        case measure => simp [intOf]; omega
    · clear hp
      go_wp2_with fail
      go_returns
      refine ⟨?_, rfl⟩
      have : hasB Z x = false := by
        rw [hasB, Bool.eq_false_iff]
        intro h
        rw [List.contains_iff_mem] at h
        obtain ⟨t, ht, e⟩ := List.mem_iff_getElem.1 h
        exact hu.out t (by have := hz.out; omega) (by simp [List.getD, ht, e])
      rw [this]
      rfl

/-- Are two lists alike? -/
def sameB (a b : List Int) : Bool := decide (a = b)
set_option maxRecDepth 100000 in
set_option maxHeartbeats 2000000 in
theorem same_any (a : Option Addr) (n c : Nat) (A : List Int) (b : Option Addr) (m d : Nat) (B : List Int) (w : World) (hA : A.length = n) (hB : B.length = m) (hn : n ≤ maxLen) (hm : m ≤ maxLen) (pa : PathAt w a A) (pb : PathAt w b B) :
    Calls Try.prog 9 #[.slice a n c, .slice b m d] w fun e w' => e = .returned (.bool (sameB A B)) ∧ Below w.heap.size w w' := by
  unfold maxLen at hn hm
  replace pa : Hid _ := pa
  replace pb : Hid _ := pb
  by_cases hnm : n = m
  case neg =>
    have e1 : ¬ (n : Int) = (m : Int) := by omega
    have : sameB A B = false := by
      have : A ≠ B := fun e => hnm (by rw [← hA, ← hB, e])
      simp [sameB, this]
    rw [this]
    clear this pa pb hA hB
    go_enter Try.func9, Try.ntmps9
    go_wp2_with fail
    go_returns
    exact ⟨by simp, by go_grown⟩
  subst hnm
  replace hA : Hid _ := hA
  replace hB : Hid _ := hB
  go_enter Try.func9, Try.ntmps9
  go_wp2_with fail
  go_loopw [5] (fun i wr => ∃ j : Nat, j ≤ n ∧ i = .int .i64 j ∧ Below w.heap.size w wr ∧ ∀ t, t < j → A.getD t 0 = B.getD t 0) (fun i _ => n - (intOf i).toNat)
  case atStart => exact ⟨0, by omega, rfl, Below.refl _ _, by simp⟩
  case round =>
    obtain ⟨j, j1, rfl, hb, hu⟩ := hrel
    replace hu : Hid _ := hu
    by_cases hj : j < n
    · obtain ⟨g1, o1, rfl, cx⟩ := PathAt.num (PathAt.below pa.out hb) j (by rw [hA.out]; omega)
      obtain ⟨g2, o2, rfl, cy⟩ := PathAt.num (PathAt.below pb.out hb) j (by rw [hB.out]; omega)
      generalize hx : A.getD j 0 = x at cx
      generalize hy : B.getD j 0 = y at cy
      replace hx : Hid _ := hx
      replace hy : Hid _ := hy
      clear pa pb
      by_cases hxy : x = y
      · have e1 : (x == y) = true := by simpa using hxy
        replace hxy : Hid _ := hxy
        go_wp2_with fail
        go_region
        go_wp2_with fail
        refine ⟨⟨j + 1, by omega, by first | rfl | go_num | (congr 1; omega), hb.drew, fun t ht => ?_⟩, by simp [intOf]; omega⟩
        rcases Nat.lt_succ_iff_lt_or_eq.1 ht with h | rfl
        · exact hu.out t h
        · rw [hx.out, hy.out]; exact hxy.out
      · have e1 : (x == y) = false := by simpa using hxy
        go_wp2_with fail
        go_region
        go_wp2_with fail
        go_returns
        refine ⟨?_, hb.drew⟩
        have : sameB A B = false := by
          have : A ≠ B := fun e => hxy (by rw [← hx.out, ← hy.out, e])
          simp [sameB, this]
        rw [this]
        rfl
    · clear pa pb
      go_wp2_with fail
      go_returns
      refine ⟨?_, hb⟩
      have : sameB A B = true := by
        have : A = B := by
          apply List.ext_getElem
          · rw [hA.out, hB.out]
          · intro t h1 h2
            have := hu.out t (by have := hA.out; omega)
            simpa [List.getD, h1, h2] using this
        simp [sameB, this]
      rw [this]
      rfl
end Go.Proofs.Ythdeifjnfcjaaaa
