/-
  How two things stand to one another: Order of the program and of the document.
-/
import Derived.Test.YtokkmjcpjjiaaaaDoorCmp
import Derived.Test.YtokkmjcpjjiaaaaDoorBox
import Derived.Laws.Cover1
namespace Go.Proofs.YtokkmjcpjjiaaaaDoor
open Go.RowKit
set_option linter.unusedSimpArgs false
set_option linter.unusedVariables false

/-- How two things stand to one another. -/
def ordV (k1 : Int) (b1 : Bool) (n1 : Int) (s1 : ByteArray) (z1 : List Int) (k2 : Int) (b2 : Bool) (n2 : Int) (s2 : ByteArray) (z2 : List Int) : Int :=
  if k1 ≠ k2 then cmpI k1 k2 else if k1 = 1 then cmpI (bitI b1) (bitI b2) else if k1 = 2 ∨ k1 = 4 ∨ k1 = 5 then cmpI n1 n2 else if k1 = 3 then Lib.compareBytes s1.data.toList s2.data.toList else if k1 = 6 then cmpZ z1 z2 else 0

theorem cmpZ_len (z1 z2 : List Int) (j : Nat) (h1 : j ≤ z1.length) (h2 : j ≤ z2.length) (h : j = z1.length ∨ j = z2.length) : cmpZ (z1.drop j) (z2.drop j) = cmpI (z1.length : Int) (z2.length : Int) := by
  by_cases e : j = z1.length
  · rw [cmpZ_end z1 z2 j e.symm h2]
    unfold cmpI
    by_cases h : z1.length < z2.length
    · rw [if_pos h, if_pos (by omega)]
    · rw [if_neg h, if_neg (by omega), if_neg (by omega)]
  · rw [cmpZ_over z1 z2 j (by omega) (by omega)]
    unfold cmpI
    rw [if_neg (by omega), if_pos (by omega)]
theorem belowN {B : Nat} {a w : World} {q : Nat} (h : Below B a w) : Below B a (w.drewN q) := ⟨h.os, h.tape, h.output, h.size, h.block⟩
theorem less_cmp : ∀ (x y : List UInt8), Op.bytesLess x y = decide (Lib.compareBytes x y = -1) ∧ (x == y) = decide (Lib.compareBytes x y = 0) ∧ (Lib.compareBytes x y = -1 ∨ Lib.compareBytes x y = 0 ∨ Lib.compareBytes x y = 1)
  | [], [] => by simp [Op.bytesLess, Lib.compareBytes]
  | [], _ :: _ => by simp [Op.bytesLess, Lib.compareBytes]
  | _ :: _, [] => by simp [Op.bytesLess, Lib.compareBytes]
  | a :: x, b :: y => by
    obtain ⟨i1, i2, i3⟩ := less_cmp x y
    unfold Op.bytesLess Lib.compareBytes
    by_cases h : a < b
    · have hne : ¬ a = b := fun e => by subst e; exact UInt8.lt_irrefl a h
      simp [h, hne]
    · by_cases h' : b < a
      · have hne : ¬ a = b := fun e => by subst e; exact UInt8.lt_irrefl a h'
        simp [h, h', hne]
      · have he : a = b := UInt8.le_antisymm (UInt8.not_lt.1 h') (UInt8.not_lt.1 h)
        subst he
        simp only [h, decide_false, beq_self_eq_true, Bool.true_and, Bool.false_or, if_false]
        refine ⟨i1, ?_, i3⟩
        rw [← i2]
        simp

set_option maxRecDepth 100000 in
set_option maxHeartbeats 4000000 in
theorem Order_any (k1 : Int) (b1 : Bool) (n1 : Int) (s1 : ByteArray) (p1 : Option Addr) (l1 c1 : Nat) (z1 : List Int) (k2 : Int) (b2 : Bool) (n2 : Int) (s2 : ByteArray) (p2 : Option Addr) (l2 c2 : Nat) (z2 : List Int) (w : World) (h1 : z1.length = l1) (h2 : z2.length = l2) (q1 : PathAt w p1 z1) (q2 : PathAt w p2 z2) (m1 : l1 ≤ maxLen) (m2 : l2 ≤ maxLen) :
    Calls Tryd.prog 21 #[vv k1 b1 n1 s1 p1 l1 c1, vv k2 b2 n2 s2 p2 l2 c2] w fun e w' => e = .returned (.int .i64 (ordV k1 b1 n1 s1 z1 k2 b2 n2 s2 z2)) ∧ Below w.heap.size w w' := by
  unfold vv ordV
  by_cases hk : k1 = k2
  case neg =>
    rw [if_pos hk]
    go_enter Tryd.func21, Tryd.ntmps21
    go_wp2_with (go_at_call 50; refine (compareKind _ _ _).mono ?_; rintro e wz ⟨rfl, rfl⟩)
    go_returns
    exact ⟨rfl, by go_grown⟩
  case pos =>
  subst hk
  rw [if_neg (by simp)]
  have q1' := (q1.alloc (.cells #[.int .i64 k1, .bool b1, .int .i64 n1, .string s1, .slice p1 l1 c1] 25)).alloc (.cells #[.int .i64 k1, .bool b2, .int .i64 n2, .string s2, .slice p2 l2 c2] 25)
  have q2' := (q2.alloc (.cells #[.int .i64 k1, .bool b1, .int .i64 n1, .string s1, .slice p1 l1 c1] 25)).alloc (.cells #[.int .i64 k1, .bool b2, .int .i64 n2, .string s2, .slice p2 l2 c2] 25)
  by_cases e1 : k1 = 1
  · subst e1
    rw [if_pos rfl]
    go_enter Tryd.func21, Tryd.ntmps21
    go_wp2_with fail
    go_quiet (first | (go_at_call 36; exact Calls.quiet_of_same (bit_any _ _)) | (go_at_call 51; exact Calls.quiet_of_same (compareByte _ _ _)))
    go_wp2_with fail
    go_returns
    exact ⟨rfl, belowN (by go_grown)⟩
  by_cases e2 : k1 = 2 ∨ k1 = 4 ∨ k1 = 5
  · rw [if_neg e1, if_pos e2]
    rcases e2 with rfl | rfl | rfl
    all_goals
      go_enter Tryd.func21, Tryd.ntmps21
      go_wp2_with (go_at_call 52; refine (compareInt _ _ _).mono ?_; rintro e wz ⟨rfl, rfl⟩)
      go_returns
      exact ⟨rfl, by go_grown⟩
  by_cases e3 : k1 = 3
  · subst e3
    rw [if_neg (by decide), if_neg (by decide), if_pos rfl]
    go_enter Tryd.func21, Tryd.ntmps21
    go_wp2_with (go_at_call 53; refine (strCompare_any _ _ _).mono ?_; rintro e wz ⟨rfl, rfl⟩)
    go_returns
    exact ⟨rfl, by go_grown⟩
  by_cases e6 : k1 = 6
  · subst e6
    rw [if_neg (by decide), if_neg (by decide), if_neg (by decide), if_pos rfl]
    go_enter Tryd.func21, Tryd.ntmps21
    go_wp2_with (go_at_call 54; refine (sliceCompare_any _ _ _ z1 _ _ _ z2 _ h1 h2 q1' q2' m1 m2).mono ?_; rintro e wz ⟨rfl, rfl⟩)
    go_returns
    exact ⟨rfl, by go_grown⟩
  · rw [if_neg e1, if_neg e2, if_neg e3, if_neg e6]
    have e2a : ¬ k1 = 2 := fun h => e2 (.inl h)
    have e2b : ¬ k1 = 4 := fun h => e2 (.inr (.inl h))
    have e2c : ¬ k1 = 5 := fun h => e2 (.inr (.inr h))
    clear e2
    go_enter Tryd.func21, Tryd.ntmps21
    go_wp2_with fail
    go_returns
    exact ⟨rfl, by go_grown⟩

set_option maxRecDepth 100000 in
set_option maxHeartbeats 4000000 in
theorem refOrder_any (k1 : Int) (b1 : Bool) (n1 : Int) (s1 : ByteArray) (p1 : Option Addr) (l1 c1 : Nat) (z1 : List Int) (k2 : Int) (b2 : Bool) (n2 : Int) (s2 : ByteArray) (p2 : Option Addr) (l2 c2 : Nat) (z2 : List Int) (w : World) (h1 : z1.length = l1) (h2 : z2.length = l2) (q1 : PathAt w p1 z1) (q2 : PathAt w p2 z2) (m1 : l1 ≤ maxLen) (m2 : l2 ≤ maxLen) :
    Calls Tryd.prog 22 #[vv k1 b1 n1 s1 p1 l1 c1, vv k2 b2 n2 s2 p2 l2 c2] w fun e w' => e = .returned (.int .i64 (ordV k1 b1 n1 s1 z1 k2 b2 n2 s2 z2)) ∧ Below w.heap.size w w' := by
  unfold vv ordV
  by_cases hk : k1 = k2
  case neg =>
    rw [if_pos hk]
    go_enter Tryd.func22, Tryd.ntmps22
    go_wp2_with (go_at_call 55; refine (number_any _ _ _).mono ?_; rintro e wz ⟨rfl, rfl⟩)
    go_returns
    exact ⟨rfl, by go_grown⟩
  case pos =>
  subst hk
  rw [if_neg (by simp)]
  have q1' := (q1.alloc (.cells #[.int .i64 k1, .bool b1, .int .i64 n1, .string s1, .slice p1 l1 c1] 25)).alloc (.cells #[.int .i64 k1, .bool b2, .int .i64 n2, .string s2, .slice p2 l2 c2] 25)
  have q2' := (q2.alloc (.cells #[.int .i64 k1, .bool b1, .int .i64 n1, .string s1, .slice p1 l1 c1] 25)).alloc (.cells #[.int .i64 k1, .bool b2, .int .i64 n2, .string s2, .slice p2 l2 c2] 25)
  by_cases e1 : k1 = 1
  · subst e1
    rw [if_pos rfl]
    cases b1 <;> cases b2
    all_goals
      go_enter Tryd.func22, Tryd.ntmps22
      go_wp2_with fail
      go_returns
      exact ⟨rfl, by go_grown⟩
  by_cases e2 : k1 = 2 ∨ k1 = 4 ∨ k1 = 5
  · rw [if_neg e1, if_pos e2]
    rcases e2 with rfl | rfl | rfl
    all_goals
      go_enter Tryd.func22, Tryd.ntmps22
      go_wp2_with (go_at_call 55; refine (number_any _ _ _).mono ?_; rintro e wz ⟨rfl, rfl⟩)
      go_returns
      exact ⟨rfl, by go_grown⟩
  by_cases e3 : k1 = 3
  · subst e3
    rw [if_neg (by decide), if_neg (by decide), if_pos rfl]
    have hls := less_cmp s1.data.toList s2.data.toList
    rw [← ByteArray.toList_eq, ← ByteArray.toList_eq] at hls ⊢
    generalize Lib.compareBytes s1.toList s2.toList = cc at hls ⊢
    obtain ⟨hL, hE, hT⟩ := hls
    clear q1 q2 q1' q2'
    rcases hT with rfl | rfl | rfl
    · have hL' : Op.bytesLess s1.toList s2.toList = true := by rw [hL]; rfl
      clear hL hE
      go_enter Tryd.func22, Tryd.ntmps22
      go_wp2_with fail
      go_returns
      exact ⟨rfl, by go_grown⟩
    · have hL' : Op.bytesLess s1.toList s2.toList = false := by rw [hL]; rfl
      have hE' : (s1.toList == s2.toList) = true := by rw [hE]; rfl
      clear hL hE
      go_enter Tryd.func22, Tryd.ntmps22
      go_wp2_with fail
      go_returns
      exact ⟨rfl, by go_grown⟩
    · have hL' : Op.bytesLess s1.toList s2.toList = false := by rw [hL]; rfl
      have hE' : (s1.toList == s2.toList) = false := by rw [hE]; rfl
      clear hL hE
      go_enter Tryd.func22, Tryd.ntmps22
      go_wp2_with fail
      go_returns
      exact ⟨rfl, by go_grown⟩
  by_cases e6 : k1 = 6
  · subst e6
    rw [if_neg (by decide), if_neg (by decide), if_neg (by decide), if_pos rfl]
    have hb1 := (BoxAt.new w 6 b1 n1 s1 p1 l1 c1 rfl).alloc (.cells #[.int .i64 6, .bool b2, .int .i64 n2, .string s2, .slice p2 l2 c2] 25)
    have hb2 := BoxAt.new (w.alloc (.cells #[.int .i64 6, .bool b1, .int .i64 n1, .string s1, .slice p1 l1 c1] 25)) 6 b2 n2 s2 p2 l2 c2 (x := w.heap.size + 1) (by simp)
    have h0 := below_on (below_new w (.cells #[.int .i64 6, .bool b1, .int .i64 n1, .string s1, .slice p1 l1 c1] 25)) (below_new _ (.cells #[.int .i64 6, .bool b2, .int .i64 n2, .string s2, .slice p2 l2 c2] 25))
    replace hb1 : Hid _ := hb1
    replace hb2 : Hid _ := hb2
    replace q1' : Hid _ := q1'
    replace q2' : Hid _ := q2'
    clear q1 q2
    unfold maxLen at m1 m2
    go_enter Tryd.func22, Tryd.ntmps22
    go_wp2_with fail
    go_loopw [5] (fun i wr => ∃ j : Nat, j ≤ l1 ∧ j ≤ l2 ∧ i = .int .i64 j ∧ Below (w.heap.size + 1 + 1) ((w.alloc (.cells #[.int .i64 6, .bool b1, .int .i64 n1, .string s1, .slice p1 l1 c1] 25)).alloc (.cells #[.int .i64 6, .bool b2, .int .i64 n2, .string s2, .slice p2 l2 c2] 25)) wr ∧ cmpZ z1 z2 = cmpZ (z1.drop j) (z2.drop j)) (fun i _ => l1 - (intOf i).toNat)
    case atStart => exact ⟨0, by omega, by omega, rfl, Below.refl _ _, rfl⟩
    case round =>
      obtain ⟨j, j1, j2, rfl, hb, hz⟩ := hrel
      have hbW : Below ((w.alloc (.cells #[.int .i64 6, .bool b1, .int .i64 n1, .string s1, .slice p1 l1 c1] 25)).alloc (.cells #[.int .i64 6, .bool b2, .int .i64 n2, .string s2, .slice p2 l2 c2] 25)).heap.size ((w.alloc (.cells #[.int .i64 6, .bool b1, .int .i64 n1, .string s1, .slice p1 l1 c1] 25)).alloc (.cells #[.int .i64 6, .bool b2, .int .i64 n2, .string s2, .slice p2 l2 c2] 25)) wr := by simpa using hb
      have h3 : Below w.heap.size w wr := below_on h0 hbW
      have hsz := h3.size
      obtain ⟨i0, i1, i2, i3, i4, -⟩ := BoxAt.below hb1.out hbW
      obtain ⟨g0, g1, g2, g3, g4, -⟩ := BoxAt.below hb2.out hbW
      have p1' := PathAt.below (zs := z1) q1'.out hbW
      have p2' := PathAt.below (zs := z2) q2'.out hbW
      clear hb1 hb2 q1' q2' h0
      replace hb : Hid _ := hb
      clear hbW
      by_cases hj : j < l1
      · by_cases hk : j < l2
        · obtain ⟨x1, o1, rfl, r1⟩ := p1'.num j (by omega)
          obtain ⟨x2, o2, rfl, r2⟩ := p2'.num j (by omega)
          clear p1' p2'
          have hs := cmpZ_step z1 z2 j (by omega) (by omega)
          generalize z1.getD j 0 = u at *
          generalize z2.getD j 0 = v at *
          by_cases hu : u < v
          · rw [if_pos hu] at hs
            have hc : cmpI u v = -1 := by simp [cmpI, hu]
            go_wp2_with fail
            go_quiet ((go_at_call 55; exact Calls.quiet_of_same (number_any _ _ _)))
            go_wp2_with fail
            go_returns
            exact ⟨by rw [hz, hs, ← hc]; rfl, belowN h3⟩
          · by_cases hv : v < u
            · rw [if_neg hu, if_pos hv] at hs
              have hc : cmpI u v = 1 := by simp [cmpI, hu, hv]
              go_wp2_with fail
              go_quiet ((go_at_call 55; exact Calls.quiet_of_same (number_any _ _ _)))
              go_wp2_with fail
              go_returns
              exact ⟨by rw [hz, hs, ← hc]; rfl, belowN h3⟩
            · rw [if_neg hu, if_neg hv] at hs
              have hc : cmpI u v = 0 := by simp [cmpI, hu, hv]
              go_wp2_with fail
              go_quiet ((go_at_call 55; exact Calls.quiet_of_same (number_any _ _ _)))
              go_wp2_with fail
              exact ⟨⟨j + 1, by omega, by omega, by go_num, belowN hb.out, hz.trans hs⟩, by simp [intOf]; omega⟩
        · have hs := cmpZ_len z1 z2 j (by omega) (by omega) (by omega)
          rw [h1, h2] at hs
          clear p1' p2'
          go_wp2_with (go_at_call 55; refine (number_any _ _ _).mono ?_; rintro e wz ⟨rfl, hwz⟩; subst hwz)
          go_returns
          exact ⟨by rw [hz, hs]; rfl, h3⟩
      · have hs := cmpZ_len z1 z2 j (by omega) (by omega) (by omega)
        rw [h1, h2] at hs
        clear p1' p2'
        go_wp2_with (go_at_call 55; refine (number_any _ _ _).mono ?_; rintro e wz ⟨rfl, hwz⟩; subst hwz)
        go_returns
        exact ⟨by rw [hz, hs]; rfl, h3⟩
  · rw [if_neg e1, if_neg e2, if_neg e3, if_neg e6]
    have e2a : ¬ k1 = 2 := fun h => e2 (.inl h)
    have e2b : ¬ k1 = 4 := fun h => e2 (.inr (.inl h))
    have e2c : ¬ k1 = 5 := fun h => e2 (.inr (.inr h))
    clear e2
    go_enter Tryd.func22, Tryd.ntmps22
    go_wp2_with fail
    go_returns
    exact ⟨rfl, by go_grown⟩
end Go.Proofs.YtokkmjcpjjiaaaaDoor
