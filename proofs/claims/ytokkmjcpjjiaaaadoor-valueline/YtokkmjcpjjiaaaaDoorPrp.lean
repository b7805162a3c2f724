/-
  What holds of how two things stand to one another.
-/
import Derived.Test.YtokkmjcpjjiaaaaDoorEqt
namespace Go.Proofs.YtokkmjcpjjiaaaaDoor
open Go.RowKit
set_option linter.unusedSimpArgs false
set_option linter.unusedVariables false

theorem cmpI_three (a b : Int) : cmpI a b = -1 ∨ cmpI a b = 0 ∨ cmpI a b = 1 := by
  unfold cmpI
  split
  · exact .inl rfl
  · split
    · exact .inr (.inr rfl)
    · exact .inr (.inl rfl)
theorem cmpI_neg (a b : Int) : cmpI b a = -cmpI a b := by
  unfold cmpI
  by_cases h : a < b
  · simp [h, show ¬ b < a by omega]
  · by_cases h' : b < a
    · simp [h, h']
    · simp [h, h']
theorem cmpZ_three : ∀ x y : List Int, cmpZ x y = -1 ∨ cmpZ x y = 0 ∨ cmpZ x y = 1
  | [], [] => .inr (.inl rfl)
  | [], _ :: _ => .inl rfl
  | _ :: _, [] => .inr (.inr rfl)
  | a :: x, b :: y => by
    unfold cmpZ
    split
    · exact .inl rfl
    · split
      · exact .inr (.inr rfl)
      · exact cmpZ_three x y
theorem cmpZ_neg : ∀ x y : List Int, cmpZ y x = -cmpZ x y
  | [], [] => rfl
  | [], _ :: _ => rfl
  | _ :: _, [] => rfl
  | a :: x, b :: y => by
    unfold cmpZ
    by_cases h : a < b
    · simp [h, show ¬ b < a by omega]
    · by_cases h' : b < a
      · simp [h, h']
      · simp [h, h', cmpZ_neg x y]
theorem cmpB_neg : ∀ x y : List UInt8, Lib.compareBytes y x = -Lib.compareBytes x y
  | [], [] => rfl
  | [], _ :: _ => rfl
  | _ :: _, [] => rfl
  | a :: x, b :: y => by
    unfold Lib.compareBytes
    by_cases h : a < b
    · have h' : ¬ b < a := fun h' => UInt8.lt_irrefl a (UInt8.lt_trans h h')
      simp [h, h']
    · by_cases h' : b < a
      · simp [h, h']
      · simp [h, h', cmpB_neg x y]
theorem ordV_three (k1 : Int) (b1 : Bool) (n1 : Int) (s1 : ByteArray) (z1 : List Int) (k2 : Int) (b2 : Bool) (n2 : Int) (s2 : ByteArray) (z2 : List Int) : ordV k1 b1 n1 s1 z1 k2 b2 n2 s2 z2 = -1 ∨ ordV k1 b1 n1 s1 z1 k2 b2 n2 s2 z2 = 0 ∨ ordV k1 b1 n1 s1 z1 k2 b2 n2 s2 z2 = 1 := by
  unfold ordV
  split
  · exact cmpI_three _ _
  · split
    · exact cmpI_three _ _
    · split
      · exact cmpI_three _ _
      · split
        · exact (less_cmp _ _).2.2
        · split
          · exact cmpZ_three _ _
          · exact .inr (.inl rfl)
theorem ordV_neg (k1 : Int) (b1 : Bool) (n1 : Int) (s1 : ByteArray) (z1 : List Int) (k2 : Int) (b2 : Bool) (n2 : Int) (s2 : ByteArray) (z2 : List Int) : ordV k2 b2 n2 s2 z2 k1 b1 n1 s1 z1 = -ordV k1 b1 n1 s1 z1 k2 b2 n2 s2 z2 := by
  unfold ordV
  by_cases hk : k1 = k2
  · subst hk
    simp only [ne_eq, not_true_eq_false, if_false]
    split
    · exact cmpI_neg _ _
    · split
      · exact cmpI_neg _ _
      · split
        · exact cmpB_neg _ _
        · split
          · exact cmpZ_neg _ _
          · rfl
  · rw [if_pos hk, if_pos (Ne.symm hk)]
    exact cmpI_neg _ _
theorem eqT_tv (k1 k2 ov : Int) : ∃ k b, eqT k1 k2 ov = tv k b := by
  unfold eqT
  split
  · exact ⟨_, _, rfl⟩
  · split <;> exact ⟨_, _, rfl⟩
theorem lessT_tv (k1 k2 ov : Int) : ∃ k b, lessT k1 k2 ov = tv k b := by
  unfold lessT
  split
  · exact ⟨_, _, rfl⟩
  · split <;> exact ⟨_, _, rfl⟩
theorem eqT_neg (k1 k2 ov : Int) : eqT k2 k1 (-ov) = eqT k1 k2 ov := by
  unfold eqT
  have e : (-ov == 0) = (ov == 0) := by
    by_cases h : ov = 0
    · subst h; rfl
    · have h' : ¬ -ov = 0 := by omega
      rw [beq_false_of_ne h, beq_false_of_ne h']
  rw [e]
  simp only [or_comm]
end Go.Proofs.YtokkmjcpjjiaaaaDoor
