/-
  Order is a line; two values are alike just where their bytes are.
-/
import Derived.Test.YtokkmjcpjjiaaaaDoorPrp
import Derived.Test.YtokkmjcpjjiaaaaDoorEnw
namespace Go.Proofs.YtokkmjcpjjiaaaaDoor
open Go.RowKit
set_option linter.unusedSimpArgs false
set_option linter.unusedVariables false

/-- A line: what is not behind is not behind what is not behind; and alike just where both are. -/
def Ln (ab bc ac : Int) : Prop := ab ≤ 0 → bc ≤ 0 → ac ≤ 0 ∧ ((ab = 0 ∧ bc = 0) ↔ ac = 0)
theorem cmpI_ln (a b c : Int) : Ln (cmpI a b) (cmpI b c) (cmpI a c) := by
  unfold Ln cmpI
  split <;> split <;> split <;> (try split) <;> (try split) <;> (try split) <;> simp <;> omega
theorem cmpZ_ln : ∀ x y z : List Int, Ln (cmpZ x y) (cmpZ y z) (cmpZ x z)
  | [], [], [] => by simp [Ln, cmpZ]
  | [], [], _ :: _ => by simp [Ln, cmpZ]
  | [], _ :: _, [] => by simp [Ln, cmpZ]
  | [], _ :: _, _ :: _ => by simp [Ln, cmpZ]
  | _ :: _, [], _ => by simp [Ln, cmpZ]
  | _ :: _, _ :: _, [] => by simp [Ln, cmpZ]
  | a :: x, b :: y, c :: z => by
    have ih := cmpZ_ln x y z
    unfold Ln at *
    simp only [cmpZ]
    by_cases h1 : a < b
    · rw [if_pos h1]
      by_cases h2 : b < c
      · rw [if_pos h2, if_pos (by omega)]; simp
      · rw [if_neg h2]
        by_cases h3 : c < b
        · rw [if_pos h3]; simp
        · rw [if_neg h3, if_pos (by omega)]; simp
    · rw [if_neg h1]
      by_cases h1' : b < a
      · rw [if_pos h1']; simp
      · rw [if_neg h1']
        have e : a = b := by omega
        subst e
        by_cases h2 : a < c
        · simp only [if_pos h2]; simp
        · by_cases h3 : c < a
          · simp only [if_neg h2, if_pos h3]; simp
          · simp only [if_neg h2, if_neg h3]; exact ih
theorem cmpB_ln : ∀ x y z : List UInt8, Ln (Lib.compareBytes x y) (Lib.compareBytes y z) (Lib.compareBytes x z)
  | [], [], [] => by simp [Ln, Lib.compareBytes]
  | [], [], _ :: _ => by simp [Ln, Lib.compareBytes]
  | [], _ :: _, [] => by simp [Ln, Lib.compareBytes]
  | [], _ :: _, _ :: _ => by simp [Ln, Lib.compareBytes]
  | _ :: _, [], _ => by simp [Ln, Lib.compareBytes]
  | _ :: _, _ :: _, [] => by simp [Ln, Lib.compareBytes]
  | a :: x, b :: y, c :: z => by
    have ih := cmpB_ln x y z
    unfold Ln at *
    simp only [Lib.compareBytes, UInt8.lt_iff_toNat_lt]
    by_cases h1 : a.toNat < b.toNat
    · rw [if_pos h1]
      by_cases h2 : b.toNat < c.toNat
      · rw [if_pos h2, if_pos (by omega)]; simp
      · rw [if_neg h2]
        by_cases h3 : c.toNat < b.toNat
        · rw [if_pos h3]; simp
        · rw [if_neg h3, if_pos (by omega)]; simp
    · rw [if_neg h1]
      by_cases h1' : b.toNat < a.toNat
      · rw [if_pos h1']; simp
      · rw [if_neg h1']
        have e : a = b := UInt8.toNat_inj.1 (by omega)
        subst e
        by_cases h2 : a.toNat < c.toNat
        · simp only [if_pos h2]; simp
        · by_cases h3 : c.toNat < a.toNat
          · simp only [if_neg h2, if_pos h3]; simp
          · simp only [if_neg h2, if_neg h3]; exact ih
theorem cmpI_self (a : Int) : cmpI a a = 0 := by simp [cmpI]
theorem cmpZ_self : ∀ x : List Int, cmpZ x x = 0
  | [] => rfl
  | a :: x => by simp [cmpZ, cmpZ_self x]
theorem cmpB_self : ∀ x : List UInt8, Lib.compareBytes x x = 0
  | [] => rfl
  | a :: x => by simp [Lib.compareBytes, cmpB_self x]
theorem cmpI_zero {a b : Int} (h : cmpI a b = 0) : a = b := by
  unfold cmpI at h
  split at h
  · cases h
  · split at h
    · cases h
    · omega
theorem cmpZ_zero : ∀ {x y : List Int}, cmpZ x y = 0 → x = y
  | [], [], _ => rfl
  | [], _ :: _, h => by simp [cmpZ] at h
  | _ :: _, [], h => by simp [cmpZ] at h
  | a :: x, b :: y, h => by
    simp only [cmpZ] at h
    split at h
    · cases h
    · split at h
      · cases h
      · rw [cmpZ_zero h, show a = b by omega]
theorem cmpB_zero : ∀ {x y : List UInt8}, Lib.compareBytes x y = 0 → x = y
  | [], [], _ => rfl
  | [], _ :: _, h => by simp [Lib.compareBytes] at h
  | _ :: _, [], h => by simp [Lib.compareBytes] at h
  | a :: x, b :: y, h => by
    simp only [Lib.compareBytes, UInt8.lt_iff_toNat_lt] at h
    split at h
    · cases h
    · split at h
      · cases h
      · rw [cmpB_zero h, show a = b from UInt8.toNat_inj.1 (by omega)]

theorem ordV_self (k : Int) (b : Bool) (n : Int) (s : ByteArray) (z : List Int) : ordV k b n s z k b n s z = 0 := by
  unfold ordV
  simp [cmpI_self, cmpZ_self, cmpB_self]
theorem ordV_ln (k1 : Int) (b1 : Bool) (n1 : Int) (s1 : ByteArray) (z1 : List Int) (k2 : Int) (b2 : Bool) (n2 : Int) (s2 : ByteArray) (z2 : List Int) (k3 : Int) (b3 : Bool) (n3 : Int) (s3 : ByteArray) (z3 : List Int) :
    Ln (ordV k1 b1 n1 s1 z1 k2 b2 n2 s2 z2) (ordV k2 b2 n2 s2 z2 k3 b3 n3 s3 z3) (ordV k1 b1 n1 s1 z1 k3 b3 n3 s3 z3) := by
  have hk := cmpI_ln k1 k2 k3
  by_cases e1 : k1 = k2
  · subst e1
    by_cases e2 : k1 = k3
    · subst e2
      unfold ordV
      simp only [ne_eq, not_true_eq_false, if_false]
      by_cases a1 : k1 = 1
      · simp only [if_pos a1]; exact cmpI_ln _ _ _
      · simp only [if_neg a1]
        by_cases a2 : k1 = 2 ∨ k1 = 4 ∨ k1 = 5
        · simp only [if_pos a2]; exact cmpI_ln _ _ _
        · simp only [if_neg a2]
          by_cases a3 : k1 = 3
          · simp only [if_pos a3]; exact cmpB_ln _ _ _
          · simp only [if_neg a3]
            by_cases a6 : k1 = 6
            · simp only [if_pos a6]; exact cmpZ_ln _ _ _
            · simp only [if_neg a6]; simp [Ln]
    · have x1 : ordV k1 b2 n2 s2 z2 k3 b3 n3 s3 z3 = cmpI k1 k3 := by unfold ordV; rw [if_pos e2]
      have x2 : ordV k1 b1 n1 s1 z1 k3 b3 n3 s3 z3 = cmpI k1 k3 := by unfold ordV; rw [if_pos e2]
      rw [x1, x2]
      have hne : cmpI k1 k3 ≠ 0 := fun h => e2 (cmpI_zero h)
      intro _ h2
      exact ⟨h2, by simp [hne]⟩
  · have x1 : ordV k1 b1 n1 s1 z1 k2 b2 n2 s2 z2 = cmpI k1 k2 := by unfold ordV; rw [if_pos e1]
    have hne : cmpI k1 k2 ≠ 0 := fun h => e1 (cmpI_zero h)
    by_cases e2 : k2 = k3
    · subst e2
      have x2 : ordV k1 b1 n1 s1 z1 k2 b3 n3 s3 z3 = cmpI k1 k2 := by unfold ordV; rw [if_pos e1]
      rw [x1, x2]
      intro h1 _
      exact ⟨h1, by simp [hne]⟩
    · have x3 : ordV k2 b2 n2 s2 z2 k3 b3 n3 s3 z3 = cmpI k2 k3 := by unfold ordV; rw [if_pos e2]
      by_cases e3 : k1 = k3
      · subst e3
        rw [x1, x3]
        intro h1 h2
        have := hk h1 h2
        rw [cmpI_self] at this
        exact absurd (this.2.2 rfl).1 hne
      · have x2 : ordV k1 b1 n1 s1 z1 k3 b3 n3 s3 z3 = cmpI k1 k3 := by unfold ordV; rw [if_pos e3]
        rw [x1, x2, x3]
        exact hk
end Go.Proofs.YtokkmjcpjjiaaaaDoor
