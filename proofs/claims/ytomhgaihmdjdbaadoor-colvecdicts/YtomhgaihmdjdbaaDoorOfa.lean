/-
  What a list of things makes of a column.
-/
import Derived.Test.YtomhgaihmdjdbaaDoorApa
namespace Go.Proofs.YtomhgaihmdjdbaaDoor
open Go.RowKit
set_option linter.unusedSimpArgs false
set_option linter.unusedVariables false

/-- What a column holds. -/
structure Cnt where
  k : Int
  L : List Int
  M : List Int
  X : List ByteArray
  Hp : List Int
def cnt (C : Col) : Cnt := ⟨C.k, C.L, C.M, C.X, C.Hp⟩
noncomputable def numC (c : Cnt) (v : VV) : Int := if c.k = 6 then (c.Hp.length : Int) else if v.k = 3 then (txtNum c.X v.s : Int) else numP v.b v.n
noncomputable def textsC (c : Cnt) (v : VV) : List ByteArray := if c.k ≠ 6 ∧ v.k = 3 then txtOn c.X v.s else c.X
/-- One value more. -/
noncomputable def stepC (c : Cnt) (v : VV) : Cnt := ⟨c.k, if v.k = 0 then setB c.L c.M.length else c.L, c.M ++ [numC c v], textsC c v, c.Hp ++ v.z⟩
theorem step_of {C C' : Col} {v : VV} (h : Behind C C' v.k v.z (numV C v) (textsV C v)) : cnt C' = stepC (cnt C) v := by
  obtain ⟨h1, h2, h3, h4, h5⟩ := h
  unfold cnt stepC
  simp only [h1, h2, h3, h4, h5]
  rfl
/-- What the first n things make. -/
noncomputable def foldC (kc : Int) (D : Nat → VV) : Nat → Cnt
  | 0 => ⟨kc, [], [], [], []⟩
  | n + 1 => stepC (foldC kc D n) (D n)
/-- Are they all taken in? -/
def allT (kc : Int) (D : Nat → VV) : Nat → Bool
  | 0 => true
  | n + 1 => allT kc D n && takesV kc (D n)
theorem allT_no (kc : Int) (D : Nat → VV) (i : Nat) (h : allT kc D i = false) : ∀ n, i ≤ n → allT kc D n = false
  | 0, hi => by obtain rfl : i = 0 := by omega
                exact h
  | n + 1, hi => by
    by_cases e : i = n + 1
    · subst e; exact h
    · simp [allT, allT_no kc D i h n (by omega)]
theorem fold_k (kc : Int) (D : Nat → VV) : ∀ n, (foldC kc D n).k = kc
  | 0 => rfl
  | n + 1 => by simp [foldC, stepC, fold_k kc D n]
theorem fold_M (kc : Int) (D : Nat → VV) : ∀ n, (foldC kc D n).M.length = n
  | 0 => rfl
  | n + 1 => by simp [foldC, stepC, fold_M kc D n]
theorem txtOn_len (X : List ByteArray) (s : ByteArray) : (txtOn X s).length ≤ X.length + 1 := by
  by_cases h : s ∈ X
  · rw [(txt_has h).2]; omega
  · rw [(txt_new h).2]; simp
theorem fold_X (kc : Int) (D : Nat → VV) : ∀ n, (foldC kc D n).X.length ≤ n
  | 0 => by simp [foldC]
  | n + 1 => by
    have := fold_X kc D n
    simp only [foldC, stepC, textsC]
    split
    · have := txtOn_len (foldC kc D n).X (D n).s
      omega
    · omega
theorem fold_L (kc : Int) (D : Nat → VV) : ∀ n, (foldC kc D n).L.length ≤ n + 1
  | 0 => by simp [foldC]
  | n + 1 => by
    have := fold_L kc D n
    have hM := fold_M kc D n
    simp only [foldC, stepC]
    split
    · rw [setB_len, hM]
      omega
    · omega
end Go.Proofs.YtomhgaihmdjdbaaDoor
