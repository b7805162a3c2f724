/-
  Properties of a record: the program's way of looking at them and the document's say the same, where no name is declared twice.
-/
import Derived.Test.YtmioohbailhppaaDoorChk0
namespace Go.Proofs.YtmioohbailhppaaDoor
open Go.RowKit
set_option linter.unusedSimpArgs false
set_option linter.unusedVariables false

def rgtP (x : PV) : Bool := rgtB x.v.k x.v.b x.v.n x.v.s x.v.l x.v.z (Lib.validD x.v.s.data.toList)
/-- Is it declared, of its kind? -/
def declB (D : List PD) (x : PV) : Bool := D.any fun d => decide (d.n = x.n) && (decide (x.v.k = 0) || decide (x.v.k = d.k))
/-- Has one of the first j this name? -/
def dupB (L : List PV) (j : Nat) (s : ByteArray) : Bool := (L.take j).any fun x => decide (x.n = s)
/-- What is wrong with the property at a place? -/
def badV (D : List PD) (L : List PV) (j : Nat) : Bool := !rgtP (L.getD j default) || !declB D (L.getD j default) || dupB L j (L.getD j default).n
def refProps (D : List PD) (L : List PV) : Bool := (List.range L.length).all fun j => !badV D L j
/-- No name twice. -/
def Uniq (D : List PD) : Prop := ∀ i j, i < D.length → j < D.length → (D.getD i default).n = (D.getD j default).n → i = j
theorem firstAt_hit {α : Type} [Inhabited α] (f : α → Bool) : ∀ (L : List α) (j : Nat), firstAt f L = j → j < L.length ∧ f (L.getD j default) = true ∧ ∀ i, i < j → f (L.getD i default) = false
  | [], j, h => by simp [firstAt] at h
  | x :: r, j, h => by
    unfold firstAt at h
    split at h
    · obtain rfl : j = 0 := by omega
      exact ⟨by simp, by simpa using ‹_›, fun i hi => by omega⟩
    · rename_i hx
      split at h
      · omega
      · obtain ⟨m, rfl⟩ : ∃ m, j = m + 1 := ⟨j - 1, by have := (firstAt_lo f r).1; omega⟩
        obtain ⟨h1, h2, h3⟩ := firstAt_hit f r m (by omega)
        refine ⟨by simpa using h1, by simpa using h2, fun i hi => ?_⟩
        cases i with
        | zero => simpa using hx
        | succ i => simpa using h3 i (by omega)
theorem firstAt_miss {α : Type} [Inhabited α] (f : α → Bool) (L : List α) (h : firstAt f L < 0) : ∀ i, i < L.length → f (L.getD i default) = false := by
  intro i hi
  cases hf : f (L.getD i default) with
  | false => rfl
  | true =>
    exfalso
    have key : ∀ m, m ≤ i → ∃ j, j ≤ i ∧ f (L.getD j default) = true ∧ ∀ k, k < j → f (L.getD k default) = false := by
      intro _ _
      have : ∃ j, j ≤ i ∧ f (L.getD j default) = true := ⟨i, Nat.le_refl _, hf⟩
      have hmin : ∀ n, (∃ j, j ≤ n ∧ f (L.getD j default) = true) → ∃ j, j ≤ n ∧ f (L.getD j default) = true ∧ ∀ k, k < j → f (L.getD k default) = false := by
        intro n
        induction n with
        | zero =>
          rintro ⟨j, hj, hjt⟩
          obtain rfl : j = 0 := by omega
          exact ⟨0, Nat.le_refl _, hjt, fun k hk => by omega⟩
        | succ n ih =>
          rintro ⟨j, hj, hjt⟩
          by_cases hb : ∃ j, j ≤ n ∧ f (L.getD j default) = true
          · obtain ⟨j', a1, a2, a3⟩ := ih hb
            exact ⟨j', by omega, a2, a3⟩
          · have hall : ∀ k, k ≤ n → f (L.getD k default) = false := fun k hk => by
              cases hk2 : f (L.getD k default) with
              | false => rfl
              | true => exact absurd ⟨k, hk, hk2⟩ hb
            have : j = n + 1 := by
              rcases Nat.lt_or_ge n j with h' | h'
              · omega
              · rw [hall j h'] at hjt; cases hjt
            subst this
            exact ⟨n + 1, Nat.le_refl _, hjt, fun k hk => hall k (by omega)⟩
      exact hmin i this
    obtain ⟨j, a1, a2, a3⟩ := key 0 (by omega)
    have := firstAt_some f L j (by omega) a3 a2
    omega
theorem any_getD {α : Type} [Inhabited α] (f : α → Bool) (L : List α) : L.any f = true ↔ ∃ i, i < L.length ∧ f (L.getD i default) = true := by
  rw [List.any_eq_true]
  constructor
  · rintro ⟨x, hx, hf⟩
    obtain ⟨i, hi, rfl⟩ := List.mem_iff_getElem.1 hx
    exact ⟨i, hi, by simpa [List.getD, List.getElem?_eq_getElem hi] using hf⟩
  · rintro ⟨i, hi, hf⟩
    refine ⟨L[i], List.getElem_mem hi, ?_⟩
    simpa [List.getD, List.getElem?_eq_getElem hi] using hf
/-- Declared, by the first place of the name. -/
theorem decl_at {D : List PD} (hu : Uniq D) (x : PV) {u : Nat} (h : firstAt (fun y => decide (y.n = x.n)) D = u) : declB D x = (decide (x.v.k = 0) || decide (x.v.k = (D.getD u default).k)) := by
  obtain ⟨h1, h2, h3⟩ := firstAt_hit _ D u h
  rw [decide_eq_true_eq] at h2
  rw [Bool.eq_iff_iff, declB, any_getD]
  constructor
  · rintro ⟨i, hi, hf⟩
    rw [Bool.and_eq_true, decide_eq_true_eq] at hf
    obtain rfl := hu i u hi h1 (hf.1.trans h2.symm)
    exact hf.2
  · intro hf
    exact ⟨u, h1, by rw [Bool.and_eq_true, decide_eq_true_eq]; exact ⟨h2, hf⟩⟩
theorem decl_no {D : List PD} (x : PV) (h : firstAt (fun y => decide (y.n = x.n)) D < 0) : declB D x = false := by
  cases hd : declB D x with
  | false => rfl
  | true =>
    rw [declB, any_getD] at hd
    obtain ⟨i, hi, hf⟩ := hd
    have := firstAt_miss _ D h i hi
    rw [Bool.and_eq_true] at hf
    rw [hf.1] at this
    cases this
end Go.Proofs.YtmioohbailhppaaDoor
