/-
  A record's properties: both ways of looking say the same.
-/
import Derived.Test.YtmioohbailhppaaDoorRf3
namespace Go.Proofs.YtmioohbailhppaaDoor
open Go.RowKit
set_option linter.unusedSimpArgs false
set_option linter.unusedVariables false

theorem hold_eq {D : List PD} (hu : Uniq D) (x : PV) {u : Nat} (h : firstAt (fun y => decide (y.n = x.n)) D = u) : holdB (D.getD u default).k x.v = (rgtP x && declB D x) := by
  rw [decl_at hu x h]
  rfl
theorem goP_eq {D : List PD} (hu : Uniq D) : ∀ (R P : List PV) (st : List Nat), (∀ u : Nat, u ∈ st ↔ ∃ x ∈ P, firstAt (fun y => decide (y.n = x.n)) D = (u : Int)) → goP D st R = (List.range R.length).all fun j => !badV D (P ++ R) (P.length + j)
  | [], _, _, _ => by simp [goP]
  | x :: R, P, st, hst => by
    have e0 : (P ++ x :: R).getD P.length default = x := by simp [List.getD]
    have e1 : (P ++ x :: R).take P.length = P := by simp
    have hbad : badV D (P ++ x :: R) (P.length + 0) = (!rgtP x || !declB D x || P.any fun y => decide (y.n = x.n)) := by
      rw [Nat.add_zero]
      unfold badV dupB
      rw [e0, e1]
    have hrest : (List.range (x :: R).length).all (fun j => !badV D (P ++ x :: R) (P.length + j)) = (!badV D (P ++ x :: R) (P.length + 0) && (List.range R.length).all fun j => !badV D ((P ++ [x]) ++ R) ((P ++ [x]).length + j)) := by
      rw [List.length_cons, List.range_succ_eq_map, List.all_cons, List.all_map]
      congr 1
      simp [Function.comp_def, Nat.add_assoc, Nat.add_comm 1]
    rw [hrest, hbad, goP]
    by_cases hneg : firstAt (fun y => decide (y.n = x.n)) D < 0
    · rw [if_pos hneg, decl_no x hneg]
      simp
    rw [if_neg hneg]
    obtain ⟨u, hU⟩ : ∃ u : Nat, firstAt (fun y => decide (y.n = x.n)) D = u := ⟨(firstAt (fun y => decide (y.n = x.n)) D).toNat, by omega⟩
    rw [hU, Int.toNat_natCast]
    have hin : u ∈ st ↔ (P.any fun y => decide (y.n = x.n)) = true := by
      rw [hst u, List.any_eq_true]
      constructor
      · rintro ⟨y, hy, hf⟩
        refine ⟨y, hy, ?_⟩
        have a1 := (firstAt_hit _ D u hf).2.1
        have a2 := (firstAt_hit _ D u hU).2.1
        simp at a1 a2
        simp [← a1, ← a2]
      · rintro ⟨y, hy, hf⟩
        refine ⟨y, hy, ?_⟩
        rw [decide_eq_true_eq] at hf
        rw [hf]
        exact hU
    by_cases hs : u ∈ st
    · rw [if_pos hs, hin.1 hs]
      simp
    rw [if_neg hs, hold_eq hu x hU]
    have hdup : (P.any fun y => decide (y.n = x.n)) = false := by
      cases hd : (P.any fun y => decide (y.n = x.n)) with
      | false => rfl
      | true => exact absurd (hin.2 hd) hs
    rw [hdup]
    have ih := goP_eq hu R (P ++ [x]) (u :: st) (fun v => by
      constructor
      · intro hv
        rcases List.mem_cons.1 hv with rfl | hv
        · exact ⟨x, by simp, hU⟩
        · obtain ⟨y, hy, hf⟩ := (hst v).1 hv
          exact ⟨y, by simp [hy], hf⟩
      · rintro ⟨y, hy, hf⟩
        rcases List.mem_append.1 hy with hy | hy
        · exact List.mem_cons_of_mem _ ((hst v).2 ⟨y, hy, hf⟩)
        · obtain rfl : y = x := by simpa using hy
          rw [hU] at hf
          have : u = v := by omega
          subst this
          exact List.mem_cons_self)
    rw [ih]
    cases rgtP x <;> cases declB D x <;> simp
/-- Properties are right just where the document says so. -/
theorem props_eq {D : List PD} (hu : Uniq D) (L : List PV) : goP D [] L = refProps D L := by
  have := goP_eq hu L [] [] (fun u => by simp)
  rw [this, refProps]
  simp
/-- Where properties may be declared so, no name stands twice. -/
theorem uniq_of {D : List PD} (h : anyBad D = false) : Uniq D := by
  have key : ∀ i j, i < j → j < D.length → (D.getD i default).n ≠ (D.getD j default).n := fun i j hij hj e => by
    rw [anyBad, List.any_eq_false] at h
    have hb := h j (by simpa using hj)
    have hbj : badP D j = false := by simpa using hb
    unfold badP at hbj
    rw [Bool.or_eq_false_iff, Bool.or_eq_false_iff] at hbj
    have hn : firstAt (fun x => decide (x.n = (D.getD j default).n)) (D.take j) < 0 := by simpa using hbj.1.2
    have := firstAt_miss _ (D.take j) hn i (by simp; omega)
    rw [take_getD D j i hij] at this
    simp at this
    exact this e
  intro i j hi hj e
  rcases Nat.lt_trichotomy i j with h' | h' | h'
  · exact absurd e (key i j h' hj)
  · exact h'
  · exact absurd e.symm (key j i h' hi)
end Go.Proofs.YtmioohbailhppaaDoor
