/-
  Check as a function, of graphs with a record more.
-/
import Derived.Test.YtmioohbailhppaaDoorChk0
namespace Go.Proofs.YtmioohbailhppaaDoor
open Go.RowKit
set_option linter.unusedSimpArgs false
set_option linter.unusedVariables false

def moreE (r : RW) (e : ED) : RW := { r with ed := r.ed ++ [e] }
def moreN (r : RW) (n : ND) : RW := { r with nd := r.nd ++ [n] }
theorem getD_left {α : Type} [Inhabited α] (L : List α) (x : List α) (k : Nat) (h : k < L.length) : (L ++ x).getD k default = L.getD k default := by
  simp [List.getD, List.getElem?_append_left h]
theorem getD_last {α : Type} [Inhabited α] (L : List α) (x : α) : (L ++ [x]).getD L.length default = x := by
  simp [List.getD]
theorem nIds_moreE (r : RW) (e : ED) (k : Nat) : nIds (moreE r e) k = nIds r k := rfl
theorem nErr_moreE (r : RW) (e : ED) : nErr (moreE r e) = nErr r := rfl
theorem eErr_moreE (r : RW) (e : ED) (k : Nat) (h : k < r.ed.length) : eErr (moreE r e) k = eErr r k := by
  unfold eErr eIds nIds moreE
  simp only
  rw [getD_left _ _ _ h, List.take_append_of_le_length (by omega)]
theorem nIds_moreN (r : RW) (n : ND) (k : Nat) (h : k ≤ r.nd.length) : nIds (moreN r n) k = nIds r k := by
  unfold nIds moreN
  simp only
  rw [List.take_append_of_le_length h]
theorem nErr_moreN (r : RW) (n : ND) (k : Nat) (h : k < r.nd.length) : nErr (moreN r n) k = nErr r k := by
  unfold nErr
  rw [nIds_moreN r n k (by omega)]
  unfold moreN
  simp only
  rw [getD_left _ _ _ h]
theorem firstBad_more {f g : Nat → Int} {n : Nat} (h : ∀ k, k < n → g k = f k) : (∀ j, firstBad f n = some j → firstBad g (n + 1) = some j) ∧ (firstBad f n = none → firstBad g (n + 1) = none ∨ firstBad g (n + 1) = some n) := by
  refine ⟨fun j hj => ?_, fun hn => ?_⟩
  · obtain ⟨h1, h2, h3⟩ := firstBad_inv hj
    exact firstBad_some (by omega) (fun k hk => (h k (by omega)).trans (h2 k hk)) (by rw [h j h1]; exact h3)
  · have ha := firstBad_all hn
    by_cases hg : g n = 0
    · left
      refine firstBad_none fun k hk => ?_
      rcases Nat.lt_succ_iff_lt_or_eq.1 hk with h' | rfl
      · exact (h k h').trans (ha k h')
      · exact hg
    · right
      exact firstBad_some (by omega) (fun k hk => (h k hk).trans (ha k hk)) hg
/-- All is right just if nothing is wrong anywhere. -/
theorem chk_ok {r : RW} (h : (chk r).2.2 = 0) : firstBad (typeErr r.nt) r.nt.length = none ∧ firstBad (typeErr r.et) r.et.length = none ∧ firstBad (nErr r) r.nd.length = none ∧ firstBad (eErr r) r.ed.length = none ∧ chk r = (0, 0, 0) := by
  unfold chk at h ⊢
  cases h1 : firstBad (typeErr r.nt) r.nt.length with
  | some j => rw [h1] at h; exact absurd h (firstBad_inv h1).2.2
  | none =>
    rw [h1] at h
    cases h2 : firstBad (typeErr r.et) r.et.length with
    | some j => simp only [h2] at h; exact absurd h (firstBad_inv h2).2.2
    | none =>
      simp only [h2] at h ⊢
      cases h3 : firstBad (nErr r) r.nd.length with
      | some j => simp only [h3] at h; exact absurd h (firstBad_inv h3).2.2
      | none =>
        simp only [h3] at h ⊢
        cases h4 : firstBad (eErr r) r.ed.length with
        | some j => simp only [h4] at h; exact absurd h (firstBad_inv h4).2.2
        | none => simp
theorem chk_of {r : RW} (h1 : firstBad (typeErr r.nt) r.nt.length = none) (h2 : firstBad (typeErr r.et) r.et.length = none) (h3 : firstBad (nErr r) r.nd.length = none) : chk r = match firstBad (eErr r) r.ed.length with
    | some j => (4, (j : Int), eErr r j)
    | none => (0, 0, 0) := by
  unfold chk
  simp only [h1, h2, h3]
  rfl
/-- With an edge behind the others. -/
theorem chk_moreE (r : RW) (e : ED) : (¬ (chk r).2.2 = 0 → chk (moreE r e) = chk r) ∧ ((chk r).2.2 = 0 → (chk (moreE r e)).2.2 = 0 ∨ (chk (moreE r e)).1 = 4 ∧ (chk (moreE r e)).2.1 = (r.ed.length : Int)) := by
  have hf := firstBad_more (f := eErr r) (g := eErr (moreE r e)) (n := r.ed.length) (eErr_moreE r e)
  have hl : (moreE r e).ed.length = r.ed.length + 1 := by simp [moreE]
  refine ⟨fun h => ?_, fun h => ?_⟩
  · unfold chk at h ⊢
    rw [nErr_moreE, hl]
    rw [show (moreE r e).nt = r.nt from rfl, show (moreE r e).et = r.et from rfl, show (moreE r e).nd = r.nd from rfl]
    cases h1 : firstBad (typeErr r.nt) r.nt.length with
    | some j => rfl
    | none =>
      simp only [h1] at h ⊢
      cases h2 : firstBad (typeErr r.et) r.et.length with
      | some j => rfl
      | none =>
        simp only [h2] at h ⊢
        cases h3 : firstBad (nErr r) r.nd.length with
        | some j => rfl
        | none =>
          simp only [h3] at h ⊢
          cases h4 : firstBad (eErr r) r.ed.length with
          | some j =>
            simp only [hf.1 j h4]
            rw [eErr_moreE r e j (firstBad_inv h4).1]
          | none => rw [h4] at h; exact absurd rfl h
  · obtain ⟨h1, h2, h3, h4, _⟩ := chk_ok h
    have hc := chk_of (r := moreE r e) h1 h2 h3
    rw [hl] at hc
    rcases hf.2 h4 with h5 | h5
    · left; rw [hc, h5]
    · right; rw [hc, h5]; exact ⟨rfl, rfl⟩
/-- With a node behind the others. -/
theorem chk_moreN (r : RW) (n : ND) (h : (chk r).2.2 = 0) : (chk (moreN r n)).2.2 = 0 ∨ (chk (moreN r n)).1 = 3 ∧ (chk (moreN r n)).2.1 = (r.nd.length : Int) := by
  obtain ⟨h1, h2, h3, h4, _⟩ := chk_ok h
  have hl : (moreN r n).nd.length = r.nd.length + 1 := by simp [moreN]
  rcases (firstBad_more (f := nErr r) (g := nErr (moreN r n)) (n := r.nd.length) (nErr_moreN r n)).2 h3 with h5 | h5
  · left
    have hc := chk_of (r := moreN r n) h1 h2 (by rw [hl]; exact h5)
    rw [hc, firstBad_none]
    intro k hk
    have hk0 := firstBad_all h4 k hk
    have ht := edge_zero hk0
    unfold eErr edgeErr at hk0 ⊢
    rw [if_pos ht] at hk0
    have ht' : takeErr (moreN r n).et (eIds (moreN r n) k) ((moreN r n).ed.getD k default).id ((moreN r n).ed.getD k default).lab = 0 := ht
    rw [if_pos ht']
    have hids : ∀ z, z ∈ nIds r r.nd.length → z ∈ nIds (moreN r n) (moreN r n).nd.length := by
      intro z hz
      rw [hl, nIds_succ _ _ (by omega), nIds_moreN r n _ (Nat.le_refl _)]
      exact List.mem_cons_of_mem _ hz
    split at hk0
    · rename_i hi
      rw [if_pos ⟨hids _ hi.1, hids _ hi.2⟩]
      exact hk0
    · omega
  · right
    have hc : chk (moreN r n) = (3, (r.nd.length : Int), nErr (moreN r n) r.nd.length) := by
      unfold chk
      rw [show (moreN r n).nt = r.nt from rfl, show (moreN r n).et = r.et from rfl, hl]
      simp only [h1, h2, h5]
    rw [hc]
    exact ⟨rfl, rfl⟩
end Go.Proofs.YtmioohbailhppaaDoor
