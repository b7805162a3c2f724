/-
  countBelow of the program; times; slices.Clone of lists of lists.
-/
import Derived.Test.YthdeifjnfcjaaaaCb
namespace Go.Proofs.Ythdeifjnfcjaaaa
open Go.RowKit
set_option linter.unusedSimpArgs false
set_option linter.unusedVariables false

theorem part_at (Z : List Int) (k m j : Nat) (h : k + j < m) : ((Z.take m).drop k).getD j 0 = Z.getD (k + j) 0 := by
  simp only [List.getD, List.getElem?_drop]
  rw [List.getElem?_take_of_lt h]
theorem path_part {w : World} {b off : Nat} {Z : List Int} (h : ∀ i, i < Z.length → w.cell? ⟨b, off + i, none⟩ = some (.int .i64 (Z.getD i 0))) (k m : Nat) (hm : m ≤ Z.length) : PathAt w (some ⟨b, off + k, none⟩) ((Z.take m).drop k) := by
  refine .inr ⟨b, off + k, rfl, fun i hi => ?_⟩
  have hi' : k + i < m := by simp at hi; omega
  rw [part_at Z k m i hi', Nat.add_assoc]
  exact h (k + i) (by omega)
theorem PathAt.all {w : World} {a : Option Addr} {Z : List Int} (h : PathAt w a Z) (hn : 0 < Z.length) : ∃ b off, a = some ⟨b, off, none⟩ ∧ ∀ i, i < Z.length → w.cell? ⟨b, off + i, none⟩ = some (.int .i64 (Z.getD i 0)) := by
  rcases h with rfl | h
  · simp at hn
  · exact h
/-- What is below in a part, and what is ahead of it. -/
theorem cb_part {Z : List Int} {x : Int} (hs : Ris Z) {k m q : Nat} (hm : m ≤ Z.length) (h1 : ∀ t, t < k → Z.getD t 0 < x) (hq : q ≤ m - k) (hkm : k ≤ m)
    (h2 : ∀ j, j < q → ((Z.take m).drop k).getD j 0 < x) (h3 : ∀ j, q ≤ j → j < m - k → x ≤ ((Z.take m).drop k).getD j 0) (h4 : ∀ j, m ≤ j → j < Z.length → x ≤ Z.getD j 0) : cb Z x = k + q := by
  refine cb_is hs (by omega) (fun j hj => ?_) (fun j hj hl => ?_)
  · by_cases hjk : j < k
    · exact h1 j hjk
    · have := h2 (j - k) (by omega)
      rwa [part_at Z k m (j - k) (by omega), show k + (j - k) = j by omega] at this
  · by_cases hjm : j < m
    · have := h3 (j - k) (by omega) (by omega)
      rwa [part_at Z k m (j - k) (by omega), show k + (j - k) = j by omega] at this
    · exact h4 j (by omega) hl

set_option maxRecDepth 100000 in
set_option maxHeartbeats 4000000 in
theorem countBelow_any (a : Option Addr) (n c : Nat) (Z : List Int) (x : Int) (w : World) (hz : Z.length = n) (hm : n < 4611686018427387904) (hc : n ≤ c) (hcm : c ≤ maxLen) (hp : PathAt w a Z) (hs : Ris Z) :
    Calls Try.prog 21 #[.slice a n c, .int .i64 x] w fun e w' => e = .returned (.int .i64 (cb Z x : Nat)) ∧ Below w.heap.size w w' := by
  unfold maxLen at hcm
  by_cases hn0 : n = 0
  · subst hn0
    obtain rfl : Z = [] := List.length_eq_zero_iff.1 hz
    have hbs := fun w' a' c' => bs_any a' 0 c' [] x w' rfl (by omega) (.inl rfl) List.Pairwise.nil
    have hcz : cb [] x = 0 := rfl
    rw [hcz]
    replace hbs : Hid _ := hbs
    clear hp hs hcz hz
    cases a with
    | none =>
      go_enter Try.func21, Try.ntmps21
      go_wp2_with fail
      refine wp_loop_rounds 1 ?_
      rw [rounds_succ]
      go_wp2_with (go_at_call 31; refine Calls.mono (hbs.out _ _ _) ?_; rintro e w1 ⟨q, b, rfl, ⟨hq, -, -⟩, hb⟩; obtain rfl : q = 0 := by omega)
      go_returns
      exact ⟨by simp, hb⟩
    | some ad =>
      go_enter Try.func21, Try.ntmps21
      go_wp2_with fail
      refine wp_loop_rounds 1 ?_
      rw [rounds_succ]
      go_wp2_with (go_at_call 31; refine Calls.mono (hbs.out _ _ _) ?_; rintro e w1 ⟨q, b, rfl, ⟨hq, -, -⟩, hb⟩; obtain rfl : q = 0 := by omega)
      go_returns
      exact ⟨by simp, hb⟩
  obtain ⟨b, off, rfl, hcell⟩ := hp.all (by omega)
  have hbs := fun w' (hb : Below w.heap.size w w') k m (hk : k ≤ m) (hmn : m ≤ n) (a' : Option Addr) (c' : Nat) (ha : m ≤ k ∨ a' = some ⟨b, off + k, none⟩) => bs_any a' (m - k) c' ((Z.take m).drop k) x w' (by simp; omega) (by omega) (by
    rcases ha with ha | rfl
    · exact .inl (List.drop_eq_nil_of_le (by simp; omega))
    · exact (path_part hcell k m (by omega)).below hb) ((hs.sublist (List.take_sublist _ _)).sublist (List.drop_sublist _ _))
  have hfin := fun (k m q : Nat) (hm : m ≤ n) (h1 : ∀ t, t < k → Z.getD t 0 < x) (hq : q ≤ m - k) (hkm : k ≤ m) (h2 : ∀ j, j < q → ((Z.take m).drop k).getD j 0 < x) (h3 : ∀ j, q ≤ j → j < m - k → x ≤ ((Z.take m).drop k).getD j 0) (h4 : ∀ j, m ≤ j → j < n → x ≤ Z.getD j 0) => cb_part hs (by rw [hz]; exact hm) h1 hq hkm h2 h3 (by rw [hz]; exact h4)
  have hmono := fun i j (hij : i < j) (hj : j < n) => ris_at hs hij (by rw [hz]; exact hj)
  rw [hz] at hcell
  clear hp hs hz
  generalize cb Z x = C at hfin ⊢
  replace hbs : Hid _ := hbs
  replace hfin : Hid _ := hfin
  replace hmono : Hid _ := hmono
  replace hcell : Hid _ := hcell
  go_enter Try.func21, Try.ntmps21
  go_wp2_with fail
  go_loop [5, 6] (fun v5 v6 => ∃ k r : Nat, v5 = .int .i64 k ∧ v6 = .int .i64 r ∧ k ≤ n ∧ k < r ∧ r ≤ 2 * n + 1 ∧ ∀ t, t < k → Z.getD t 0 < x) (fun v5 _ => n - (intOf v5).toNat)
  case atStart => exact ⟨0, 1, rfl, rfl, by omega, by omega, by omega, by simp⟩
  case round =>
    obtain ⟨k, r, rfl, rfl, hk, hkr, hr, hu⟩ := hrel
    replace hu : Hid _ := hu
    by_cases hrn : r ≤ n
    · have cy := hcell.out (r - 1) (by omega)
      generalize hy : Z.getD (r - 1) 0 = y at cy
      replace hy : Hid _ := hy
      have er : ((r : Int) - 1) = ((r - 1 : Nat) : Int) := by omega
      by_cases hyx : y < x
      · go_wp2_with fail
        go_round
        case rel =>
          refine ⟨r, 2 * r, rfl, by go_num, hrn, by omega, by omega, fun t ht => ?_⟩
          by_cases e : t = r - 1
          · rw [e, hy.out]; exact hyx
          · have := hmono.out t (r - 1) (by omega) (by omega)
            rw [hy.out] at this
            omega
        case measure => simp [intOf]; omega
      · have e1 : ¬ (y < x) := hyx
        have e2 : min (r : Int) (n : Int) = (r : Int) := by omega
        go_wp2_with (go_at_call 31; refine Calls.mono (hbs.out _ (Below.refl _ _) k r (by omega) hrn _ _ (.inr rfl)) ?_; rintro e w1 ⟨q, bb, rfl, ⟨hq, q2, q3⟩, hb⟩; replace q2 : Hid _ := q2; replace q3 : Hid _ := q3)
        go_returns
        refine ⟨?_, hb⟩
        have hC := hfin.out k r q hrn hu.out hq (by omega) q2.out q3.out fun j hj hl => by
          by_cases e : j = r - 1
          · rw [e, hy.out]; omega
          · have := hmono.out (r - 1) j (by omega) hl
            rw [hy.out] at this
            omega
        subst hC
        first | rfl | (simp; done) | (simp; omega)
    · have e2 : min (r : Int) (n : Int) = (n : Int) := by omega
      go_wp2_with (go_at_call 31; refine Calls.mono (hbs.out _ (Below.refl _ _) k n hk (Nat.le_refl _) _ _ (by by_cases h : c = k; exact .inl (by omega); exact .inr (if_neg h))) ?_; rintro e w1 ⟨q, bb, rfl, ⟨hq, q2, q3⟩, hb⟩; replace q2 : Hid _ := q2; replace q3 : Hid _ := q3)
      all_goals
        go_returns
        refine ⟨?_, hb⟩
        have hC := hfin.out k n q (Nat.le_refl _) hu.out hq hk q2.out q3.out fun j hj hl => by omega
        subst hC
        first | rfl | (simp; done) | (simp; omega)
end Go.Proofs.Ythdeifjnfcjaaaa
