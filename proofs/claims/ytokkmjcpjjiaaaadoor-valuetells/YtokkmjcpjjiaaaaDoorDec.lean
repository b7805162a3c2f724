/-
  And and Or of any two things, in the program and in the document; and that a truth is the same as itself.
-/
import Derived.Test.YtokkmjcpjjiaaaaDoorVal
namespace Go.Proofs.YtokkmjcpjjiaaaaDoor
open Go.RowKit
set_option linter.unusedSimpArgs false
set_option linter.unusedVariables false

theorem cell_keep {w : World} {a : Addr} {v : Value} (o : Obj) (h : w.cell? a = some v) : (w.alloc o).cell? a = some v := by
  have hx := World.block_lt_of_cell? w _ h
  exact (World.cell?_of_block (w := w) (Below.heap_alloc _ _ a.block hx)).trans h
theorem cell_last (w : World) (v : Value) (t : TypeId) (n : Nat) (h : n = w.heap.size) : (w.alloc (.cells #[v] t)).cell? ⟨n, 0, none⟩ = some v := by
  subst h
  simp only [World.cell?, heap_alloc_new]
  simp

/-- The ways that two kinds and two bools stand to what decides. -/
theorem dec_ways (d : Bool) (k1 : Int) (b1 : Bool) (k2 : Int) (b2 : Bool) {G : Prop}
    (h1 : (decide (k1 = 1) && (b1 == d)) = true → G) (h2 : (decide (k1 = 1) && (b1 == d)) = false → (decide (k2 = 1) && (b2 == d)) = true → G)
    (h3 : (decide (k1 = 1) && (b1 == d)) = false → (decide (k2 = 1) && (b2 == d)) = false → k1 = 0 → G)
    (h4 : (decide (k1 = 1) && (b1 == d)) = false → (decide (k2 = 1) && (b2 == d)) = false → ¬ k1 = 0 → k2 = 0 → G)
    (h5 : (decide (k1 = 1) && (b1 == d)) = false → (decide (k2 = 1) && (b2 == d)) = false → ¬ k1 = 0 → ¬ k2 = 0 → ¬ k1 = 1 → G)
    (h6 : (decide (k1 = 1) && (b1 == d)) = false → (decide (k2 = 1) && (b2 == d)) = false → k1 = 1 → ¬ k2 = 0 → ¬ k2 = 1 → G)
    (h7 : (decide (k1 = 1) && (b1 == d)) = false → (decide (k2 = 1) && (b2 == d)) = false → k1 = 1 → k2 = 1 → G) : G := by
  cases e1 : (decide (k1 = 1) && (b1 == d))
  · cases e2 : (decide (k2 = 1) && (b2 == d))
    · by_cases a : k1 = 0
      · exact h3 e1 e2 a
      · by_cases a2 : k2 = 0
        · exact h4 e1 e2 a a2
        · by_cases a3 : k1 = 1
          · by_cases a4 : k2 = 1
            · exact h7 e1 e2 a3 a4
            · exact h6 e1 e2 a3 a2 a4
          · exact h5 e1 e2 a a2 a3
    · exact h2 e1 e2
  · exact h1 e1

theorem decides_raw (d : Bool) (x : Nat) (k : Int) (b : Bool) (n : Int) (s : ByteArray) (p : Option Addr) (l c : Nat) (w : World) (hc : w.cell? ⟨x, 0, none⟩ = some (.bool d)) :
    Calls Tryd.prog 75 #[.agg #[.int .i64 k, .bool b, .int .i64 n, .string s, .slice p l c], .pointer (some ⟨x, 0, none⟩)] w fun e w' => e = .returned (.bool (decide (k = 1) && (b == d))) ∧ w' = w.alloc (.cells #[.int .i64 k, .bool b, .int .i64 n, .string s, .slice p l c] 25) := by
  have hx := World.block_lt_of_cell? w _ hc
  by_cases h1 : k = 1
  · subst h1
    go_enter Tryd.func75, Tryd.ntmps75
    go_wp2
    go_returns
    exact ⟨by simp, rfl⟩
  · go_enter Tryd.func75, Tryd.ntmps75
    go_wp2
    go_returns
    exact ⟨by simp [h1], rfl⟩

theorem decides_is (v d : Bool) (x : Nat) (k : Int) (b : Bool) (n : Int) (s : ByteArray) (p : Option Addr) (l c : Nat) (w : World) (hv : Hid ((decide (k = 1) && (b == d)) = v)) (hc : w.cell? ⟨x, 0, none⟩ = some (.bool d)) :
    Calls Tryd.prog 75 #[.agg #[.int .i64 k, .bool b, .int .i64 n, .string s, .slice p l c], .pointer (some ⟨x, 0, none⟩)] w fun e w' => e = .returned (.bool v) ∧ w' = w.alloc (.cells #[.int .i64 k, .bool b, .int .i64 n, .string s, .slice p l c] 25) := by
  have := decides_raw d x k b n s p l c w hc
  rw [hv.out] at this
  exact this

theorem decides_one (v d : Bool) (x : Nat) (b : Bool) (n : Int) (s : ByteArray) (p : Option Addr) (l c : Nat) (w : World) (hv : Hid ((b == d) = v)) (hc : w.cell? ⟨x, 0, none⟩ = some (.bool d)) :
    Calls Tryd.prog 75 #[.agg #[.int .i64 1, .bool b, .int .i64 n, .string s, .slice p l c], .pointer (some ⟨x, 0, none⟩)] w fun e w' => e = .returned (.bool v) ∧ w' = w.alloc (.cells #[.int .i64 1, .bool b, .int .i64 n, .string s, .slice p l c] 25) := by
  have := decides_raw d x 1 b n s p l c w hc
  rw [decide_eq_true (rfl : (1 : Int) = 1), Bool.true_and, hv.out] at this
  exact this

theorem truth_raw (b : Bool) (w : World) : Calls Tryd.prog 56 #[.bool b] w fun e w' => e = .returned (.agg #[.int .i64 1, .bool b, .int .i64 0, .string ⟨#[]⟩, .slice none 0 0]) ∧ w' = w.alloc (.cells #[.int .i64 1, .bool b, .int .i64 0, .string ⟨#[]⟩, .slice none 0 0] 25) := by
  go_enter Tryd.func56, Tryd.ntmps56
  go_wp2
  go_returns
  exact ⟨rfl, rfl⟩

set_option maxRecDepth 100000 in
set_option maxHeartbeats 2000000 in
theorem decided_any (d : Bool) (k1 : Int) (b1 : Bool) (n1 : Int) (s1 : ByteArray) (p1 : Option Addr) (l1 c1 : Nat) (k2 : Int) (b2 : Bool) (n2 : Int) (s2 : ByteArray) (p2 : Option Addr) (l2 c2 : Nat) (w : World) :
    Calls Tryd.prog 58 #[vv k1 b1 n1 s1 p1 l1 c1, vv k2 b2 n2 s2 p2 l2 c2, .bool d] w fun e w' => e = .returned (decT d k1 b1 k2 b2) ∧ Below w.heap.size w w' := by
  unfold vv
  refine dec_ways d k1 b1 k2 b2 ?_ ?_ ?_ ?_ ?_ ?_ ?_
  · intro hA
    have hr : decT d k1 b1 k2 b2 = tv 1 d := by simp only [Bool.and_eq_true, Bool.and_eq_false_imp, decide_eq_true_eq, decide_eq_false_iff_not, beq_iff_eq, beq_eq_false_iff_ne] at hA; unfold decT; simp_all
    rw [hr]
    clear hr
    replace hA : Hid _ := hA
    go_enter Tryd.func58, Tryd.ntmps58
    go_wp2_with (first | (go_at_call 56; refine (truth_raw _ _).mono ?_; rintro e w1 ⟨rfl, rfl⟩) | (go_at_call 75; (first | (with_reducible refine Calls.mono (decides_is true d (w.heap.size + 1 + 1) _ b1 _ _ _ _ _ _ hA ?_) ?_; (focus (first | (refine cell_keep _ ?_; exact cell_last _ _ _ _ (by simp)) | (refine cell_keep _ (cell_keep _ ?_); exact cell_last _ _ _ _ (by simp)))))); (rintro e w1 ⟨rfl, rfl⟩)))
    all_goals first | (go_returns; exact ⟨rfl, by go_grown⟩) | (exfalso; simp_all; done)
  · intro hA hB
    have hr : decT d k1 b1 k2 b2 = tv 1 d := by simp only [Bool.and_eq_true, Bool.and_eq_false_imp, decide_eq_true_eq, decide_eq_false_iff_not, beq_iff_eq, beq_eq_false_iff_ne] at hA hB; unfold decT; simp_all
    rw [hr]
    clear hr
    replace hA : Hid _ := hA
    replace hB : Hid _ := hB
    go_enter Tryd.func58, Tryd.ntmps58
    go_wp2_with (first | (go_at_call 56; refine (truth_raw _ _).mono ?_; rintro e w1 ⟨rfl, rfl⟩) | (go_at_call 75; (first | (with_reducible refine Calls.mono (decides_is false d (w.heap.size + 1 + 1) _ b1 _ _ _ _ _ _ hA ?_) ?_; (focus (first | (refine cell_keep _ ?_; exact cell_last _ _ _ _ (by simp)) | (refine cell_keep _ (cell_keep _ ?_); exact cell_last _ _ _ _ (by simp))))) | (with_reducible refine Calls.mono (decides_is true d (w.heap.size + 1 + 1) _ b2 _ _ _ _ _ _ hB ?_) ?_; (focus (first | (refine cell_keep _ ?_; exact cell_last _ _ _ _ (by simp)) | (refine cell_keep _ (cell_keep _ ?_); exact cell_last _ _ _ _ (by simp)))))); (rintro e w1 ⟨rfl, rfl⟩)))
    all_goals first | (go_returns; exact ⟨rfl, by go_grown⟩) | (exfalso; simp_all; done)
  · intro hA hB h1
    have hr : decT d k1 b1 k2 b2 = tv 0 false := by simp only [Bool.and_eq_true, Bool.and_eq_false_imp, decide_eq_true_eq, decide_eq_false_iff_not, beq_iff_eq, beq_eq_false_iff_ne] at hA hB; unfold decT; simp_all
    rw [hr]
    clear hr
    subst h1
    replace hA : Hid _ := hA
    replace hB : Hid _ := hB
    go_enter Tryd.func58, Tryd.ntmps58
    go_wp2_with (first | (go_at_call 56; refine (truth_raw _ _).mono ?_; rintro e w1 ⟨rfl, rfl⟩) | (go_at_call 75; (first | (with_reducible refine Calls.mono (decides_is false d (w.heap.size + 1 + 1) _ b1 _ _ _ _ _ _ hA ?_) ?_; (focus (first | (refine cell_keep _ ?_; exact cell_last _ _ _ _ (by simp)) | (refine cell_keep _ (cell_keep _ ?_); exact cell_last _ _ _ _ (by simp))))) | (with_reducible refine Calls.mono (decides_is false d (w.heap.size + 1 + 1) _ b2 _ _ _ _ _ _ hB ?_) ?_; (focus (first | (refine cell_keep _ ?_; exact cell_last _ _ _ _ (by simp)) | (refine cell_keep _ (cell_keep _ ?_); exact cell_last _ _ _ _ (by simp)))))); (rintro e w1 ⟨rfl, rfl⟩)))
    all_goals first | (go_returns; exact ⟨rfl, by go_grown⟩) | (exfalso; simp_all; done)
  · intro hA hB h1 h2
    have hr : decT d k1 b1 k2 b2 = tv 0 false := by simp only [Bool.and_eq_true, Bool.and_eq_false_imp, decide_eq_true_eq, decide_eq_false_iff_not, beq_iff_eq, beq_eq_false_iff_ne] at hA hB; unfold decT; simp_all
    rw [hr]
    clear hr
    subst h2
    replace hA : Hid _ := hA
    replace hB : Hid _ := hB
    go_enter Tryd.func58, Tryd.ntmps58
    go_wp2_with (first | (go_at_call 56; refine (truth_raw _ _).mono ?_; rintro e w1 ⟨rfl, rfl⟩) | (go_at_call 75; (first | (with_reducible refine Calls.mono (decides_is false d (w.heap.size + 1 + 1) _ b1 _ _ _ _ _ _ hA ?_) ?_; (focus (first | (refine cell_keep _ ?_; exact cell_last _ _ _ _ (by simp)) | (refine cell_keep _ (cell_keep _ ?_); exact cell_last _ _ _ _ (by simp))))) | (with_reducible refine Calls.mono (decides_is false d (w.heap.size + 1 + 1) _ b2 _ _ _ _ _ _ hB ?_) ?_; (focus (first | (refine cell_keep _ ?_; exact cell_last _ _ _ _ (by simp)) | (refine cell_keep _ (cell_keep _ ?_); exact cell_last _ _ _ _ (by simp)))))); (rintro e w1 ⟨rfl, rfl⟩)))
    all_goals first | (go_returns; exact ⟨rfl, by go_grown⟩) | (exfalso; simp_all; done)
  · intro hA hB h1 h2 h3
    have hr : decT d k1 b1 k2 b2 = tv 7 false := by simp only [Bool.and_eq_true, Bool.and_eq_false_imp, decide_eq_true_eq, decide_eq_false_iff_not, beq_iff_eq, beq_eq_false_iff_ne] at hA hB; unfold decT; simp_all
    rw [hr]
    clear hr
    replace hA : Hid _ := hA
    replace hB : Hid _ := hB
    go_enter Tryd.func58, Tryd.ntmps58
    go_wp2_with (first | (go_at_call 56; refine (truth_raw _ _).mono ?_; rintro e w1 ⟨rfl, rfl⟩) | (go_at_call 75; (first | (with_reducible refine Calls.mono (decides_is false d (w.heap.size + 1 + 1) _ b1 _ _ _ _ _ _ hA ?_) ?_; (focus (first | (refine cell_keep _ ?_; exact cell_last _ _ _ _ (by simp)) | (refine cell_keep _ (cell_keep _ ?_); exact cell_last _ _ _ _ (by simp))))) | (with_reducible refine Calls.mono (decides_is false d (w.heap.size + 1 + 1) _ b2 _ _ _ _ _ _ hB ?_) ?_; (focus (first | (refine cell_keep _ ?_; exact cell_last _ _ _ _ (by simp)) | (refine cell_keep _ (cell_keep _ ?_); exact cell_last _ _ _ _ (by simp)))))); (rintro e w1 ⟨rfl, rfl⟩)))
    all_goals first | (go_returns; exact ⟨rfl, by go_grown⟩) | (exfalso; simp_all; done)
  · intro hA hB h1 h2 h3
    have hr : decT d k1 b1 k2 b2 = tv 7 false := by simp only [Bool.and_eq_true, Bool.and_eq_false_imp, decide_eq_true_eq, decide_eq_false_iff_not, beq_iff_eq, beq_eq_false_iff_ne] at hA hB; unfold decT; simp_all
    rw [hr]
    clear hr
    subst h1
    replace hA : Hid _ := hA
    replace hB : Hid _ := hB
    go_enter Tryd.func58, Tryd.ntmps58
    go_wp2_with (first | (go_at_call 56; refine (truth_raw _ _).mono ?_; rintro e w1 ⟨rfl, rfl⟩) | (go_at_call 75; (first | (with_reducible refine Calls.mono (decides_is false d (w.heap.size + 1 + 1) _ b1 _ _ _ _ _ _ hA ?_) ?_; (focus (first | (refine cell_keep _ ?_; exact cell_last _ _ _ _ (by simp)) | (refine cell_keep _ (cell_keep _ ?_); exact cell_last _ _ _ _ (by simp))))) | (with_reducible refine Calls.mono (decides_is false d (w.heap.size + 1 + 1) _ b2 _ _ _ _ _ _ hB ?_) ?_; (focus (first | (refine cell_keep _ ?_; exact cell_last _ _ _ _ (by simp)) | (refine cell_keep _ (cell_keep _ ?_); exact cell_last _ _ _ _ (by simp)))))); (rintro e w1 ⟨rfl, rfl⟩)))
    all_goals first | (go_returns; exact ⟨rfl, by go_grown⟩) | (exfalso; simp_all; done)
  · intro hA hB h1 h2
    have hr : decT d k1 b1 k2 b2 = tv 1 (!d) := by simp only [Bool.and_eq_true, Bool.and_eq_false_imp, decide_eq_true_eq, decide_eq_false_iff_not, beq_iff_eq, beq_eq_false_iff_ne] at hA hB; unfold decT; simp_all
    rw [hr]
    clear hr
    subst h1; subst h2; simp only [decide_true, Bool.true_and] at hA hB
    replace hA : Hid _ := hA
    replace hB : Hid _ := hB
    go_enter Tryd.func58, Tryd.ntmps58
    go_wp2_with (first | (go_at_call 56; (refine (truth_raw _ _).mono ?_; rintro e w1 ⟨rfl, rfl⟩)) | (go_at_call 75; (first | (with_reducible refine Calls.mono (decides_one false d (w.heap.size + 1 + 1) b1 _ _ _ _ _ _ hA ?_) ?_; (focus (first | (refine cell_keep _ ?_; exact cell_last _ _ _ _ (by simp)) | (refine cell_keep _ (cell_keep _ ?_); exact cell_last _ _ _ _ (by simp))))) | (with_reducible refine Calls.mono (decides_one false d (w.heap.size + 1 + 1) b2 _ _ _ _ _ _ hB ?_) ?_; (focus (first | (refine cell_keep _ ?_; exact cell_last _ _ _ _ (by simp)) | (refine cell_keep _ (cell_keep _ ?_); exact cell_last _ _ _ _ (by simp)))))); (rintro e w1 ⟨rfl, rfl⟩)))
    go_returns
    exact ⟨rfl, by go_grown⟩
end Go.Proofs.YtokkmjcpjjiaaaaDoor
