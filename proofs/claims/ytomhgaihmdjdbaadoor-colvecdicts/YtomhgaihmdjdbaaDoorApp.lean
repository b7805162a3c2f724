/-
  Append of a value of the column's kind.
-/
import Derived.Test.YtomhgaihmdjdbaaDoorPny
namespace Go.Proofs.YtomhgaihmdjdbaaDoor
open Go.RowKit
set_option linter.unusedSimpArgs false
set_option linter.unusedVariables false

set_option maxRecDepth 100000 in
set_option maxHeartbeats 8000000 in
theorem Append_same (base x : Nat) (C : Col) (k : Int) (b : Bool) (n : Int) (s : ByteArray) (p : Option Addr) (l c : Nat) (z : List Int) (r : Int) (X' : List ByteArray) (w : World) (hC : ColAt w base x C) (hN : NumOK base x C k b n s p l c r X') (hb : base ≤ w.heap.size) (hz : z.length = l) (hp : PathAt w p z) (hpf : ∀ g off, p = some ⟨g, off, none⟩ → z ≠ [] → ¬ Foot x C g) (hM : C.M.length < 10000000000000) (hL : C.L.length < 10000000000000) (hH : C.Hp.length + l < 10000000000000)
    (e : k = C.k) (hR : ∀ w', Below w.heap.size w w' → Calls Tryd.prog 37 #[.agg #[.int .i64 k, .bool b, .int .i64 n, .string s, .slice p l c]] w' fun e w'' => e = .returned (.bool true) ∧ Below w'.heap.size w' w'') :
    Calls Tryd.prog 16 #[.pointer (some ⟨x, 0, none⟩), .agg #[.int .i64 k, .bool b, .int .i64 n, .string s, .slice p l c]] w fun e w' => e = .returned (.int .i64 0) ∧ ∃ C', ColAt w' base x C' ∧ Behind C C' k z r X' ∧ Only (Foot x C) w w' ∧ Kin w x C C' := by
  have hbx := BoxAt.new w k b n s p l c rfl
  have hr := hR _ (((Below.refl _ w).alloc (Nat.le_refl _) (.cells #[.int .i64 k, .bool b, .int .i64 n, .string s, .slice p l c] 39)).drew)
  have hS : ∀ w', Below w.heap.size w w' → BoxAt w' w.heap.size k b n s p l c → w'.cell? ⟨x, 0, none⟩ = some (.int .i64 C.k) ∧ w'.cell? ⟨w.heap.size, 0, none⟩ = some (.int .i64 k) ∧ w'.cell? ⟨w.heap.size, 1, none⟩ = some (.bool b) ∧ w'.cell? ⟨w.heap.size, 2, none⟩ = some (.int .i64 n) ∧ w'.cell? ⟨w.heap.size, 3, none⟩ = some (.string s) ∧ w'.cell? ⟨w.heap.size, 4, none⟩ = some (.slice p l c) := fun w' g B => ⟨(hC.below g).vb.c0, B.c0, B.c1, B.c2, B.c3, B.c4⟩
  have hHeld := hS _ (((Below.refl _ w).alloc (Nat.le_refl _) (.cells #[.int .i64 k, .bool b, .int .i64 n, .string s, .slice p l c] 39)).drew) (hbx.below ((Below.refl _ _).drew))
  have cc0 := hbx.c0
  have hP := fun w' (g : Below w.heap.size w w') => put_any base x C k b n s p l c z r X' w' (hC.below g) hN (Nat.le_trans hb g.size) hz (hp.below g) hpf hM hL hH
  have hO0 : ∀ w', Below w.heap.size w w' → ∀ w'', Only (Foot x C) w' w'' → Only (Foot x C) w w'' := fun w' g w'' o => (Below.only _ g).trans o (fun _ _ h => h)
  have hK0 : ∀ w' C', Below w.heap.size w w' → Kin w' x C C' → Kin w x C C' := fun w' C' g h => Kin.trans (Kin.refl w x C) h g.size
  have hCa := fun w' (g : Below w.heap.size w w') => (hC.below g).vb.c0
  clear hR hC hN hp hpf
  replace hr : Hid _ := hr
  replace hP : Hid _ := hP
  replace hO0 : Hid _ := hO0
  replace hK0 : Hid _ := hK0
  replace hCa : Hid _ := hCa
  replace hS : Hid _ := hS
  replace hbx : Hid _ := hbx
  have hkk : (k != C.k) = false := by simpa using e
  generalize C.k = kc at *
  clear e
  go_enter Tryd.func16, Tryd.ntmps16
  go_wp2_with fail
  refine wp_sofar 1000 (fun w' => w'.cell? ⟨x, 0, none⟩ = some (.int .i64 kc) ∧ w'.cell? ⟨w.heap.size, 0, none⟩ = some (.int .i64 k) ∧ w'.cell? ⟨w.heap.size, 1, none⟩ = some (.bool b) ∧ w'.cell? ⟨w.heap.size, 2, none⟩ = some (.int .i64 n) ∧ w'.cell? ⟨w.heap.size, 3, none⟩ = some (.string s) ∧ w'.cell? ⟨w.heap.size, 4, none⟩ = some (.slice p l c)) (by kernel_rfl) ?_
  refine Sofar.take (i := 0) (v := ?_) rfl (by kernel_rfl) (by kernel_rfl) (by kernel_rfl) (by kernel_rfl) (fun _ _ _ h => h) (Or.inl ⟨by rfl, ?_⟩) hHeld ?_
  rotate_left
  · intro w hSw
    obtain ⟨s0, d0, d1, d2, d3, d4⟩ := hSw
    go_simp
    try with_reducible rfl
  simp only [Act.put, List.setIfInBounds_toArray, List.set_cons_zero, List.set_cons_succ]
  refine Sofar.step (i := 1) (by kernel_rfl) rfl (fun K hK => ?_)
  go_simp
  refine Calls.mono hr.out ?_
  rintro e1 w1 ⟨rfl, g1⟩
  have G1 := below_on (below_new w _) (Below.undrew g1)
  have B1 := hbx.out.below (Below.undrew g1)
  have hHeld1 := hS.out _ G1 B1
  refine hK.out _ _ (fun _ => hHeld1) ?_
  clear hK K hHeld
  have hHeld := hHeld1
  clear hHeld1
  try simp only [Act.put, List.setIfInBounds_toArray, List.set_cons_zero, List.set_cons_succ]
  refine Sofar.take (i := 2) (v := ?_) rfl (by kernel_rfl) (by kernel_rfl) (by kernel_rfl) (by kernel_rfl) (fun _ _ _ h => h) (Or.inl ⟨by rfl, ?_⟩) hHeld ?_
  rotate_left
  · intro w hSw
    obtain ⟨s0, d0, d1, d2, d3, d4⟩ := hSw
    go_simp
    try with_reducible rfl
  simp only [Act.put, List.setIfInBounds_toArray, List.set_cons_zero, List.set_cons_succ]
  refine Sofar.take (i := 3) (v := ?_) rfl (by kernel_rfl) (by kernel_rfl) (by kernel_rfl) (by kernel_rfl) (fun _ _ _ h => h) (Or.inl ⟨by rfl, ?_⟩) hHeld ?_
  rotate_left
  · intro w hSw
    obtain ⟨s0, d0, d1, d2, d3, d4⟩ := hSw
    go_simp
    try with_reducible rfl
  simp only [Act.put, List.setIfInBounds_toArray, List.set_cons_zero, List.set_cons_succ]
  refine Sofar.take (i := 4) (v := ?_) rfl (by kernel_rfl) (by kernel_rfl) (by kernel_rfl) (by kernel_rfl) (fun _ _ _ h => h) (Or.inl ⟨wanted_yes rfl rfl rfl rfl, ?_⟩) hHeld ?_
  rotate_left
  · intro w hSw
    obtain ⟨s0, d0, d1, d2, d3, d4⟩ := hSw
    go_simp
    try with_reducible rfl
  simp only [Act.put, List.setIfInBounds_toArray, List.set_cons_zero, List.set_cons_succ]
  refine Sofar.take (i := 5) (v := ?_) rfl (by kernel_rfl) (by kernel_rfl) (by kernel_rfl) (by kernel_rfl) (fun _ _ _ h => h) (Or.inl ⟨wanted_yes rfl rfl rfl rfl, ?_⟩) hHeld ?_
  rotate_left
  · intro w hSw
    obtain ⟨s0, d0, d1, d2, d3, d4⟩ := hSw
    go_simp
    try with_reducible rfl
  simp only [Act.put, List.setIfInBounds_toArray, List.set_cons_zero, List.set_cons_succ]
  refine Sofar.take (i := 6) (v := ?_) rfl (by kernel_rfl) (by kernel_rfl) (by kernel_rfl) (by kernel_rfl) (fun _ _ _ h => h) (Or.inl ⟨wanted_yes rfl rfl rfl rfl, ?_⟩) hHeld ?_
  rotate_left
  · intro w hSw
    obtain ⟨s0, d0, d1, d2, d3, d4⟩ := hSw
    go_simp
    try with_reducible rfl
  simp only [Act.put, List.setIfInBounds_toArray, List.set_cons_zero, List.set_cons_succ]
  refine Sofar.take (i := 7) (v := ?_) rfl (by kernel_rfl) (by kernel_rfl) (by kernel_rfl) (by kernel_rfl) (fun _ _ _ h => h) (Or.inl ⟨wanted_yes rfl rfl rfl rfl, ?_⟩) hHeld ?_
  rotate_left
  · intro w hSw
    obtain ⟨s0, d0, d1, d2, d3, d4⟩ := hSw
    go_simp
    try with_reducible rfl
  simp only [Act.put, List.setIfInBounds_toArray, List.set_cons_zero, List.set_cons_succ]
  refine Sofar.take (i := 8) (v := ?_) rfl (by kernel_rfl) (by kernel_rfl) (by kernel_rfl) (by kernel_rfl) (fun _ _ _ h => h) (Or.inl ⟨wanted_yes rfl rfl rfl rfl, ?_⟩) hHeld ?_
  rotate_left
  · intro w hSw
    obtain ⟨s0, d0, d1, d2, d3, d4⟩ := hSw
    go_simp
    try with_reducible rfl
  simp only [Act.put, List.setIfInBounds_toArray, List.set_cons_zero, List.set_cons_succ]
  refine Sofar.take (i := 9) (v := ?_) rfl (by kernel_rfl) (by kernel_rfl) (by kernel_rfl) (by kernel_rfl) (fun _ _ _ h => h) (Or.inl ⟨wanted_yes rfl rfl rfl rfl, ?_⟩) hHeld ?_
  rotate_left
  · intro w hSw
    obtain ⟨s0, d0, d1, d2, d3, d4⟩ := hSw
    go_simp
    try with_reducible rfl
  simp only [Act.put, List.setIfInBounds_toArray, List.set_cons_zero, List.set_cons_succ]
  refine Sofar.take (i := 10) (v := ?_) rfl (by kernel_rfl) (by kernel_rfl) (by kernel_rfl) (by kernel_rfl) (fun _ _ _ h => h) (Or.inl ⟨wanted_yes rfl rfl rfl rfl, ?_⟩) hHeld ?_
  rotate_left
  · intro w hSw
    obtain ⟨s0, d0, d1, d2, d3, d4⟩ := hSw
    go_simp
    try with_reducible rfl
  simp only [Act.put, List.setIfInBounds_toArray, List.set_cons_zero, List.set_cons_succ]
  refine Sofar.take (i := 11) (v := ?_) rfl (by kernel_rfl) (by kernel_rfl) (by kernel_rfl) (by kernel_rfl) (fun _ _ _ h => h) (Or.inl ⟨wanted_yes rfl rfl rfl rfl, ?_⟩) hHeld ?_
  rotate_left
  · intro w hSw
    obtain ⟨s0, d0, d1, d2, d3, d4⟩ := hSw
    go_simp
    try with_reducible rfl
  simp only [Act.put, List.setIfInBounds_toArray, List.set_cons_zero, List.set_cons_succ]
  refine Sofar.step (i := 12) (by kernel_rfl) rfl (fun K hK => ?_)
  go_simp
  refine hK.out _ _ (fun _ => hHeld) ?_
  clear hK K
  try simp only [Act.put, List.setIfInBounds_toArray, List.set_cons_zero, List.set_cons_succ]
  refine Sofar.step (i := 13) (by kernel_rfl) rfl (fun K hK => ?_)
  go_simp
  refine hK.out _ _ (fun _ => hHeld) ?_
  clear hK K
  try simp only [Act.put, List.setIfInBounds_toArray, List.set_cons_zero, List.set_cons_succ]
  refine Sofar.step (i := 14) (by kernel_rfl) rfl (fun K hK => ?_)
  go_simp
  refine hK.out _ _ (fun _ => hHeld) ?_
  clear hK K
  try simp only [Act.put, List.setIfInBounds_toArray, List.set_cons_zero, List.set_cons_succ]
  refine Sofar.step (i := 15) (by kernel_rfl) rfl (fun K hK => ?_)
  go_simp
  refine hK.out _ _ (fun _ => hHeld) ?_
  clear hK K
  try simp only [Act.put, List.setIfInBounds_toArray, List.set_cons_zero, List.set_cons_succ]
  refine Sofar.step (i := 16) (by kernel_rfl) rfl (fun K hK => ?_)
  go_simp
  refine hK.out _ _ (fun _ => hHeld) ?_
  clear hK K
  try simp only [Act.put, List.setIfInBounds_toArray, List.set_cons_zero, List.set_cons_succ]
  refine Sofar.done (by kernel_rfl) ?_
  obtain ⟨s0, d0, d1, d2, d3, d4⟩ := hHeld
  go_wp2_with (go_at_call 38; refine Calls.mono (hP.out _ G1) ?_; rintro e2 w2 ⟨rfl, C', hC', hB', hO', hK'⟩)
  go_returns
  exact ⟨rfl, C', hC', hB', hO0.out _ G1 _ hO', hK0.out _ _ G1 hK'⟩
end Go.Proofs.YtomhgaihmdjdbaaDoor
