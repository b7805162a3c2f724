/-
  Of, of the live two values.
-/
import Derived.Test.YtomhgaihmdjdbaaDoorApp
import Derived.Test.YtomhgaihmdjdbaaDoorApz
import Derived.Test.YtomhgaihmdjdbaaDoorHdp
namespace Go.Proofs.YtomhgaihmdjdbaaDoor
open Go.RowKit
set_option linter.unusedSimpArgs false
set_option linter.unusedVariables false

set_option maxRecDepth 100000 in
theorem oth3 (w : World) : Calls Tryd.prog 51 #[.agg #[.int .i64 2, .bool false, .int .i64 3, .string ⟨#[]⟩, .slice none 0 0]] w fun e w' => e = .returned (.bool true) ∧ Below w.heap.size w w' := by
  go_enter Tryd.func51, Tryd.ntmps51
  go_wp2
  go_returns
  exact ⟨rfl, by go_grown⟩
set_option maxRecDepth 100000 in
theorem fit3 (w : World) : Calls Tryd.prog 52 #[.agg #[.int .i64 2, .bool false, .int .i64 3, .string ⟨#[]⟩, .slice none 0 0]] w fun e w' => e = .returned (.bool true) ∧ Below w.heap.size w w' := by
  go_enter Tryd.func52, Tryd.ntmps52
  go_wp2
  go_returns
  exact ⟨rfl, by go_grown⟩
set_option maxRecDepth 100000 in
theorem right3 (w : World) : Calls Tryd.prog 37 #[.agg #[.int .i64 2, .bool false, .int .i64 3, .string ⟨#[]⟩, .slice none 0 0]] w fun e w' => e = .returned (.bool true) ∧ Below w.heap.size w w' := by
  have hbx := BoxAt.new w 2 false 3 ⟨#[]⟩ none 0 0 rfl
  go_enter Tryd.func37, Tryd.ntmps37
  go_wp2_with (first | (go_at_call 51; refine (oth3 _).mono ?_; rintro e w1 ⟨rfl, h1⟩; obtain ⟨c0, c1, c2, c3, c4, -⟩ := hbx.below h1) | (go_at_call 52; refine (fit3 _).mono ?_; rintro e w2 ⟨rfl, h2⟩))
  go_returns
  exact ⟨rfl, below_on (below_on (below_new _ _) h1) h2⟩

set_option maxRecDepth 100000 in
theorem oth0 (w : World) : Calls Tryd.prog 51 #[.agg #[.int .i64 0, .bool false, .int .i64 0, .string ⟨#[]⟩, .slice none 0 0]] w fun e w' => e = .returned (.bool true) ∧ Below w.heap.size w w' := by
  go_enter Tryd.func51, Tryd.ntmps51
  go_wp2
  go_returns
  exact ⟨rfl, by go_grown⟩
set_option maxRecDepth 100000 in
theorem fit0 (w : World) : Calls Tryd.prog 52 #[.agg #[.int .i64 0, .bool false, .int .i64 0, .string ⟨#[]⟩, .slice none 0 0]] w fun e w' => e = .returned (.bool true) ∧ Below w.heap.size w w' := by
  go_enter Tryd.func52, Tryd.ntmps52
  go_wp2
  go_returns
  exact ⟨rfl, by go_grown⟩
set_option maxRecDepth 100000 in
theorem right0 (w : World) : Calls Tryd.prog 37 #[.agg #[.int .i64 0, .bool false, .int .i64 0, .string ⟨#[]⟩, .slice none 0 0]] w fun e w' => e = .returned (.bool true) ∧ Below w.heap.size w w' := by
  have hbx := BoxAt.new w 0 false 0 ⟨#[]⟩ none 0 0 rfl
  go_enter Tryd.func37, Tryd.ntmps37
  go_wp2_with (first | (go_at_call 51; refine (oth0 _).mono ?_; rintro e w1 ⟨rfl, h1⟩; obtain ⟨c0, c1, c2, c3, c4, -⟩ := hbx.below h1) | (go_at_call 52; refine (fit0 _).mono ?_; rintro e w2 ⟨rfl, h2⟩))
  go_returns
  exact ⟨rfl, below_on (below_on (below_new _ _) h1) h2⟩

/-- A column without values. -/
def col0 (k : Int) : Col := ⟨k, [], [], [], [], .slice none 0 0, .slice none 0 0, .slice none 0 0, .map none, .slice none 0 0⟩
theorem bl0 {x : Nat} {k : Int} {i b : Nat} (h : bl x (col0 k) i = some b) : i = 0 ∧ b = x := by
  unfold bl at h
  split at h
  · cases h; exact ⟨rfl, rfl⟩
  all_goals simp [col0, Value.ownBlock, mapBlock] at h
theorem col_new {w : World} {base x : Nat} {k : Int} (h : VB w x k (.slice none 0 0) (.slice none 0 0) (.slice none 0 0) (.map none) (.slice none 0 0)) (hb : base ≤ x) : ColAt w base x (col0 k) :=
  ⟨h, World.ownsRow_nil _ _ _ _, World.ownsRow_nil _ _ _ _, World.ownsRow_nil _ _ _ _, .inl ⟨rfl, rfl⟩, World.ownsRow_nil _ _ _ _,
    fun i j b hi hj => (bl0 hi).1.trans (bl0 hj).1.symm, fun i b hi => by rw [(bl0 hi).2]; exact hb⟩
theorem foot0 {x : Nat} {k : Int} {j : Nat} (h : Foot x (col0 k) j) : j = x := by
  obtain ⟨i, hi⟩ := h
  exact (bl0 hi).2

/-- The live question's two values, as they lie in a list. -/
structure TwoAt (w : World) (h : Nat) : Prop where
  d0 : w.cell? ⟨h, 0, none⟩ = some (.int .i64 2)
  d1 : w.cell? ⟨h, 1, none⟩ = some (.bool false)
  d2 : w.cell? ⟨h, 2, none⟩ = some (.int .i64 3)
  d3 : w.cell? ⟨h, 3, none⟩ = some (.string ⟨#[]⟩)
  d4 : w.cell? ⟨h, 4, none⟩ = some (.slice none 0 0)
  d5 : w.cell? ⟨h, 5, none⟩ = some (.int .i64 0)
  d6 : w.cell? ⟨h, 6, none⟩ = some (.bool false)
  d7 : w.cell? ⟨h, 7, none⟩ = some (.int .i64 0)
  d8 : w.cell? ⟨h, 8, none⟩ = some (.string ⟨#[]⟩)
  d9 : w.cell? ⟨h, 9, none⟩ = some (.slice none 0 0)
theorem TwoAt.under {w w' : World} {h B : Nat} (t : TwoAt w h) (hb : Below B w w') (hB : h < B) : TwoAt w' h :=
  ⟨(hb.cell hB).trans t.d0, (hb.cell hB).trans t.d1, (hb.cell hB).trans t.d2, (hb.cell hB).trans t.d3, (hb.cell hB).trans t.d4, (hb.cell hB).trans t.d5, (hb.cell hB).trans t.d6, (hb.cell hB).trans t.d7, (hb.cell hB).trans t.d8, (hb.cell hB).trans t.d9⟩

set_option maxRecDepth 100000 in
set_option maxHeartbeats 2000000 in
theorem Of_hd (w : World) (h : Nat) (t : TwoAt w h) : Calls Tryd.prog 13 #[.int .i64 2, .slice (some ⟨h, 0, none⟩) 2 2] w fun e w' => ∃ x, e = .returned (.tuple #[.pointer (some ⟨x, 0, none⟩), .int .i64 0]) ∧ (∃ g1 p1 g2 p2, HdAt w' x g1 p1 g2 p2) ∧ Below w.heap.size w w' := by
  have hh : h < w.heap.size := World.block_lt_of_cell? w _ t.d0
  have hB0 : w.heap.size ≤ w.heap.size := Nat.le_refl _
  have hA : ∀ w1, VB w1 w.heap.size 2 (.slice none 0 0) (.slice none 0 0) (.slice none 0 0) (.map none) (.slice none 0 0) → w.heap.size ≤ w1.heap.size → Calls Tryd.prog 16 #[.pointer (some ⟨w.heap.size, 0, none⟩), .agg #[.int .i64 2, .bool false, .int .i64 3, .string ⟨#[]⟩, .slice none 0 0]] w1 fun e w' => e = .returned (.int .i64 0) ∧ ∃ C', ColAt w' w.heap.size w.heap.size C' ∧ Behind (col0 2) C' 2 [] 3 [] ∧ Only (Foot w.heap.size (col0 2)) w1 w' ∧ Kin w1 w.heap.size (col0 2) C' := fun w1 hV hs =>
    Append_same w.heap.size w.heap.size (col0 2) 2 false 3 ⟨#[]⟩ none 0 0 [] 3 [] w1 (col_new hV (Nat.le_refl _)) (numOK_plain _ _ _ _ _ _ _ _ _ _ (by decide) (by decide)) hs rfl (.inl rfl) (fun _ _ e => by cases e) (by decide) (by decide) (by decide) rfl (fun w' _ => right3 w')
  have hA2 : ∀ w1 C1, ColAt w1 w.heap.size w.heap.size C1 → Behind (col0 2) C1 2 [] 3 [] → w.heap.size ≤ w1.heap.size → Calls Tryd.prog 16 #[.pointer (some ⟨w.heap.size, 0, none⟩), .agg #[.int .i64 0, .bool false, .int .i64 0, .string ⟨#[]⟩, .slice none 0 0]] w1 fun e w' => e = .returned (.int .i64 0) ∧ ∃ C', ColAt w' w.heap.size w.heap.size C' ∧ (C'.k = 2 ∧ C'.L = [2] ∧ C'.M = [3, 0]) ∧ Only (Foot w.heap.size C1) w1 w' := fun w1 C1 hC hB hs => by
    obtain ⟨b1, b2, b3, b4, b5⟩ := hB
    have e2 : C1.L = [] := by rw [b2]; rfl
    have e3 : C1.M = [3] := by rw [b3]; rfl
    refine (Append_zero w.heap.size w.heap.size C1 0 false 0 ⟨#[]⟩ none 0 0 [] 0 C1.X w1 hC (numOK_plain _ _ _ _ _ _ _ _ _ _ (by rw [b1]; decide) (by decide)) hs rfl (.inl rfl) (fun _ _ e => by cases e) (by rw [e3]; decide) (by rw [e2]; decide) (by rw [b5]; decide) ⟨by rw [b1]; decide, rfl⟩ (fun w' _ => right0 w')).mono fun e w' ⟨he, C', h1, ⟨q1, q2, q3, q4, q5⟩, h3, h4⟩ => ⟨he, C', h1, ⟨by rw [q1, b1]; rfl, ?_, by rw [q3, e3]; rfl⟩, h3⟩
    rw [q2, if_pos rfl, e2, e3]
    kernel_rfl
  have hN := New_yes 2 w (by decide) (by decide)
  replace hN : Hid _ := hN
  replace hA : Hid _ := hA
  replace hA2 : Hid _ := hA2
  replace t : Hid _ := t
  go_enter Tryd.func13, Tryd.ntmps13
  go_wp2_with (go_at_call 11; refine Calls.mono hN.out ?_; rintro e w1 ⟨rfl, hV1, g1, z1⟩)
  have t1 := TwoAt.under t.out g1 hh
  have hh1 : h < w1.heap.size := by omega
  replace hV1 : Hid _ := hV1
  have t1h : Hid _ := t1
  refine wp_loop_rounds 3 ?_
  rw [rounds_succ]
  obtain ⟨d0, d1, d2, d3, d4, d5, d6, d7, d8, d9⟩ := t1
  go_wp2_with (go_at_call 16; refine Calls.mono (hA.out _ (VB.below hV1.out (below_new _ _)) (by simp; omega)) ?_; rintro e w2 ⟨rfl, C1, hC1, hB1, hO1, -⟩)
  clear d0 d1 d2 d3 d4 d5 d6 d7 d8 d9
  have G2 : Below w.heap.size w w2 := g1.trans ((((Below.refl _ w1).alloc (Nat.le_refl _) _).mono (by omega)).trans (hO1.below (by simp; omega) (fun k hk => by rw [foot0 hk]; exact Nat.le_refl _)))
  have t2 := TwoAt.under t.out G2 hh
  have s2 := G2.size
  replace hC1 : Hid _ := hC1
  replace hB1 : Hid _ := hB1
  rw [rounds_succ]
  obtain ⟨d0, d1, d2, d3, d4, d5, d6, d7, d8, d9⟩ := t2
  go_wp2_with (go_at_call 16; refine Calls.mono (hA2.out _ C1 (ColAt.below hC1.out (below_new _ _)) hB1.out (by simp; omega)) ?_; rintro e w3 ⟨rfl, C2, hC2, hB2, hO2⟩)
  clear d0 d1 d2 d3 d4 d5 d6 d7 d8 d9
  have G3 : Below w.heap.size w w3 := G2.trans ((((Below.refl _ w2).alloc (Nat.le_refl _) _).mono s2).trans (hO2.below (by simp; omega) (fun k hk => by obtain ⟨i, hi⟩ := hk; exact ColAt.lo hC1.out i k hi)))
  have hF := hd_of hC2 hB2.1 hB2.2.1 hB2.2.2
  rw [rounds_succ]
  clear hC2 hB2 hO2 hB1 hC1 hO1
  go_wp2_with fail
  go_returns
  exact ⟨_, rfl, hF, G3⟩
end Go.Proofs.YtomhgaihmdjdbaaDoor
