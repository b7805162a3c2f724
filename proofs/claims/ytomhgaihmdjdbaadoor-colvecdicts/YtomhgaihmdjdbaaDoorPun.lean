/-
  A null is put behind.
-/
import Derived.Test.YtomhgaihmdjdbaaDoorPut
namespace Go.Proofs.YtomhgaihmdjdbaaDoor
open Go.RowKit
set_option linter.unusedSimpArgs false
set_option linter.unusedVariables false

set_option maxRecDepth 100000 in
set_option maxHeartbeats 4000000 in
theorem put_null (base x : Nat) (C : Col) (k : Int) (b : Bool) (n : Int) (s : ByteArray) (p : Option Addr) (l c : Nat) (z : List Int) (r : Int) (X' : List ByteArray) (w : World) (hC : ColAt w base x C) (hk : k = 0) (hN : NumOK base x C k b n s p l c r X') (hb : base ≤ w.heap.size) (hz : z.length = l) (hp : PathAt w p z) (hpf : ∀ g off, p = some ⟨g, off, none⟩ → z ≠ [] → ¬ Foot x C g) (hM : C.M.length < 10000000000000) (hL : C.L.length < 10000000000000) (hH : C.Hp.length + l < 10000000000000) :
    Calls Tryd.prog 38 #[.pointer (some ⟨x, 0, none⟩), .agg #[.int .i64 k, .bool b, .int .i64 n, .string s, .slice p l c]] w fun e w' => e = .returned (.tuple #[]) ∧ ∃ C', ColAt w' base x C' ∧ C'.k = C.k ∧ C'.L = setB C.L C.M.length ∧ C'.M = C.M ++ [r] ∧ C'.X = X' ∧ C'.Hp = C.Hp ++ z ∧ Only (Foot x C) w w' ∧ Kin w x C C' := by
  obtain ⟨i0, hi0, hz0, hz1, hz2⟩ := info_parts info2
  have hbx := BoxAt.new w k b n s p l c rfl
  have hC0 := hC.below (below_new w (.cells #[.int .i64 k, .bool b, .int .i64 n, .string s, .slice p l c] 39))
  have hO0 : Only (Foot x C) w (w.alloc (.cells #[.int .i64 k, .bool b, .int .i64 n, .string s, .slice p l c] 39)) := (Only.refl _ w).alloc _
  have hnf : ¬ Foot x C w.heap.size := fun ⟨i, hi⟩ => by have := hC.lt hi; omega
  subst hk
  have D := hbx
  obtain ⟨c0, -, -, -, -, -⟩ := D
  have hCd := hC0.below ((Below.refl _ _).drew)
  obtain ⟨ma0, mc0, e20⟩ := own_slice hC.o2
  have hLen := Len_any x ma0 C.M.length mc0 (w.alloc (.cells #[.int .i64 0, .bool b, .int .i64 n, .string s, .slice p l c] 39)).drew (by have := hCd.vb.c2; rw [e20] at this; exact this)
  have hSet := set_any x base C.k C.nv C.mv C.tv C.pv C.hv C.L C.M.length _ hCd.vb hCd.o1 (fun e => by have := hC.ap 1 0 x e rfl; cases this) (by simp; omega) hM hL
  replace hLen : Hid _ := hLen
  replace hSet : Hid _ := hSet
  replace e20 : Hid _ := e20
  go_enter Tryd.func38, Tryd.ntmps38
  go_wp2_with fail
  go_region_with (first
    | (go_at_call 26; refine Calls.mono hLen.out ?_; rintro e w0 ⟨rfl, rfl⟩)
    | (go_at_call 53; refine Calls.mono hSet.out ?_; rintro e W0 ⟨rfl, nv', hV', ho', hM', hO'⟩))
  replace hO' := Only.undrew hO'
  have HS : ∃ C1, ColAt W0 base x C1 ∧ C1.k = C.k ∧ C1.L = setB C.L C.M.length ∧ C1.M = C.M ∧ C1.X = C.X ∧ C1.Hp = C.Hp ∧ Only (Foot x C) w W0 ∧ Kin w x C C1 ∧ BoxAt W0 w.heap.size 0 b n s p l c ∧ ¬ Foot x C1 w.heap.size := by
    have hMw : Moved w C.nv nv' := by
      rcases hM' with e | ⟨g, h1, h2⟩
      · exact .inl e
      · exact .inr ⟨g, by simp at h1; omega, h2⟩
    refine ⟨{ C with nv := nv', L := setB C.L C.M.length }, hC0.nulls (by simp; omega) hV' ho' (by rcases hM' with e | ⟨g, h1, h2⟩; exact .inl e; exact .inr ⟨g, h1, h2⟩) hO', rfl, rfl, rfl, rfl, rfl, hO0.trans hO' (fun j _ h => part_foot (i := 1) h), kin_nulls hMw, hbx.only hO' (fun h => hnf (part_foot (i := 1) h)), ?_⟩
    rintro ⟨i, hi⟩
    by_cases h1 : i = 1
    · subst h1
      rcases hM' with e | ⟨g, h1, h2⟩
      · exact hnf ⟨1, e.symm.trans hi⟩
      · have e := h2.symm.trans hi
        cases e
        have h1' : w.heap.size + 1 ≤ w.heap.size := by simpa using h1
        omega
    · refine hnf ⟨i, hi ▸ ?_⟩
      unfold bl
      split <;> first | rfl | omega
  clear hLen hSet e20 hCd hV' ho' hM' hO' c0 hnf
  go_wp2_with fail
  obtain ⟨C1, hC1, k1, k2, k3, k4, k5, hO1, hK1, hB, hyF⟩ := HS
  clear hC hC0 hO0 hbx
  obtain ⟨ma, mc, e2⟩ := own_slice hC1.o2
  obtain ⟨ha, hc, e5⟩ := own_slice hC1.o5
  replace e2 : Hid _ := e2
  replace e5 : Hid _ := e5
  have hM1 : C1.M.length < 10000000000000 := by rw [k3]; exact hM
  have hH1 : C1.Hp.length + l < 10000000000000 := by rw [k5]; exact hH
  replace k1 : Hid _ := k1
  replace k2 : Hid _ := k2
  replace k3 : Hid _ := k3
  replace k4 : Hid _ := k4
  replace k5 : Hid _ := k5
  have hbW : base ≤ W0.heap.size := Nat.le_trans hb hO1.size
  have hN1 : Hid _ := hN W0.drew C1 k1.out k5.out k4.out hbW (hC1.below ((Below.refl _ _).drew))
  have hHeld : W0.drew.cell? ⟨x, 2, none⟩ = some (.slice ma C1.M.length mc) ∧ W0.drew.cell? ⟨x, 5, none⟩ = some (.slice ha C1.Hp.length hc) ∧ W0.drew.cell? ⟨w.heap.size, 0, none⟩ = some (.int .i64 0) ∧ W0.drew.cell? ⟨w.heap.size, 1, none⟩ = some (.bool b) ∧ W0.drew.cell? ⟨w.heap.size, 2, none⟩ = some (.int .i64 n) ∧ W0.drew.cell? ⟨w.heap.size, 3, none⟩ = some (.string s) ∧ W0.drew.cell? ⟨w.heap.size, 4, none⟩ = some (.slice p l c) := held_of (hC1.below ((Below.refl _ _).drew)) e2.out e5.out (hB.below ((Below.refl _ _).drew))
  refine wp_sofar 12 (fun w' => w'.cell? ⟨x, 2, none⟩ = some (.slice ma C1.M.length mc) ∧ w'.cell? ⟨x, 5, none⟩ = some (.slice ha C1.Hp.length hc) ∧ w'.cell? ⟨w.heap.size, 0, none⟩ = some (.int .i64 0) ∧ w'.cell? ⟨w.heap.size, 1, none⟩ = some (.bool b) ∧ w'.cell? ⟨w.heap.size, 2, none⟩ = some (.int .i64 n) ∧ w'.cell? ⟨w.heap.size, 3, none⟩ = some (.string s) ∧ w'.cell? ⟨w.heap.size, 4, none⟩ = some (.slice p l c)) (by kernel_rfl) ?_
  refine Sofar.take (i := 0) (v := ?_) rfl (by kernel_rfl) (by kernel_rfl) (by kernel_rfl) (by kernel_rfl) (fun _ _ _ h => h) (Or.inl ⟨by rfl, ?_⟩) hHeld ?_
  rotate_left
  · intro w hSw
    obtain ⟨e2, e5, d0, d1, d2, d3, d4⟩ := hSw
    go_simp
    try with_reducible rfl
  simp only [Act.put, List.setIfInBounds_toArray, List.set_cons_zero, List.set_cons_succ]
  refine Sofar.take (i := 1) (v := ?_) rfl (by kernel_rfl) (by kernel_rfl) (by kernel_rfl) (by kernel_rfl) (fun _ _ _ h => h) (Or.inl ⟨by rfl, ?_⟩) hHeld ?_
  rotate_left
  · intro w hSw
    obtain ⟨e2, e5, d0, d1, d2, d3, d4⟩ := hSw
    go_simp
    try with_reducible rfl
  simp only [Act.put, List.setIfInBounds_toArray, List.set_cons_zero, List.set_cons_succ]
  refine Sofar.take (i := 2) (v := ?_) rfl (by kernel_rfl) (by kernel_rfl) (by kernel_rfl) (by kernel_rfl) (fun _ _ _ h => h) (Or.inl ⟨by rfl, ?_⟩) hHeld ?_
  rotate_left
  · intro w hSw
    obtain ⟨e2, e5, d0, d1, d2, d3, d4⟩ := hSw
    go_simp
    try with_reducible rfl
  simp only [Act.put, List.setIfInBounds_toArray, List.set_cons_zero, List.set_cons_succ]
  refine Sofar.take (i := 3) (v := ?_) rfl (by kernel_rfl) (by kernel_rfl) (by kernel_rfl) (by kernel_rfl) (fun _ _ _ h => h) (Or.inl ⟨by rfl, ?_⟩) hHeld ?_
  rotate_left
  · intro w hSw
    obtain ⟨e2, e5, d0, d1, d2, d3, d4⟩ := hSw
    go_simp
    try with_reducible rfl
  simp only [Act.put, List.setIfInBounds_toArray, List.set_cons_zero, List.set_cons_succ]
  refine Sofar.take (i := 4) (v := ?_) rfl (by kernel_rfl) (by kernel_rfl) (by kernel_rfl) (by kernel_rfl) (fun _ _ _ h => h) (Or.inl ⟨by rfl, ?_⟩) hHeld ?_
  rotate_left
  · intro w hSw
    obtain ⟨e2, e5, d0, d1, d2, d3, d4⟩ := hSw
    go_simp
    try with_reducible rfl
  simp only [Act.put, List.setIfInBounds_toArray, List.set_cons_zero, List.set_cons_succ]
  refine Sofar.take (i := 5) (v := ?_) rfl (by kernel_rfl) (by kernel_rfl) (by kernel_rfl) (by kernel_rfl) (fun _ _ _ h => h) (Or.inl ⟨by rfl, ?_⟩) hHeld ?_
  rotate_left
  · intro w hSw
    obtain ⟨e2, e5, d0, d1, d2, d3, d4⟩ := hSw
    go_simp
    try with_reducible rfl
  simp only [Act.put, List.setIfInBounds_toArray, List.set_cons_zero, List.set_cons_succ]
  refine Sofar.take (i := 6) (v := ?_) rfl (by kernel_rfl) (by kernel_rfl) (by kernel_rfl) (by kernel_rfl) (fun _ _ _ h => h) (Or.inl ⟨by rfl, ?_⟩) hHeld ?_
  rotate_left
  · intro w hSw
    obtain ⟨e2, e5, d0, d1, d2, d3, d4⟩ := hSw
    go_simp
    try with_reducible rfl
  simp only [Act.put, List.setIfInBounds_toArray, List.set_cons_zero, List.set_cons_succ]
  refine Sofar.step (i := 7) (by kernel_rfl) rfl (fun K hK => ?_)
  go_simp
  refine Calls.mono hN1.out ?_
  rintro e w1 ⟨tv', pv', rfl, hC2, hO2, hK2⟩
  replace hO2 := Only.undrew hO2
  have hB2 := hB.only hO2 hyF
  have hHeld2 := held_of hC2 e2.out e5.out hB2
  refine hK.out _ _ (fun _ => hHeld2) ?_
  clear hK K
  try simp only [Act.put, List.setIfInBounds_toArray, List.set_cons_zero, List.set_cons_succ]
  refine Sofar.step (i := 8) (by kernel_rfl) rfl (fun K hK => ?_)
  go_simp
  refine hK.out _ _ (fun _ => held_of (hC2.below (below_new _ _)) e2.out e5.out (hB2.alloc _)) ?_
  clear hK K
  try simp only [Act.put, List.setIfInBounds_toArray, List.set_cons_zero, List.set_cons_succ]
  refine Sofar.step (i := 9) (by kernel_rfl) rfl (fun K hK => ?_)
  have hom : w1.ownsRow base 2 1 (.slice ma C1.M.length mc) C1.M.length (i64s C1.M) := by rw [← e2.out]; exact hC2.o2
  refine step_append_lies _ (by rfl) (.tmp 17) (.tmp 21) 37 (by rfl) base 2 i0 (.int .i64 0) 1 8 Tryd.underlying37 hi0 hz0 hz1 hz2 rfl (by omega) (.slice ma C1.M.length mc) C1.M.length (i64s C1.M) (by rfl) (World.ownsRow.alloc hom _) ⟨w1.heap.size, 0, none⟩ 1 1 [.int .i64 r] (by rfl) (by rfl) (cell_one_new _ _ _) (by simp [Value.oneCell']) (by omega) (by unfold maxLen; omega) (by omega) (by have := hO2.size; simp; omega) (w1.heap.size + 1) (by simp) ?_
  intro gm cm w4 ho4 hg4 hat4 hlt4
  obtain ⟨W5, C3, hW5, hC3, hm3, q1, q2, q3, q4, q5, q6, hO3, hK3, hS4, hB4, fr4⟩ := num_step hC2 e2.out rfl hB2 (fun h => hyF (kin_not hK2 hB.lt h)) (Nat.le_trans hbW hO2.size) hg4 hat4 ho4
  have hHeld4 := held_of4 hS4 e2.out e5.out hB4
  refine hK.out _ _ (fun _ => hHeld4) ?_
  clear hK K
  try simp only [Act.put, List.setIfInBounds_toArray, List.set_cons_zero, List.set_cons_succ]
  refine Sofar.step (i := 10) (by kernel_rfl) rfl (fun K hK => ?_)
  go_simp
  refine hK.out _ _ (fun _ => hHeld4) ?_
  clear hK K
  try simp only [Act.put, List.setIfInBounds_toArray, List.set_cons_zero, List.set_cons_succ]
  refine Sofar.step (i := 11) (by kernel_rfl) rfl (fun K hK => ?_)
  go_simp
  refine hK.out _ _ (fun _ => hHeld4) ?_
  clear hK K
  try simp only [Act.put, List.setIfInBounds_toArray, List.set_cons_zero, List.set_cons_succ]
  obtain ⟨f2, f5, f6⟩ := hHeld4
  refine Sofar.step (i := 12) (by kernel_rfl) rfl (fun K hK => ?_)
  go_simp
  refine hK.out _ _ (fun h => absurd rfl h) ?_
  clear hK K
  try simp only [Act.put, List.setIfInBounds_toArray, List.set_cons_zero, List.set_cons_succ]
  refine Sofar.done (by kernel_rfl) ?_
  rw [← hW5]
  have e5' : C3.hv = .slice ha C3.Hp.length hc := by
    have : C3.hv = C1.hv := q6
    rw [this, e5.out, show C3.Hp = C1.Hp from q5]
  replace e5' : Hid _ := e5'
  have hO5 : Only (Foot x C) w W5 := foot_on (foot_on hO1 hK1 hO2) (hK1.trans hK2 hO1.size) hO3
  have hK5 : Kin w x C C3 := Kin.trans (Kin.trans hK1 hK2 hO1.size) hK3 (Nat.le_trans hO1.size hO2.size)
  have hy3 : ¬ Foot x C3 w.heap.size := fun h => hyF (kin_not hK2 hB.lt (kin_not hK3 hB2.lt h))
  have hB5 : BoxAt W5 w.heap.size 0 b n s p l c := by rw [hW5]; exact box_set hB4 (fun e => hyF ⟨0, by rw [e]; rfl⟩)
  have r1 : Hid (C3.k = C.k) := (show C3.k = C1.k from q1).trans k1.out
  have r2 : Hid (C3.L = setB C.L C.M.length) := (show C3.L = C1.L from q2).trans k2.out
  have r3 : C3.M = C.M ++ [r] := by rw [show C3.M = C1.M ++ [r] from q3, k3.out]
  replace r3 : Hid _ := r3
  have r4 : Hid (C3.X = X') := q4
  have r5 : Hid (C3.Hp = C.Hp) := (show C3.Hp = C1.Hp from q5).trans k5.out
  have hH3 : C3.Hp.length + l < 10000000000000 := by rw [r5.out]; exact hH
  have hbW5 : base ≤ W5.heap.size := Nat.le_trans hb hO5.size
  have hp5 : PathAt W5 p z := path_only hp hO5 hpf
  clear hHeld hHeld2 f2 f5 f6 hS4 hB4 fr4 ho4 hg4 hat4 hlt4 hom hB2 hC2 hO2 hK2 hO3 hK3 q1 q2 q3 q4 q5 q6 hm3 hN1 hC1 hO1 hK1 hB k1 k2 k3 k4 k5 hbW hW5 e2 e5 hM1 hH1 hyF hp
  go_wp2_with fail
  have hHeld : W5.drew.cell? ⟨x, 5, none⟩ = some (.slice ha C3.Hp.length hc) ∧ W5.drew.cell? ⟨w.heap.size, 4, none⟩ = some (.slice p l c) := ⟨by have := (hC3.below ((Below.refl _ _).drew)).vb.c5; rw [e5'.out] at this; exact this, (hB5.below ((Below.refl _ _).drew)).c4⟩
  refine wp_sofar 10 (fun w' => w'.cell? ⟨x, 5, none⟩ = some (.slice ha C3.Hp.length hc) ∧ w'.cell? ⟨w.heap.size, 4, none⟩ = some (.slice p l c)) (by kernel_rfl) ?_
  refine Sofar.take (i := 0) (v := ?_) rfl (by kernel_rfl) (by kernel_rfl) (by kernel_rfl) (by kernel_rfl) (fun _ _ _ h => h) (Or.inl ⟨by rfl, ?_⟩) hHeld ?_
  rotate_left
  · intro w hSw
    obtain ⟨e5, d4⟩ := hSw
    go_simp
    try with_reducible rfl
  simp only [Act.put, List.setIfInBounds_toArray, List.set_cons_zero, List.set_cons_succ]
  refine Sofar.take (i := 1) (v := ?_) rfl (by kernel_rfl) (by kernel_rfl) (by kernel_rfl) (by kernel_rfl) (fun _ _ _ h => h) (Or.inl ⟨by rfl, ?_⟩) hHeld ?_
  rotate_left
  · intro w hSw
    obtain ⟨e5, d4⟩ := hSw
    go_simp
    try with_reducible rfl
  simp only [Act.put, List.setIfInBounds_toArray, List.set_cons_zero, List.set_cons_succ]
  refine Sofar.take (i := 2) (v := ?_) rfl (by kernel_rfl) (by kernel_rfl) (by kernel_rfl) (by kernel_rfl) (fun _ _ _ h => h) (Or.inl ⟨by rfl, ?_⟩) hHeld ?_
  rotate_left
  · intro w hSw
    obtain ⟨e5, d4⟩ := hSw
    go_simp
    try with_reducible rfl
  simp only [Act.put, List.setIfInBounds_toArray, List.set_cons_zero, List.set_cons_succ]
  refine Sofar.take (i := 3) (v := ?_) rfl (by kernel_rfl) (by kernel_rfl) (by kernel_rfl) (by kernel_rfl) (fun _ _ _ h => h) (Or.inl ⟨by rfl, ?_⟩) hHeld ?_
  rotate_left
  · intro w hSw
    obtain ⟨e5, d4⟩ := hSw
    go_simp
    try with_reducible rfl
  simp only [Act.put, List.setIfInBounds_toArray, List.set_cons_zero, List.set_cons_succ]
  refine Sofar.take (i := 4) (v := ?_) rfl (by kernel_rfl) (by kernel_rfl) (by kernel_rfl) (by kernel_rfl) (fun _ _ _ h => h) (Or.inl ⟨by rfl, ?_⟩) hHeld ?_
  rotate_left
  · intro w hSw
    obtain ⟨e5, d4⟩ := hSw
    go_simp
    try with_reducible rfl
  simp only [Act.put, List.setIfInBounds_toArray, List.set_cons_zero, List.set_cons_succ]
  refine Sofar.take (i := 5) (v := ?_) rfl (by kernel_rfl) (by kernel_rfl) (by kernel_rfl) (by kernel_rfl) (fun _ _ _ h => h) (Or.inl ⟨by rfl, ?_⟩) hHeld ?_
  rotate_left
  · intro w hSw
    obtain ⟨e5, d4⟩ := hSw
    go_simp
    try with_reducible rfl
  simp only [Act.put, List.setIfInBounds_toArray, List.set_cons_zero, List.set_cons_succ]
  refine Sofar.take (i := 6) (v := ?_) rfl (by kernel_rfl) (by kernel_rfl) (by kernel_rfl) (by kernel_rfl) (fun _ _ _ h => h) (Or.inl ⟨by rfl, ?_⟩) hHeld ?_
  rotate_left
  · intro w hSw
    obtain ⟨e5, d4⟩ := hSw
    go_simp
    try with_reducible rfl
  simp only [Act.put, List.setIfInBounds_toArray, List.set_cons_zero, List.set_cons_succ]
  refine Sofar.step (i := 7) (by kernel_rfl) rfl (fun K hK => ?_)
  have frx : W5.drew.frozen? ⟨x, 5, none⟩ = false := hC3.vb.fr 5
  by_cases hl : l = 0
  · subst hl
    obtain rfl : z = [] := by simpa using hz
    have hcap : C3.Hp.length ≤ hc := by have := hC3.o5; rw [e5'.out] at this; exact own_cap this
    refine step_append_zero (by rfl) (.tmp 29) (.tmp 31) (by rfl) ha C3.Hp.length hc p c hcap (by rfl) (by rfl) ?_
    refine hK.out _ _ (fun _ => hHeld) ?_
    clear hK K
    try simp only [Act.put, List.setIfInBounds_toArray, List.set_cons_zero, List.set_cons_succ]
    refine Sofar.step (i := 8) (by kernel_rfl) rfl (fun K hK => ?_)
    go_simp
    refine hK.out _ _ (fun _ => hHeld) ?_
    clear hK K
    try simp only [Act.put, List.setIfInBounds_toArray, List.set_cons_zero, List.set_cons_succ]
    refine Sofar.step (i := 9) (by kernel_rfl) rfl (fun K hK => ?_)
    go_simp
    refine hK.out _ _ (fun _ => hHeld) ?_
    clear hK K
    try simp only [Act.put, List.setIfInBounds_toArray, List.set_cons_zero, List.set_cons_succ]
    obtain ⟨f5, f6⟩ := hHeld
    refine Sofar.step (i := 10) (by kernel_rfl) rfl (fun K hK => ?_)
    go_simp
    refine hK.out _ _ (fun h => absurd rfl h) ?_
    clear hK K
    try simp only [Act.put, List.setIfInBounds_toArray, List.set_cons_zero, List.set_cons_succ]
    refine Sofar.done (by kernel_rfl) ?_
    go_wp2_with fail
    go_returns
    have hV6 : VB (W5.drew.setCell ⟨x, 5, none⟩ (.slice ha C3.Hp.length hc)) x C3.k C3.nv C3.mv C3.tv C3.pv C3.hv := by
      have := (hC3.vb.below ((Below.refl _ _).drew)).set5 (.slice ha C3.Hp.length hc)
      rw [e5'.out]
      exact this
    have hO6 : Only (Part x C3 5) W5 (W5.drew.setCell ⟨x, 5, none⟩ (.slice ha C3.Hp.length hc)) := Only.setCell ((Only.refl _ _).drew) (fun _ => .inl rfl) _
    have ho6 : (W5.drew.setCell ⟨x, 5, none⟩ (.slice ha C3.Hp.length hc)).ownsRow base 2 1 C3.hv C3.Hp.length (i64s C3.Hp) := own_set (own_below hC3.o5 ((Below.refl _ _).drew)) _ (fun e => by have := hC3.ap 5 0 x e rfl; cases this)
    refine ⟨rfl, C3, hC3.heap hbW5 hV6 ho6 (Moved.refl _ _) hO6, r1.out, r2.out, r3.out, r4.out, by rw [r5.out]; simp, foot_on hO5 hK5 (hO6.mono (fun j _ h => part_foot h)), hK5⟩
  · obtain ⟨gp, op, rfl, -⟩ := hp5.num 0 (by omega)
    have hop : W5.ownsRow base 2 1 (.slice ha C3.Hp.length hc) C3.Hp.length (i64s C3.Hp) := by rw [← e5'.out]; exact hC3.o5
    refine step_append_lies _ (by rfl) (.tmp 29) (.tmp 31) 37 (by rfl) base 2 i0 (.int .i64 0) 1 8 Tryd.underlying37 hi0 hz0 hz1 hz2 rfl (by omega) (.slice ha C3.Hp.length hc) C3.Hp.length (i64s C3.Hp) (by rfl) (own_below hop ((Below.refl _ _).drew)) ⟨gp, op, none⟩ l c (i64s z) (by rfl) (by simp [i64s, hz]) (path_news hp5) (by simp [i64s, Value.oneCell']) (by omega) (by unfold maxLen; omega) (by omega) (by simp; omega) W5.heap.size (by simp) ?_
    intro gh ch w6 ho6 hg6 hat6 hlt6
    obtain ⟨C4, hC4, s1, s2, s3, s4, s5, hO6, hK6, hV6, hB6⟩ := heap_step hC3 e5'.out rfl hB5 hy3 hbW5 hz hg6 hat6 ho6
    have hHeld6 : w6.cell? ⟨x, 5, none⟩ = some (.slice ha C3.Hp.length hc) ∧ w6.cell? ⟨w.heap.size, 4, none⟩ = some (.slice (some ⟨gp, op, none⟩) l c) := ⟨by have := hV6.c5; rw [e5'.out] at this; exact this, hB6.c4⟩
    have fr6 := hV6.fr 5
    refine hK.out _ _ (fun _ => hHeld6) ?_
    clear hK K
    try simp only [Act.put, List.setIfInBounds_toArray, List.set_cons_zero, List.set_cons_succ]
    refine Sofar.step (i := 8) (by kernel_rfl) rfl (fun K hK => ?_)
    go_simp
    refine hK.out _ _ (fun _ => hHeld6) ?_
    clear hK K
    try simp only [Act.put, List.setIfInBounds_toArray, List.set_cons_zero, List.set_cons_succ]
    refine Sofar.step (i := 9) (by kernel_rfl) rfl (fun K hK => ?_)
    go_simp
    refine hK.out _ _ (fun _ => hHeld6) ?_
    clear hK K
    try simp only [Act.put, List.setIfInBounds_toArray, List.set_cons_zero, List.set_cons_succ]
    obtain ⟨f5, f6⟩ := hHeld6
    refine Sofar.step (i := 10) (by kernel_rfl) rfl (fun K hK => ?_)
    go_simp
    refine hK.out _ _ (fun h => absurd rfl h) ?_
    clear hK K
    try simp only [Act.put, List.setIfInBounds_toArray, List.set_cons_zero, List.set_cons_succ]
    refine Sofar.done (by kernel_rfl) ?_
    go_wp2_with fail
    go_returns
    exact ⟨rfl, C4, hC4, s1.trans r1.out, s2.trans r2.out, s3.trans r3.out, s4.trans r4.out, by rw [s5, r5.out], foot_on hO5 hK5 hO6, Kin.trans hK5 hK6 hO5.size⟩
end Go.Proofs.YtomhgaihmdjdbaaDoor
