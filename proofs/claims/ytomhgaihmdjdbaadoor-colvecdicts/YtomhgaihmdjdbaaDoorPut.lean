/-
  A value is put behind.
-/
import Derived.Test.YtomhgaihmdjdbaaDoorCol
import Derived.Test.YtomhgaihmdjdbaaDoorSofar
import Derived.Deep.RegionWith
import Derived.Deep.DeepMust
import Derived.Deep.AppendLies
import Derived.Deep.RegionLaw
namespace Go.Proofs.YtomhgaihmdjdbaaDoor
open Go.RowKit
set_option linter.unusedSimpArgs false
set_option linter.unusedVariables false

/-- What 'number' answers, and what becomes of the column's dictionary. -/
def NumOK (base x : Nat) (C : Col) (k : Int) (b : Bool) (n : Int) (s : ByteArray) (p : Option Addr) (l c : Nat) (r : Int) (X' : List ByteArray) : Prop :=
  ∀ (W : World) (D : Col), D.k = C.k → D.Hp = C.Hp → D.X = C.X → base ≤ W.heap.size → ColAt W base x D → Calls Tryd.prog 54 #[.pointer (some ⟨x, 0, none⟩), .agg #[.int .i64 k, .bool b, .int .i64 n, .string s, .slice p l c]] W fun e w' => ∃ tv' pv', e = .returned (.int .i64 r) ∧ ColAt w' base x { D with tv := tv', pv := pv', X := X' } ∧ Only (Foot x D) W w' ∧ Kin W x D { D with tv := tv', pv := pv', X := X' }
theorem held_of {w : World} {base x y : Nat} {C : Col} {k : Int} {b : Bool} {n : Int} {s : ByteArray} {p : Option Addr} {l c : Nat} {ma ha : Option Addr} {mn mc hn hc : Nat} (h : ColAt w base x C) (e2 : C.mv = .slice ma mn mc) (e5 : C.hv = .slice ha hn hc) (hB : BoxAt w y k b n s p l c) :
    w.cell? ⟨x, 2, none⟩ = some (.slice ma mn mc) ∧ w.cell? ⟨x, 5, none⟩ = some (.slice ha hn hc) ∧ w.cell? ⟨y, 0, none⟩ = some (.int .i64 k) ∧ w.cell? ⟨y, 1, none⟩ = some (.bool b) ∧ w.cell? ⟨y, 2, none⟩ = some (.int .i64 n) ∧ w.cell? ⟨y, 3, none⟩ = some (.string s) ∧ w.cell? ⟨y, 4, none⟩ = some (.slice p l c) :=
  ⟨e2 ▸ h.vb.c2, e5 ▸ h.vb.c5, hB.c0, hB.c1, hB.c2, hB.c3, hB.c4⟩

theorem kin_not {w : World} {x : Nat} {C C' : Col} (h : Kin w x C C') {y : Nat} (hy : y < w.heap.size) (hf : Foot x C' y) : Foot x C y := by
  rcases h y hf with e | e
  · exact e
  · omega
/-- Behind an append to the numbers, and the store of what it answers. -/
theorem num_step {w1 w4 : World} {base x y : Nat} {C2 : Col} {ma : Option Addr} {mn mc gm cm : Nat} {r : Int} {k : Int} {b : Bool} {n : Int} {s : ByteArray} {p : Option Addr} {l c : Nat} (hC2 : ColAt w1 base x C2) (e2 : C2.mv = .slice ma mn mc) (hmn : mn = C2.M.length) (hB : BoxAt w1 y k b n s p l c) (hyF : ¬ Foot x C2 y) (hb : base ≤ w1.heap.size)
    (hg : (w1.alloc (.cells #[.int .i64 r] 2)).grownBy w4 (Value.slice ma mn mc).ownBlock) (hat : (Value.slice ma mn mc).ownBlock = some gm ∨ gm = w1.heap.size + 1) (ho : w4.ownsRow base 2 1 (.slice (some ⟨gm, 0, none⟩) (mn + 1) cm) (mn + 1) (i64s C2.M ++ [.int .i64 r])) :
    ∃ W5 C3, W5 = w4.setCell ⟨x, 2, none⟩ (.slice (some ⟨gm, 0, none⟩) (mn + 1) cm) ∧ ColAt W5 base x C3 ∧ C3.mv = .slice (some ⟨gm, 0, none⟩) (mn + 1) cm ∧ C3.k = C2.k ∧ C3.L = C2.L ∧ C3.M = C2.M ++ [r] ∧ C3.X = C2.X ∧ C3.Hp = C2.Hp ∧ C3.hv = C2.hv ∧ Only (Foot x C2) w1 W5 ∧ Kin w1 x C2 C3 ∧ VB w4 x C2.k C2.nv C2.mv C2.tv C2.pv C2.hv ∧ BoxAt w4 y k b n s p l c ∧ (∀ j, w4.frozen? ⟨x, j, none⟩ = false) := by
  subst hmn
  have hnx : (Value.slice ma C2.M.length mc).ownBlock ≠ some x := fun e => by
    have := hC2.ap 2 0 x (by show C2.mv.ownBlock = some x; rw [e2]; exact e) rfl
    cases this
  have hV4 : VB w4 x C2.k C2.nv C2.mv C2.tv C2.pv C2.hv := (hC2.vb.below (below_new _ _)).grown hg hnx
  have hO4 : Only (Part x C2 2) w1 w4 := Only.grown ((Only.refl _ w1).alloc _) hg (fun j e _ => .inr (by show C2.mv.ownBlock = some j; rw [e2]; exact e))
  have hO5 : Only (Part x C2 2) w1 (w4.setCell ⟨x, 2, none⟩ (.slice (some ⟨gm, 0, none⟩) (C2.M.length + 1) cm)) := hO4.setCell (fun _ => .inl rfl) _
  have hMv : Moved w1 C2.mv (.slice (some ⟨gm, 0, none⟩) (C2.M.length + 1) cm) := by
    rcases hat with e | e
    · left; rw [e2, e]; rfl
    · exact .inr ⟨gm, by omega, rfl⟩
  have hne : (Value.slice (some ⟨gm, 0, none⟩) (C2.M.length + 1) cm).ownBlock ≠ some x := hMv.ne hC2.vb.lt (by rw [e2]; exact hnx)
  refine ⟨_, { C2 with mv := .slice (some ⟨gm, 0, none⟩) (C2.M.length + 1) cm, M := C2.M ++ [r] }, rfl, ?_, rfl, rfl, rfl, rfl, rfl, rfl, rfl, hO5.mono (fun j _ h => part_foot h), kin_nums hMv, hV4, ?_, hV4.fr⟩
  · refine hC2.nums hb (hV4.set2 _) ?_ hMv hO5
    have := own_set ho (p := ⟨x, 2, none⟩) (.slice (some ⟨gm, 0, none⟩) (C2.M.length + 1) cm) hne
    simpa [i64s] using this
  · exact hB.only hO4 (fun h => hyF (part_foot h))
theorem own_cap {w : World} {base : Nat} {n m cap : Nat} {a : Option Addr} {xs : List Value} {e : TypeId} {size : Nat} (h : w.ownsRow base e size (.slice a n cap) m xs) : n ≤ cap := by
  obtain ⟨h1, ⟨h2, h3⟩ | ⟨g, cap', cur, e1, e2, e3, e4, e5⟩⟩ := h
  · cases h2; omega
  · cases e1; exact e4
theorem app0 (ty : TypeId) (w : World) (a : Option Addr) (n cap : Nat) (p : Option Addr) (c : Nat) (hle : n ≤ cap) : (Builtin.append_ #[37, 37] ty #[.slice a n cap, .slice p 0 c]).run Tryd.prog w = .ok (.slice a n cap) w := by
  obtain ⟨i, hi, hz0, hz1, hz2⟩ := info_parts info2
  cases a <;> cases p <;> simp [Builtin.append_, run_underlying Tryd.underlying37, sizeOf, typeInfo, hi, hle, Builtin.lenOf, Builtin.firstCells, storeCells, loadCells, loadCellsFrom]
/-- A step of a region that draws: nothing is appended. -/
theorem step_append_zero {w : World} {ops : Array Oper} {o : Oper} {a : Act} {K : Act → World → Prop} {Q : Exit → Act → World → Prop} {E : Prop} (hgd : o.guard = none) (s x : Operand)
    (ho : o.op = .call { callee := .builtin .append, args := #[s, x], argTypes := #[37, 37] }) (b : Option Addr) (n cap : Nat) (p : Option Addr) (c : Nat) (hle : n ≤ cap) (hs : a.eval s = .slice b n cap) (hx : a.eval x = .slice p 0 c) (h : K (a.put o.dst (.slice b n cap)) w) :
    if Region.wanted o (yielded ops a.tmps) = true then Oper.wp Tryd.prog o a w K Q else E := by
  have hw : Region.wanted o (yielded ops a.tmps) = true := by simp [Region.wanted, hgd]
  rw [if_pos hw]
  unfold Oper.wp execOp
  simp only [ho, resolve, invoke, builtin, Sem.run_bind, Sem.run_pure, Result.andThen_ok, List.map_toArray, List.map_cons, List.map_nil, hs, hx, app0 _ w b n cap p c hle]
  exact h
theorem path_news {w : World} {g off : Nat} {z : List Int} (h : PathAt w (some ⟨g, off, none⟩) z) : ∀ j u, (i64s z)[j]? = some u → w.cell? ((⟨g, off, none⟩ : Addr).add j) = some u := by
  intro j u hj
  have hl : j < z.length := by
    have := (List.getElem?_eq_some_iff.1 hj).1
    simpa [i64s] using this
  obtain ⟨b, o, e, hc⟩ := h.num j hl
  cases e
  rw [add_plain, hc]
  simp [i64s, hl] at hj
  simp [List.getD, hl, hj]
/-- Behind an append to the heap, and the store of what it answers. -/
theorem heap_step {w1 w4 : World} {base x y : Nat} {C2 : Col} {ma : Option Addr} {mn mc gm cm : Nat} {z : List Int} {k : Int} {b : Bool} {n : Int} {s : ByteArray} {p : Option Addr} {l c : Nat} (hC2 : ColAt w1 base x C2) (e2 : C2.hv = .slice ma mn mc) (hmn : mn = C2.Hp.length) (hB : BoxAt w1 y k b n s p l c) (hyF : ¬ Foot x C2 y) (hb : base ≤ w1.heap.size) (hz : z.length = l)
    (hg : w1.drew.grownBy w4 (Value.slice ma mn mc).ownBlock) (hat : (Value.slice ma mn mc).ownBlock = some gm ∨ gm = w1.heap.size) (ho : w4.ownsRow base 2 1 (.slice (some ⟨gm, 0, none⟩) (mn + l) cm) (mn + l) (i64s C2.Hp ++ i64s z)) :
    ∃ C3, ColAt (w4.setCell ⟨x, 5, none⟩ (.slice (some ⟨gm, 0, none⟩) (mn + l) cm)) base x C3 ∧ C3.k = C2.k ∧ C3.L = C2.L ∧ C3.M = C2.M ∧ C3.X = C2.X ∧ C3.Hp = C2.Hp ++ z ∧ Only (Foot x C2) w1 (w4.setCell ⟨x, 5, none⟩ (.slice (some ⟨gm, 0, none⟩) (mn + l) cm)) ∧ Kin w1 x C2 C3 ∧ VB w4 x C2.k C2.nv C2.mv C2.tv C2.pv C2.hv ∧ BoxAt w4 y k b n s p l c := by
  subst hmn
  have hnx : (Value.slice ma C2.Hp.length mc).ownBlock ≠ some x := fun e => by
    have := hC2.ap 5 0 x (by show C2.hv.ownBlock = some x; rw [e2]; exact e) rfl
    cases this
  have hV4 : VB w4 x C2.k C2.nv C2.mv C2.tv C2.pv C2.hv := (hC2.vb.below ((Below.refl _ _).drew)).grown hg hnx
  have hO4 : Only (Part x C2 5) w1 w4 := Only.grown ((Only.refl _ w1).drew) hg (fun j e _ => .inr (by show C2.hv.ownBlock = some j; rw [e2]; exact e))
  have hO5 : Only (Part x C2 5) w1 (w4.setCell ⟨x, 5, none⟩ (.slice (some ⟨gm, 0, none⟩) (C2.Hp.length + l) cm)) := hO4.setCell (fun _ => .inl rfl) _
  have hMv : Moved w1 C2.hv (.slice (some ⟨gm, 0, none⟩) (C2.Hp.length + l) cm) := by
    rcases hat with e | e
    · left; rw [e2, e]; rfl
    · exact .inr ⟨gm, by omega, rfl⟩
  have hne : (Value.slice (some ⟨gm, 0, none⟩) (C2.Hp.length + l) cm).ownBlock ≠ some x := hMv.ne hC2.vb.lt (by rw [e2]; exact hnx)
  refine ⟨{ C2 with hv := .slice (some ⟨gm, 0, none⟩) (C2.Hp.length + l) cm, Hp := C2.Hp ++ z }, ?_, rfl, rfl, rfl, rfl, rfl, hO5.mono (fun j _ h => part_foot h), kin_heap hMv, hV4, ?_⟩
  · refine hC2.heap hb (hV4.set5 _) ?_ hMv hO5
    have := own_set ho (p := ⟨x, 5, none⟩) (.slice (some ⟨gm, 0, none⟩) (C2.Hp.length + l) cm) hne
    simpa [i64s, hz] using this
  · exact hB.only hO4 (fun h => hyF (part_foot h))
theorem box_set {w : World} {x y j : Nat} {v : Value} {k : Int} {b : Bool} {n : Int} {s : ByteArray} {p : Option Addr} {l c : Nat} (hB : BoxAt w y k b n s p l c) (hne : y ≠ x) : BoxAt (w.setCell ⟨x, j, none⟩ v) y k b n s p l c :=
  hB.only (S := fun k => k = x) (Only.setCell (p := ⟨x, j, none⟩) (Only.refl (fun k => k = x) w) (fun _ => rfl) v) hne
theorem path_only {S : Nat → Prop} {w w' : World} {a : Option Addr} {zs : List Int} (h : PathAt w a zs) (hO : Only S w w') (hn : ∀ g off, a = some ⟨g, off, none⟩ → zs ≠ [] → ¬ S g) : PathAt w' a zs := by
  rcases h with h | ⟨g, off, e, h⟩
  · exact .inl h
  · by_cases h0 : zs = []
    · exact .inl h0
    · have hl : 0 < zs.length := by cases zs; exact absurd rfl h0; simp
      have hg : g < w.heap.size := World.block_lt_of_cell? w _ (h 0 hl)
      exact .inr ⟨g, off, e, fun i hi => (World.cell?_of_block (hO.block g hg (hn g off e h0))).trans (h i hi)⟩
theorem held_of4 {w : World} {x y : Nat} {kc : Int} {nv mv tv pv hv : Value} {k : Int} {b : Bool} {n : Int} {s : ByteArray} {p : Option Addr} {l c : Nat} {ma ha : Option Addr} {mn mc hn hc : Nat} (h : VB w x kc nv mv tv pv hv) (e2 : mv = .slice ma mn mc) (e5 : hv = .slice ha hn hc) (hB : BoxAt w y k b n s p l c) :
    w.cell? ⟨x, 2, none⟩ = some (.slice ma mn mc) ∧ w.cell? ⟨x, 5, none⟩ = some (.slice ha hn hc) ∧ w.cell? ⟨y, 0, none⟩ = some (.int .i64 k) ∧ w.cell? ⟨y, 1, none⟩ = some (.bool b) ∧ w.cell? ⟨y, 2, none⟩ = some (.int .i64 n) ∧ w.cell? ⟨y, 3, none⟩ = some (.string s) ∧ w.cell? ⟨y, 4, none⟩ = some (.slice p l c) :=
  ⟨e2 ▸ h.c2, e5 ▸ h.c5, hB.c0, hB.c1, hB.c2, hB.c3, hB.c4⟩

set_option maxRecDepth 100000 in
set_option maxHeartbeats 4000000 in
theorem put_some (base x : Nat) (C : Col) (k : Int) (b : Bool) (n : Int) (s : ByteArray) (p : Option Addr) (l c : Nat) (z : List Int) (r : Int) (X' : List ByteArray) (w : World) (hC : ColAt w base x C) (hk : k ≠ 0) (hN : NumOK base x C k b n s p l c r X') (hb : base ≤ w.heap.size) (hz : z.length = l) (hp : PathAt w p z) (hpf : ∀ g off, p = some ⟨g, off, none⟩ → z ≠ [] → ¬ Foot x C g) (hM : C.M.length < 10000000000000) (hL : C.L.length < 10000000000000) (hH : C.Hp.length + l < 10000000000000) :
    Calls Tryd.prog 38 #[.pointer (some ⟨x, 0, none⟩), .agg #[.int .i64 k, .bool b, .int .i64 n, .string s, .slice p l c]] w fun e w' => e = .returned (.tuple #[]) ∧ ∃ C', ColAt w' base x C' ∧ C'.k = C.k ∧ C'.L = C.L ∧ C'.M = C.M ++ [r] ∧ C'.X = X' ∧ C'.Hp = C.Hp ++ z ∧ Only (Foot x C) w w' ∧ Kin w x C C' := by
  obtain ⟨i0, hi0, hz0, hz1, hz2⟩ := info_parts info2
  have hbx := BoxAt.new w k b n s p l c rfl
  have hC0 := hC.below (below_new w (.cells #[.int .i64 k, .bool b, .int .i64 n, .string s, .slice p l c] 39))
  have hO0 : Only (Foot x C) w (w.alloc (.cells #[.int .i64 k, .bool b, .int .i64 n, .string s, .slice p l c] 39)) := (Only.refl _ w).alloc _
  have hk' : ¬ (k == 0) = true := by simpa using hk
  have D := hbx
  obtain ⟨c0, -, -, -, -, -⟩ := D
  have hnf : ¬ Foot x C w.heap.size := fun ⟨i, hi⟩ => by have := hC.lt hi; omega
  have HS : Hid (∃ C1, ColAt (w.alloc (.cells #[.int .i64 k, .bool b, .int .i64 n, .string s, .slice p l c] 39)) base x C1 ∧ C1.k = C.k ∧ C1.L = C.L ∧ C1.M = C.M ∧ C1.X = C.X ∧ C1.Hp = C.Hp ∧ Only (Foot x C) w (w.alloc (.cells #[.int .i64 k, .bool b, .int .i64 n, .string s, .slice p l c] 39)) ∧ Kin w x C C1 ∧ BoxAt (w.alloc (.cells #[.int .i64 k, .bool b, .int .i64 n, .string s, .slice p l c] 39)) w.heap.size k b n s p l c ∧ ¬ Foot x C1 w.heap.size) := ⟨C, hC0, rfl, rfl, rfl, rfl, rfl, hO0, Kin.refl _ _ _, hbx, hnf⟩
  go_enter Tryd.func38, Tryd.ntmps38
  go_wp2_with fail
  generalize hW0 : w.alloc (.cells #[.int .i64 k, .bool b, .int .i64 n, .string s, .slice p l c] 39) = W0 at *
  clear hW0 c0
  obtain ⟨C1, hC1, k1, k2, k3, k4, k5, hO1, hK1, hB, hyF⟩ := HS.out
  clear HS
  clear hC hC0 hO0 hbx
  obtain ⟨ma, mc, e2⟩ := own_slice hC1.o2
  obtain ⟨ha, hc, e5⟩ := own_slice hC1.o5
  replace e2 : Hid _ := e2
  replace e5 : Hid _ := e5
  have hM1 : C1.M.length < 10000000000000 := by rw [k3]; exact hM
  have hH1 : C1.Hp.length + l < 10000000000000 := by rw [k5]; exact hH
  replace k1 : Hid _ := k1
  replace k2 : Hid _ := k2
  replace k3 : Hid _ := k3
  replace k4 : Hid _ := k4
  replace k5 : Hid _ := k5
  have hbW : base ≤ W0.heap.size := Nat.le_trans hb hO1.size
  have hN1 : Hid _ := hN W0.drew C1 k1.out k5.out k4.out hbW (hC1.below ((Below.refl _ _).drew))
  have hHeld : W0.drew.cell? ⟨x, 2, none⟩ = some (.slice ma C1.M.length mc) ∧ W0.drew.cell? ⟨x, 5, none⟩ = some (.slice ha C1.Hp.length hc) ∧ W0.drew.cell? ⟨w.heap.size, 0, none⟩ = some (.int .i64 k) ∧ W0.drew.cell? ⟨w.heap.size, 1, none⟩ = some (.bool b) ∧ W0.drew.cell? ⟨w.heap.size, 2, none⟩ = some (.int .i64 n) ∧ W0.drew.cell? ⟨w.heap.size, 3, none⟩ = some (.string s) ∧ W0.drew.cell? ⟨w.heap.size, 4, none⟩ = some (.slice p l c) := held_of (hC1.below ((Below.refl _ _).drew)) e2.out e5.out (hB.below ((Below.refl _ _).drew))
  refine wp_sofar 12 (fun w' => w'.cell? ⟨x, 2, none⟩ = some (.slice ma C1.M.length mc) ∧ w'.cell? ⟨x, 5, none⟩ = some (.slice ha C1.Hp.length hc) ∧ w'.cell? ⟨w.heap.size, 0, none⟩ = some (.int .i64 k) ∧ w'.cell? ⟨w.heap.size, 1, none⟩ = some (.bool b) ∧ w'.cell? ⟨w.heap.size, 2, none⟩ = some (.int .i64 n) ∧ w'.cell? ⟨w.heap.size, 3, none⟩ = some (.string s) ∧ w'.cell? ⟨w.heap.size, 4, none⟩ = some (.slice p l c)) (by kernel_rfl) ?_
  refine Sofar.take (i := 0) (v := ?_) rfl (by kernel_rfl) (by kernel_rfl) (by kernel_rfl) (by kernel_rfl) (fun _ _ _ h => h) (Or.inl ⟨by rfl, ?_⟩) hHeld ?_
  rotate_left
  · intro w hSw
    obtain ⟨e2, e5, d0, d1, d2, d3, d4⟩ := hSw
    go_simp
    try with_reducible rfl
  simp only [Act.put, List.setIfInBounds_toArray, List.set_cons_zero, List.set_cons_succ]
  refine Sofar.take (i := 1) (v := ?_) rfl (by kernel_rfl) (by kernel_rfl) (by kernel_rfl) (by kernel_rfl) (fun _ _ _ h => h) (Or.inl ⟨by rfl, ?_⟩) hHeld ?_
  rotate_left
  · intro w hSw
    obtain ⟨e2, e5, d0, d1, d2, d3, d4⟩ := hSw
    go_simp
    try with_reducible rfl
  simp only [Act.put, List.setIfInBounds_toArray, List.set_cons_zero, List.set_cons_succ]
  refine Sofar.take (i := 2) (v := ?_) rfl (by kernel_rfl) (by kernel_rfl) (by kernel_rfl) (by kernel_rfl) (fun _ _ _ h => h) (Or.inl ⟨by rfl, ?_⟩) hHeld ?_
  rotate_left
  · intro w hSw
    obtain ⟨e2, e5, d0, d1, d2, d3, d4⟩ := hSw
    go_simp
    try with_reducible rfl
  simp only [Act.put, List.setIfInBounds_toArray, List.set_cons_zero, List.set_cons_succ]
  refine Sofar.take (i := 3) (v := ?_) rfl (by kernel_rfl) (by kernel_rfl) (by kernel_rfl) (by kernel_rfl) (fun _ _ _ h => h) (Or.inl ⟨by rfl, ?_⟩) hHeld ?_
  rotate_left
  · intro w hSw
    obtain ⟨e2, e5, d0, d1, d2, d3, d4⟩ := hSw
    go_simp
    try with_reducible rfl
  simp only [Act.put, List.setIfInBounds_toArray, List.set_cons_zero, List.set_cons_succ]
  refine Sofar.take (i := 4) (v := ?_) rfl (by kernel_rfl) (by kernel_rfl) (by kernel_rfl) (by kernel_rfl) (fun _ _ _ h => h) (Or.inl ⟨by rfl, ?_⟩) hHeld ?_
  rotate_left
  · intro w hSw
    obtain ⟨e2, e5, d0, d1, d2, d3, d4⟩ := hSw
    go_simp
    try with_reducible rfl
  simp only [Act.put, List.setIfInBounds_toArray, List.set_cons_zero, List.set_cons_succ]
  refine Sofar.take (i := 5) (v := ?_) rfl (by kernel_rfl) (by kernel_rfl) (by kernel_rfl) (by kernel_rfl) (fun _ _ _ h => h) (Or.inl ⟨by rfl, ?_⟩) hHeld ?_
  rotate_left
  · intro w hSw
    obtain ⟨e2, e5, d0, d1, d2, d3, d4⟩ := hSw
    go_simp
    try with_reducible rfl
  simp only [Act.put, List.setIfInBounds_toArray, List.set_cons_zero, List.set_cons_succ]
  refine Sofar.take (i := 6) (v := ?_) rfl (by kernel_rfl) (by kernel_rfl) (by kernel_rfl) (by kernel_rfl) (fun _ _ _ h => h) (Or.inl ⟨by rfl, ?_⟩) hHeld ?_
  rotate_left
  · intro w hSw
    obtain ⟨e2, e5, d0, d1, d2, d3, d4⟩ := hSw
    go_simp
    try with_reducible rfl
  simp only [Act.put, List.setIfInBounds_toArray, List.set_cons_zero, List.set_cons_succ]
  refine Sofar.step (i := 7) (by kernel_rfl) rfl (fun K hK => ?_)
  go_simp
  refine Calls.mono hN1.out ?_
  rintro e w1 ⟨tv', pv', rfl, hC2, hO2, hK2⟩
  replace hO2 := Only.undrew hO2
  have hB2 := hB.only hO2 hyF
  have hHeld2 := held_of hC2 e2.out e5.out hB2
  refine hK.out _ _ (fun _ => hHeld2) ?_
  clear hK K
  try simp only [Act.put, List.setIfInBounds_toArray, List.set_cons_zero, List.set_cons_succ]
  refine Sofar.step (i := 8) (by kernel_rfl) rfl (fun K hK => ?_)
  go_simp
  refine hK.out _ _ (fun _ => held_of (hC2.below (below_new _ _)) e2.out e5.out (hB2.alloc _)) ?_
  clear hK K
  try simp only [Act.put, List.setIfInBounds_toArray, List.set_cons_zero, List.set_cons_succ]
  refine Sofar.step (i := 9) (by kernel_rfl) rfl (fun K hK => ?_)
  have hom : w1.ownsRow base 2 1 (.slice ma C1.M.length mc) C1.M.length (i64s C1.M) := by rw [← e2.out]; exact hC2.o2
  refine step_append_lies _ (by rfl) (.tmp 17) (.tmp 21) 37 (by rfl) base 2 i0 (.int .i64 0) 1 8 Tryd.underlying37 hi0 hz0 hz1 hz2 rfl (by omega) (.slice ma C1.M.length mc) C1.M.length (i64s C1.M) (by rfl) (World.ownsRow.alloc hom _) ⟨w1.heap.size, 0, none⟩ 1 1 [.int .i64 r] (by rfl) (by rfl) (cell_one_new _ _ _) (by simp [Value.oneCell']) (by omega) (by unfold maxLen; omega) (by omega) (by have := hO2.size; simp; omega) (w1.heap.size + 1) (by simp) ?_
  intro gm cm w4 ho4 hg4 hat4 hlt4
  obtain ⟨W5, C3, hW5, hC3, hm3, q1, q2, q3, q4, q5, q6, hO3, hK3, hS4, hB4, fr4⟩ := num_step hC2 e2.out rfl hB2 (fun h => hyF (kin_not hK2 hB.lt h)) (Nat.le_trans hbW hO2.size) hg4 hat4 ho4
  have hHeld4 := held_of4 hS4 e2.out e5.out hB4
  refine hK.out _ _ (fun _ => hHeld4) ?_
  clear hK K
  try simp only [Act.put, List.setIfInBounds_toArray, List.set_cons_zero, List.set_cons_succ]
  refine Sofar.step (i := 10) (by kernel_rfl) rfl (fun K hK => ?_)
  go_simp
  refine hK.out _ _ (fun _ => hHeld4) ?_
  clear hK K
  try simp only [Act.put, List.setIfInBounds_toArray, List.set_cons_zero, List.set_cons_succ]
  refine Sofar.step (i := 11) (by kernel_rfl) rfl (fun K hK => ?_)
  go_simp
  refine hK.out _ _ (fun _ => hHeld4) ?_
  clear hK K
  try simp only [Act.put, List.setIfInBounds_toArray, List.set_cons_zero, List.set_cons_succ]
  obtain ⟨f2, f5, f6⟩ := hHeld4
  refine Sofar.step (i := 12) (by kernel_rfl) rfl (fun K hK => ?_)
  go_simp
  refine hK.out _ _ (fun h => absurd rfl h) ?_
  clear hK K
  try simp only [Act.put, List.setIfInBounds_toArray, List.set_cons_zero, List.set_cons_succ]
  refine Sofar.done (by kernel_rfl) ?_
  rw [← hW5]
  have e5' : C3.hv = .slice ha C3.Hp.length hc := by
    have : C3.hv = C1.hv := q6
    rw [this, e5.out, show C3.Hp = C1.Hp from q5]
  replace e5' : Hid _ := e5'
  have hO5 : Only (Foot x C) w W5 := foot_on (foot_on hO1 hK1 hO2) (hK1.trans hK2 hO1.size) hO3
  have hK5 : Kin w x C C3 := Kin.trans (Kin.trans hK1 hK2 hO1.size) hK3 (Nat.le_trans hO1.size hO2.size)
  have hy3 : ¬ Foot x C3 w.heap.size := fun h => hyF (kin_not hK2 hB.lt (kin_not hK3 hB2.lt h))
  have hB5 : BoxAt W5 w.heap.size k b n s p l c := by rw [hW5]; exact box_set hB4 (fun e => hyF ⟨0, by rw [e]; rfl⟩)
  have r1 : Hid (C3.k = C.k) := (show C3.k = C1.k from q1).trans k1.out
  have r2 : Hid (C3.L = C.L) := (show C3.L = C1.L from q2).trans k2.out
  have r3 : C3.M = C.M ++ [r] := by rw [show C3.M = C1.M ++ [r] from q3, k3.out]
  replace r3 : Hid _ := r3
  have r4 : Hid (C3.X = X') := q4
  have r5 : Hid (C3.Hp = C.Hp) := (show C3.Hp = C1.Hp from q5).trans k5.out
  have hH3 : C3.Hp.length + l < 10000000000000 := by rw [r5.out]; exact hH
  have hbW5 : base ≤ W5.heap.size := Nat.le_trans hb hO5.size
  have hp5 : PathAt W5 p z := path_only hp hO5 hpf
  clear hHeld hHeld2 f2 f5 f6 hS4 hB4 fr4 ho4 hg4 hat4 hlt4 hom hB2 hC2 hO2 hK2 hO3 hK3 q1 q2 q3 q4 q5 q6 hm3 hN1 hC1 hO1 hK1 hB k1 k2 k3 k4 k5 hbW hW5 e2 e5 hM1 hH1 hyF hp
  go_wp2_with fail
  have hHeld : W5.drew.cell? ⟨x, 5, none⟩ = some (.slice ha C3.Hp.length hc) ∧ W5.drew.cell? ⟨w.heap.size, 4, none⟩ = some (.slice p l c) := ⟨by have := (hC3.below ((Below.refl _ _).drew)).vb.c5; rw [e5'.out] at this; exact this, (hB5.below ((Below.refl _ _).drew)).c4⟩
  refine wp_sofar 10 (fun w' => w'.cell? ⟨x, 5, none⟩ = some (.slice ha C3.Hp.length hc) ∧ w'.cell? ⟨w.heap.size, 4, none⟩ = some (.slice p l c)) (by kernel_rfl) ?_
  refine Sofar.take (i := 0) (v := ?_) rfl (by kernel_rfl) (by kernel_rfl) (by kernel_rfl) (by kernel_rfl) (fun _ _ _ h => h) (Or.inl ⟨by rfl, ?_⟩) hHeld ?_
  rotate_left
  · intro w hSw
    obtain ⟨e5, d4⟩ := hSw
    go_simp
    try with_reducible rfl
  simp only [Act.put, List.setIfInBounds_toArray, List.set_cons_zero, List.set_cons_succ]
  refine Sofar.take (i := 1) (v := ?_) rfl (by kernel_rfl) (by kernel_rfl) (by kernel_rfl) (by kernel_rfl) (fun _ _ _ h => h) (Or.inl ⟨by rfl, ?_⟩) hHeld ?_
  rotate_left
  · intro w hSw
    obtain ⟨e5, d4⟩ := hSw
    go_simp
    try with_reducible rfl
  simp only [Act.put, List.setIfInBounds_toArray, List.set_cons_zero, List.set_cons_succ]
  refine Sofar.take (i := 2) (v := ?_) rfl (by kernel_rfl) (by kernel_rfl) (by kernel_rfl) (by kernel_rfl) (fun _ _ _ h => h) (Or.inl ⟨by rfl, ?_⟩) hHeld ?_
  rotate_left
  · intro w hSw
    obtain ⟨e5, d4⟩ := hSw
    go_simp
    try with_reducible rfl
  simp only [Act.put, List.setIfInBounds_toArray, List.set_cons_zero, List.set_cons_succ]
  refine Sofar.take (i := 3) (v := ?_) rfl (by kernel_rfl) (by kernel_rfl) (by kernel_rfl) (by kernel_rfl) (fun _ _ _ h => h) (Or.inl ⟨by rfl, ?_⟩) hHeld ?_
  rotate_left
  · intro w hSw
    obtain ⟨e5, d4⟩ := hSw
    go_simp
    try with_reducible rfl
  simp only [Act.put, List.setIfInBounds_toArray, List.set_cons_zero, List.set_cons_succ]
  refine Sofar.take (i := 4) (v := ?_) rfl (by kernel_rfl) (by kernel_rfl) (by kernel_rfl) (by kernel_rfl) (fun _ _ _ h => h) (Or.inl ⟨by rfl, ?_⟩) hHeld ?_
  rotate_left
  · intro w hSw
    obtain ⟨e5, d4⟩ := hSw
    go_simp
    try with_reducible rfl
  simp only [Act.put, List.setIfInBounds_toArray, List.set_cons_zero, List.set_cons_succ]
  refine Sofar.take (i := 5) (v := ?_) rfl (by kernel_rfl) (by kernel_rfl) (by kernel_rfl) (by kernel_rfl) (fun _ _ _ h => h) (Or.inl ⟨by rfl, ?_⟩) hHeld ?_
  rotate_left
  · intro w hSw
    obtain ⟨e5, d4⟩ := hSw
    go_simp
    try with_reducible rfl
  simp only [Act.put, List.setIfInBounds_toArray, List.set_cons_zero, List.set_cons_succ]
  refine Sofar.take (i := 6) (v := ?_) rfl (by kernel_rfl) (by kernel_rfl) (by kernel_rfl) (by kernel_rfl) (fun _ _ _ h => h) (Or.inl ⟨by rfl, ?_⟩) hHeld ?_
  rotate_left
  · intro w hSw
    obtain ⟨e5, d4⟩ := hSw
    go_simp
    try with_reducible rfl
  simp only [Act.put, List.setIfInBounds_toArray, List.set_cons_zero, List.set_cons_succ]
  refine Sofar.step (i := 7) (by kernel_rfl) rfl (fun K hK => ?_)
  have frx : W5.drew.frozen? ⟨x, 5, none⟩ = false := hC3.vb.fr 5
  by_cases hl : l = 0
  · subst hl
    obtain rfl : z = [] := by simpa using hz
    have hcap : C3.Hp.length ≤ hc := by have := hC3.o5; rw [e5'.out] at this; exact own_cap this
    refine step_append_zero (by rfl) (.tmp 29) (.tmp 31) (by rfl) ha C3.Hp.length hc p c hcap (by rfl) (by rfl) ?_
    refine hK.out _ _ (fun _ => hHeld) ?_
    clear hK K
    try simp only [Act.put, List.setIfInBounds_toArray, List.set_cons_zero, List.set_cons_succ]
    refine Sofar.step (i := 8) (by kernel_rfl) rfl (fun K hK => ?_)
    go_simp
    refine hK.out _ _ (fun _ => hHeld) ?_
    clear hK K
    try simp only [Act.put, List.setIfInBounds_toArray, List.set_cons_zero, List.set_cons_succ]
    refine Sofar.step (i := 9) (by kernel_rfl) rfl (fun K hK => ?_)
    go_simp
    refine hK.out _ _ (fun _ => hHeld) ?_
    clear hK K
    try simp only [Act.put, List.setIfInBounds_toArray, List.set_cons_zero, List.set_cons_succ]
    obtain ⟨f5, f6⟩ := hHeld
    refine Sofar.step (i := 10) (by kernel_rfl) rfl (fun K hK => ?_)
    go_simp
    refine hK.out _ _ (fun h => absurd rfl h) ?_
    clear hK K
    try simp only [Act.put, List.setIfInBounds_toArray, List.set_cons_zero, List.set_cons_succ]
    refine Sofar.done (by kernel_rfl) ?_
    go_wp2_with fail
    go_returns
    have hV6 : VB (W5.drew.setCell ⟨x, 5, none⟩ (.slice ha C3.Hp.length hc)) x C3.k C3.nv C3.mv C3.tv C3.pv C3.hv := by
      have := (hC3.vb.below ((Below.refl _ _).drew)).set5 (.slice ha C3.Hp.length hc)
      rw [e5'.out]
      exact this
    have hO6 : Only (Part x C3 5) W5 (W5.drew.setCell ⟨x, 5, none⟩ (.slice ha C3.Hp.length hc)) := Only.setCell ((Only.refl _ _).drew) (fun _ => .inl rfl) _
    have ho6 : (W5.drew.setCell ⟨x, 5, none⟩ (.slice ha C3.Hp.length hc)).ownsRow base 2 1 C3.hv C3.Hp.length (i64s C3.Hp) := own_set (own_below hC3.o5 ((Below.refl _ _).drew)) _ (fun e => by have := hC3.ap 5 0 x e rfl; cases this)
    refine ⟨rfl, C3, hC3.heap hbW5 hV6 ho6 (Moved.refl _ _) hO6, r1.out, r2.out, r3.out, r4.out, by rw [r5.out]; simp, foot_on hO5 hK5 (hO6.mono (fun j _ h => part_foot h)), hK5⟩
  · obtain ⟨gp, op, rfl, -⟩ := hp5.num 0 (by omega)
    have hop : W5.ownsRow base 2 1 (.slice ha C3.Hp.length hc) C3.Hp.length (i64s C3.Hp) := by rw [← e5'.out]; exact hC3.o5
    refine step_append_lies _ (by rfl) (.tmp 29) (.tmp 31) 37 (by rfl) base 2 i0 (.int .i64 0) 1 8 Tryd.underlying37 hi0 hz0 hz1 hz2 rfl (by omega) (.slice ha C3.Hp.length hc) C3.Hp.length (i64s C3.Hp) (by rfl) (own_below hop ((Below.refl _ _).drew)) ⟨gp, op, none⟩ l c (i64s z) (by rfl) (by simp [i64s, hz]) (path_news hp5) (by simp [i64s, Value.oneCell']) (by omega) (by unfold maxLen; omega) (by omega) (by simp; omega) W5.heap.size (by simp) ?_
    intro gh ch w6 ho6 hg6 hat6 hlt6
    obtain ⟨C4, hC4, s1, s2, s3, s4, s5, hO6, hK6, hV6, hB6⟩ := heap_step hC3 e5'.out rfl hB5 hy3 hbW5 hz hg6 hat6 ho6
    have hHeld6 : w6.cell? ⟨x, 5, none⟩ = some (.slice ha C3.Hp.length hc) ∧ w6.cell? ⟨w.heap.size, 4, none⟩ = some (.slice (some ⟨gp, op, none⟩) l c) := ⟨by have := hV6.c5; rw [e5'.out] at this; exact this, hB6.c4⟩
    have fr6 := hV6.fr 5
    refine hK.out _ _ (fun _ => hHeld6) ?_
    clear hK K
    try simp only [Act.put, List.setIfInBounds_toArray, List.set_cons_zero, List.set_cons_succ]
    refine Sofar.step (i := 8) (by kernel_rfl) rfl (fun K hK => ?_)
    go_simp
    refine hK.out _ _ (fun _ => hHeld6) ?_
    clear hK K
    try simp only [Act.put, List.setIfInBounds_toArray, List.set_cons_zero, List.set_cons_succ]
    refine Sofar.step (i := 9) (by kernel_rfl) rfl (fun K hK => ?_)
    go_simp
    refine hK.out _ _ (fun _ => hHeld6) ?_
    clear hK K
    try simp only [Act.put, List.setIfInBounds_toArray, List.set_cons_zero, List.set_cons_succ]
    obtain ⟨f5, f6⟩ := hHeld6
    refine Sofar.step (i := 10) (by kernel_rfl) rfl (fun K hK => ?_)
    go_simp
    refine hK.out _ _ (fun h => absurd rfl h) ?_
    clear hK K
    try simp only [Act.put, List.setIfInBounds_toArray, List.set_cons_zero, List.set_cons_succ]
    refine Sofar.done (by kernel_rfl) ?_
    go_wp2_with fail
    go_returns
    exact ⟨rfl, C4, hC4, s1.trans r1.out, s2.trans r2.out, s3.trans r3.out, s4.trans r4.out, by rw [s5, r5.out], foot_on hO5 hK5 hO6, Kin.trans hK5 hK6 hO5.size⟩
end Go.Proofs.YtomhgaihmdjdbaaDoor
