/-
  What RawgraphIDs keeps in memory; a row of edges, one of them turned.
-/
import Derived.Test.YtmioohbailhppaaDoorFst0
import Derived.Test.YtmioohbailhppaaDoorPur2
namespace Go.Proofs.YtmioohbailhppaaDoor
open Go.RowKit
set_option linter.unusedSimpArgs false
set_option linter.unusedVariables false

/-- What was handed in, boxed; a place; a graph with a record more. -/
structure GS (w0 wr : World) (s1 s2 s3 s4 : Value) (P M : Nat) (p q : Int) (t1 t2 t3 t4 : Value) : Prop where
  bel : Below w0.heap.size w0 wr
  r0 : wr.cell? ⟨w0.heap.size, 0, none⟩ = some s1
  r1 : wr.cell? ⟨w0.heap.size, 1, none⟩ = some s2
  r2 : wr.cell? ⟨w0.heap.size, 2, none⟩ = some s3
  r3 : wr.cell? ⟨w0.heap.size, 3, none⟩ = some s4
  p0 : wr.cell? ⟨P, 0, none⟩ = some (.int .i64 p)
  p1 : wr.cell? ⟨P, 1, none⟩ = some (.int .i64 q)
  mb : wr.heap[M]? = some (.cells #[t1, t2, t3, t4] 28)
  lP : w0.heap.size + 1 ≤ P
  lM : w0.heap.size + 1 ≤ M
  ne : P ≠ M
section
variable {w0 wr w' : World} {s1 s2 s3 s4 : Value} {P M : Nat} {p q : Int} {t1 t2 t3 t4 u1 u2 u3 u4 : Value}
theorem GS.lt (h : GS w0 wr s1 s2 s3 s4 P M p q t1 t2 t3 t4) : w0.heap.size < wr.heap.size := by
  have := World.block_lt_of_cell? _ _ h.r0
  exact this
theorem GS.only (h : GS w0 wr s1 s2 s3 s4 P M p q t1 t2 t3 t4) (hO : Only (fun k => k = M) wr w') (hm : w'.heap[M]? = some (.cells #[u1, u2, u3, u4] 28)) : GS w0 w' s1 s2 s3 s4 P M p q u1 u2 u3 u4 := by
  have hl := h.lM
  have hlt := h.lt
  have hc : ∀ k j, k < wr.heap.size → k ≠ M → w'.cell? ⟨k, j, none⟩ = wr.cell? ⟨k, j, none⟩ := fun k j hk hn => cell_of_block (a := ⟨k, j, none⟩) (hO.block k hk hn)
  exact { h with
    bel := h.bel.trans (hO.below h.bel.size (fun k e => by omega))
    r0 := (hc _ _ (by omega) (by omega)).trans h.r0
    r1 := (hc _ _ (by omega) (by omega)).trans h.r1
    r2 := (hc _ _ (by omega) (by omega)).trans h.r2
    r3 := (hc _ _ (by omega) (by omega)).trans h.r3
    p0 := (hc _ _ (World.block_lt_of_cell? _ _ h.p0) h.ne).trans h.p0
    p1 := (hc _ _ (World.block_lt_of_cell? _ _ h.p1) h.ne).trans h.p1
    mb := hm }
theorem GS.mlt (h : GS w0 wr s1 s2 s3 s4 P M p q t1 t2 t3 t4) : M < wr.heap.size := (Array.getElem?_eq_some_iff.1 h.mb).1
theorem GS.below (h : GS w0 wr s1 s2 s3 s4 P M p q t1 t2 t3 t4) (hb : Below wr.heap.size wr w') : GS w0 w' s1 s2 s3 s4 P M p q t1 t2 t3 t4 :=
  h.only (Below.only _ hb) ((hb.block M h.mlt).trans h.mb)
theorem GS.m0 (h : GS w0 wr s1 s2 s3 s4 P M p q t1 t2 t3 t4) : wr.cell? ⟨M, 0, none⟩ = some t1 := by have := h.mb; simp [World.cell?, this]
theorem GS.m1 (h : GS w0 wr s1 s2 s3 s4 P M p q t1 t2 t3 t4) : wr.cell? ⟨M, 1, none⟩ = some t2 := by have := h.mb; simp [World.cell?, this]
theorem GS.m2 (h : GS w0 wr s1 s2 s3 s4 P M p q t1 t2 t3 t4) : wr.cell? ⟨M, 2, none⟩ = some t3 := by have := h.mb; simp [World.cell?, this]
theorem GS.m3 (h : GS w0 wr s1 s2 s3 s4 P M p q t1 t2 t3 t4) : wr.cell? ⟨M, 3, none⟩ = some t4 := by have := h.mb; simp [World.cell?, this]
theorem GS.mf (h : GS w0 wr s1 s2 s3 s4 P M p q t1 t2 t3 t4) (j : Nat) : wr.frozen? ⟨M, j, none⟩ = false := by have := h.mb; simp [World.frozen?, this]
theorem GS.set0 (h : GS w0 wr s1 s2 s3 s4 P M p q t1 t2 t3 t4) (v : Value) : GS w0 (wr.setCell ⟨M, 0, none⟩ v) s1 s2 s3 s4 P M p q v t2 t3 t4 := h.only (only_set wr M 0 v) (heap_setCell_self wr M 0 _ _ _ v h.mb)
theorem GS.set1 (h : GS w0 wr s1 s2 s3 s4 P M p q t1 t2 t3 t4) (v : Value) : GS w0 (wr.setCell ⟨M, 1, none⟩ v) s1 s2 s3 s4 P M p q t1 v t3 t4 := h.only (only_set wr M 1 v) (heap_setCell_self wr M 1 _ _ _ v h.mb)
theorem GS.set2 (h : GS w0 wr s1 s2 s3 s4 P M p q t1 t2 t3 t4) (v : Value) : GS w0 (wr.setCell ⟨M, 2, none⟩ v) s1 s2 s3 s4 P M p q t1 t2 v t4 := h.only (only_set wr M 2 v) (heap_setCell_self wr M 2 _ _ _ v h.mb)
theorem GS.set3 (h : GS w0 wr s1 s2 s3 s4 P M p q t1 t2 t3 t4) (v : Value) : GS w0 (wr.setCell ⟨M, 3, none⟩ v) s1 s2 s3 s4 P M p q t1 t2 t3 v := h.only (only_set wr M 3 v) (heap_setCell_self wr M 3 _ _ _ v h.mb)
/-- A cell of another block is turned. -/
theorem GS.far (h : GS w0 wr s1 s2 s3 s4 P M p q t1 t2 t3 t4) {g j : Nat} (u : Value) (h1 : w0.heap.size < g) (h2 : g ≠ P) (h3 : g ≠ M) : GS w0 (wr.setCell ⟨g, j, none⟩ u) s1 s2 s3 s4 P M p q t1 t2 t3 t4 := by
  have hc : ∀ k i, k ≠ g → (wr.setCell ⟨g, j, none⟩ u).cell? ⟨k, i, none⟩ = wr.cell? ⟨k, i, none⟩ := fun k i hk => cell_of_block (a := ⟨k, i, none⟩) (Below.heap_setCell _ _ _ _ hk)
  exact { h with
    bel := h.bel.setCell (Nat.le_of_lt h1) u
    r0 := (hc _ _ (by omega)).trans h.r0
    r1 := (hc _ _ (by omega)).trans h.r1
    r2 := (hc _ _ (by omega)).trans h.r2
    r3 := (hc _ _ (by omega)).trans h.r3
    p0 := (hc _ _ (Ne.symm h2)).trans h.p0
    p1 := (hc _ _ (Ne.symm h2)).trans h.p1
    mb := (Below.heap_setCell _ _ _ _ (Ne.symm h3)).trans h.mb }
/-- As it begins. -/
theorem GS.start (w W2 : World) (s1 s2 s3 s4 : Value) (p q : Int) (hb : Below (w.alloc (.cells #[s1, s2, s3, s4] 28)).heap.size (w.alloc (.cells #[s1, s2, s3, s4] 28)) W2) :
    GS w ((W2.alloc (.cells #[.int .i64 p, .int .i64 q] 31)).alloc (.cells #[s1, s2, s3, s4] 28)) s1 s2 s3 s4 W2.heap.size (W2.heap.size + 1) p q s1 s2 s3 s4 := by
  have z1 : (w.alloc (.cells #[s1, s2, s3, s4] 28)).heap.size = w.heap.size + 1 := by simp
  have zz := hb.size
  rw [z1] at zz
  have y1 : ((W2.alloc (.cells #[.int .i64 p, .int .i64 q] 31)).alloc (.cells #[s1, s2, s3, s4] 28)).heap[w.heap.size]? = some (.cells #[s1, s2, s3, s4] 28) := by
    rw [heap_alloc_old _ _ (by simp; omega), heap_alloc_old _ _ (by omega), hb.block _ (by omega)]
    exact heap_alloc_new _ _
  have y4 : ((W2.alloc (.cells #[.int .i64 p, .int .i64 q] 31)).alloc (.cells #[s1, s2, s3, s4] 28)).heap[W2.heap.size]? = some (.cells #[.int .i64 p, .int .i64 q] 31) := heap_alloc2_old _ _ _
  have y5 : ((W2.alloc (.cells #[.int .i64 p, .int .i64 q] 31)).alloc (.cells #[s1, s2, s3, s4] 28)).heap[W2.heap.size + 1]? = some (.cells #[s1, s2, s3, s4] 28) := heap_alloc2_new _ _ _
  refine ⟨below_on (below_on (below_on (below_new _ _) hb) (below_new _ _)) (below_new _ _), ?_, ?_, ?_, ?_, ?_, ?_, y5, by omega, by omega, by omega⟩
  all_goals first
    | (simp [World.cell?, y1]; done)
    | (simp [World.cell?, y4]; done)
end
theorem set_flat : ∀ (L : List ED) (k : Nat), k < L.length → (rowE L).set (k * 5 + 3) (.int .i64 (-1)) = rowE (L.set k (lostE (L.getD k default)))
  | [], k, hk => by simp at hk
  | x :: r, 0, _ => by simp [rowE, cellsE, lostE]
  | x :: r, k + 1, hk => by
    have ih := set_flat r k (by simpa using hk)
    have e : (k + 1) * 5 + 3 = (cellsE x).length + (k * 5 + 3) := by simp [cellsE]; omega
    rw [show rowE (x :: r) = cellsE x ++ rowE r from rfl, e, List.set_append_right _ _ (by omega)]
    rw [show (cellsE x).length + (k * 5 + 3) - (cellsE x).length = k * 5 + 3 by omega, ih]
    simp [rowE]
theorem lost_ok {w : World} {y : ED} (h : EDok w y) : EDok w (lostE y) := ⟨h.iz, h.fz, by unfold lostE I64; simp, h.sz, h.ln, h.lm, h.ps⟩
theorem set_oks {w : World} {L : List ED} {k : Nat} (hk : k < L.length) (h : ∀ i, i < L.length → EDok w (L.getD i default)) : ∀ i, i < (L.set k (lostE (L.getD k default))).length → EDok w ((L.set k (lostE (L.getD k default))).getD i default) := by
  intro i hi
  have hi' : i < L.length := by simpa using hi
  by_cases e : i = k
  · subst e
    rw [show (L.set i (lostE (L.getD i default))).getD i default = lostE (L.getD i default) by simp [List.getD, List.getElem?_set, hk]]
    exact lost_ok (h i hi')
  · rw [show (L.set k (lostE (L.getD k default))).getD i default = L.getD i default by simp [List.getD, List.getElem?_set, Ne.symm e]]
    exact h i hi'
end Go.Proofs.YtmioohbailhppaaDoor
