/-
  What RawgraphFirst and RawgraphIDs keep in memory.
-/
import Derived.Test.YtmioohbailhppaaDoorApp
namespace Go.Proofs.YtmioohbailhppaaDoor
open Go.RowKit
set_option linter.unusedSimpArgs false
set_option linter.unusedVariables false

/-- What was handed in, boxed; a place; a graph with a record more. -/
structure FS (w0 wr : World) (s1 s2 s3 s4 : Value) (x : ND) (y : ED) (P M : Nat) (p q : Int) (t1 t2 t3 t4 : Value) : Prop where
  bel : Below w0.heap.size w0 wr
  r0 : wr.cell? ⟨w0.heap.size, 0, none⟩ = some s1
  r1 : wr.cell? ⟨w0.heap.size, 1, none⟩ = some s2
  r2 : wr.cell? ⟨w0.heap.size, 2, none⟩ = some s3
  r3 : wr.cell? ⟨w0.heap.size, 3, none⟩ = some s4
  x0 : wr.cell? ⟨w0.heap.size + 1, 0, none⟩ = some (.int .i64 x.id)
  x1 : wr.cell? ⟨w0.heap.size + 1, 1, none⟩ = some (.string x.lab)
  x2 : wr.cell? ⟨w0.heap.size + 1, 2, none⟩ = some (.slice x.p x.l x.c)
  y0 : wr.cell? ⟨w0.heap.size + 2, 0, none⟩ = some (.int .i64 y.id)
  y1 : wr.cell? ⟨w0.heap.size + 2, 1, none⟩ = some (.string y.lab)
  y2 : wr.cell? ⟨w0.heap.size + 2, 2, none⟩ = some (.int .i64 y.fr)
  y3 : wr.cell? ⟨w0.heap.size + 2, 3, none⟩ = some (.int .i64 y.tt)
  y4 : wr.cell? ⟨w0.heap.size + 2, 4, none⟩ = some (.slice y.p y.l y.c)
  p0 : wr.cell? ⟨P, 0, none⟩ = some (.int .i64 p)
  p1 : wr.cell? ⟨P, 1, none⟩ = some (.int .i64 q)
  mb : wr.heap[M]? = some (.cells #[t1, t2, t3, t4] 28)
  lP : w0.heap.size + 3 ≤ P
  lM : w0.heap.size + 3 ≤ M
  ne : P ≠ M
section
variable {w0 wr w' : World} {s1 s2 s3 s4 : Value} {x : ND} {y : ED} {P M : Nat} {p q : Int} {t1 t2 t3 t4 u1 u2 u3 u4 : Value}
theorem FS.lt (h : FS w0 wr s1 s2 s3 s4 x y P M p q t1 t2 t3 t4) : w0.heap.size + 2 < wr.heap.size := by
  have := World.block_lt_of_cell? _ _ h.y0
  exact this
theorem FS.only (h : FS w0 wr s1 s2 s3 s4 x y P M p q t1 t2 t3 t4) (hO : Only (fun k => k = M) wr w') (hm : w'.heap[M]? = some (.cells #[u1, u2, u3, u4] 28)) : FS w0 w' s1 s2 s3 s4 x y P M p q u1 u2 u3 u4 := by
  have hl := h.lM
  have hlt := h.lt
  have hc : ∀ k j, k < wr.heap.size → k ≠ M → w'.cell? ⟨k, j, none⟩ = wr.cell? ⟨k, j, none⟩ := fun k j hk hn => cell_of_block (a := ⟨k, j, none⟩) (hO.block k hk hn)
  exact { h with
    bel := h.bel.trans (hO.below h.bel.size (fun k e => by omega))
    r0 := (hc _ _ (by omega) (by omega)).trans h.r0
    r1 := (hc _ _ (by omega) (by omega)).trans h.r1
    r2 := (hc _ _ (by omega) (by omega)).trans h.r2
    r3 := (hc _ _ (by omega) (by omega)).trans h.r3
    x0 := (hc _ _ (by omega) (by omega)).trans h.x0
    x1 := (hc _ _ (by omega) (by omega)).trans h.x1
    x2 := (hc _ _ (by omega) (by omega)).trans h.x2
    y0 := (hc _ _ (by omega) (by omega)).trans h.y0
    y1 := (hc _ _ (by omega) (by omega)).trans h.y1
    y2 := (hc _ _ (by omega) (by omega)).trans h.y2
    y3 := (hc _ _ (by omega) (by omega)).trans h.y3
    y4 := (hc _ _ (by omega) (by omega)).trans h.y4
    p0 := (hc _ _ (World.block_lt_of_cell? _ _ h.p0) h.ne).trans h.p0
    p1 := (hc _ _ (World.block_lt_of_cell? _ _ h.p1) h.ne).trans h.p1
    mb := hm }
theorem FS.mlt (h : FS w0 wr s1 s2 s3 s4 x y P M p q t1 t2 t3 t4) : M < wr.heap.size := (Array.getElem?_eq_some_iff.1 h.mb).1
theorem FS.below (h : FS w0 wr s1 s2 s3 s4 x y P M p q t1 t2 t3 t4) (hb : Below wr.heap.size wr w') : FS w0 w' s1 s2 s3 s4 x y P M p q t1 t2 t3 t4 :=
  h.only (Below.only _ hb) ((hb.block M h.mlt).trans h.mb)
theorem FS.m0 (h : FS w0 wr s1 s2 s3 s4 x y P M p q t1 t2 t3 t4) : wr.cell? ⟨M, 0, none⟩ = some t1 := by have := h.mb; simp [World.cell?, this]
theorem FS.m1 (h : FS w0 wr s1 s2 s3 s4 x y P M p q t1 t2 t3 t4) : wr.cell? ⟨M, 1, none⟩ = some t2 := by have := h.mb; simp [World.cell?, this]
theorem FS.m2 (h : FS w0 wr s1 s2 s3 s4 x y P M p q t1 t2 t3 t4) : wr.cell? ⟨M, 2, none⟩ = some t3 := by have := h.mb; simp [World.cell?, this]
theorem FS.m3 (h : FS w0 wr s1 s2 s3 s4 x y P M p q t1 t2 t3 t4) : wr.cell? ⟨M, 3, none⟩ = some t4 := by have := h.mb; simp [World.cell?, this]
theorem FS.mf (h : FS w0 wr s1 s2 s3 s4 x y P M p q t1 t2 t3 t4) (j : Nat) : wr.frozen? ⟨M, j, none⟩ = false := by have := h.mb; simp [World.frozen?, this]
theorem heap_setCell_self (w : World) (x j : Nat) (cs : Array Value) (t : TypeId) (f : Nat × Nat) (v : Value) (h : w.heap[x]? = some (.cells cs t f)) : (w.setCell ⟨x, j, none⟩ v).heap[x]? = some (.cells (cs.setIfInBounds j v) t f) := by
  obtain ⟨hlt, he⟩ := Array.getElem?_eq_some_iff.1 h
  simp [World.setCell, Array.getElem?_modify, h]
theorem only_set (w : World) (M j : Nat) (v : Value) : Only (fun k => k = M) w (w.setCell ⟨M, j, none⟩ v) := (Only.refl (fun k => k = M) w).setCell (p := ⟨M, j, none⟩) (fun _ => rfl) v
theorem FS.set0 (h : FS w0 wr s1 s2 s3 s4 x y P M p q t1 t2 t3 t4) (v : Value) : FS w0 (wr.setCell ⟨M, 0, none⟩ v) s1 s2 s3 s4 x y P M p q v t2 t3 t4 := h.only (only_set wr M 0 v) (heap_setCell_self wr M 0 _ _ _ v h.mb)
theorem FS.set1 (h : FS w0 wr s1 s2 s3 s4 x y P M p q t1 t2 t3 t4) (v : Value) : FS w0 (wr.setCell ⟨M, 1, none⟩ v) s1 s2 s3 s4 x y P M p q t1 v t3 t4 := h.only (only_set wr M 1 v) (heap_setCell_self wr M 1 _ _ _ v h.mb)
theorem FS.set2 (h : FS w0 wr s1 s2 s3 s4 x y P M p q t1 t2 t3 t4) (v : Value) : FS w0 (wr.setCell ⟨M, 2, none⟩ v) s1 s2 s3 s4 x y P M p q t1 t2 v t4 := h.only (only_set wr M 2 v) (heap_setCell_self wr M 2 _ _ _ v h.mb)
theorem FS.set3 (h : FS w0 wr s1 s2 s3 s4 x y P M p q t1 t2 t3 t4) (v : Value) : FS w0 (wr.setCell ⟨M, 3, none⟩ v) s1 s2 s3 s4 x y P M p q t1 t2 t3 v := h.only (only_set wr M 3 v) (heap_setCell_self wr M 3 _ _ _ v h.mb)
/-- As it begins. -/
theorem FS.start (w W2 : World) (s1 s2 s3 s4 : Value) (x : ND) (y : ED) (p q : Int) (hb : Below (((w.alloc (.cells #[s1, s2, s3, s4] 28)).alloc (.cells #[.int .i64 x.id, .string x.lab, .slice x.p x.l x.c] 44)).alloc (.cells #[.int .i64 y.id, .string y.lab, .int .i64 y.fr, .int .i64 y.tt, .slice y.p y.l y.c] 46)).heap.size (((w.alloc (.cells #[s1, s2, s3, s4] 28)).alloc (.cells #[.int .i64 x.id, .string x.lab, .slice x.p x.l x.c] 44)).alloc (.cells #[.int .i64 y.id, .string y.lab, .int .i64 y.fr, .int .i64 y.tt, .slice y.p y.l y.c] 46)) W2) :
    FS w ((W2.alloc (.cells #[.int .i64 p, .int .i64 q] 31)).alloc (.cells #[s1, s2, s3, s4] 28)) s1 s2 s3 s4 x y W2.heap.size (W2.heap.size + 1) p q s1 s2 s3 s4 := by
  have z1 : (w.alloc (.cells #[s1, s2, s3, s4] 28)).heap.size = w.heap.size + 1 := by simp
  have z2 : ((w.alloc (.cells #[s1, s2, s3, s4] 28)).alloc (.cells #[.int .i64 x.id, .string x.lab, .slice x.p x.l x.c] 44)).heap.size = w.heap.size + 2 := by simp
  have z3 : (((w.alloc (.cells #[s1, s2, s3, s4] 28)).alloc (.cells #[.int .i64 x.id, .string x.lab, .slice x.p x.l x.c] 44)).alloc (.cells #[.int .i64 y.id, .string y.lab, .int .i64 y.fr, .int .i64 y.tt, .slice y.p y.l y.c] 46)).heap.size = w.heap.size + 3 := by simp
  have zz := hb.size
  rw [z3] at zz
  have old : ∀ k, k < w.heap.size + 3 → ((W2.alloc (.cells #[.int .i64 p, .int .i64 q] 31)).alloc (.cells #[s1, s2, s3, s4] 28)).heap[k]? = (((w.alloc (.cells #[s1, s2, s3, s4] 28)).alloc (.cells #[.int .i64 x.id, .string x.lab, .slice x.p x.l x.c] 44)).alloc (.cells #[.int .i64 y.id, .string y.lab, .int .i64 y.fr, .int .i64 y.tt, .slice y.p y.l y.c] 46)).heap[k]? := fun k hk => by
    rw [heap_alloc_old _ _ (by simp; omega), heap_alloc_old _ _ (by omega), hb.block k (by omega)]
  have y1 : ((W2.alloc (.cells #[.int .i64 p, .int .i64 q] 31)).alloc (.cells #[s1, s2, s3, s4] 28)).heap[w.heap.size]? = some (.cells #[s1, s2, s3, s4] 28) := by
    rw [old _ (by omega), heap_alloc_old _ _ (by omega), heap_alloc_old _ _ (by omega)]
    exact heap_alloc_new _ _
  have y2 : ((W2.alloc (.cells #[.int .i64 p, .int .i64 q] 31)).alloc (.cells #[s1, s2, s3, s4] 28)).heap[w.heap.size + 1]? = some (.cells #[.int .i64 x.id, .string x.lab, .slice x.p x.l x.c] 44) := by
    rw [old _ (by omega), heap_alloc_old _ _ (by omega), ← z1]
    exact heap_alloc_new _ _
  have y3 : ((W2.alloc (.cells #[.int .i64 p, .int .i64 q] 31)).alloc (.cells #[s1, s2, s3, s4] 28)).heap[w.heap.size + 2]? = some (.cells #[.int .i64 y.id, .string y.lab, .int .i64 y.fr, .int .i64 y.tt, .slice y.p y.l y.c] 46) := by
    rw [old _ (by omega), ← z2]
    exact heap_alloc_new _ _
  have y4 : ((W2.alloc (.cells #[.int .i64 p, .int .i64 q] 31)).alloc (.cells #[s1, s2, s3, s4] 28)).heap[W2.heap.size]? = some (.cells #[.int .i64 p, .int .i64 q] 31) := heap_alloc2_old _ _ _
  have y5 : ((W2.alloc (.cells #[.int .i64 p, .int .i64 q] 31)).alloc (.cells #[s1, s2, s3, s4] 28)).heap[W2.heap.size + 1]? = some (.cells #[s1, s2, s3, s4] 28) := heap_alloc2_new _ _ _
  refine ⟨below_on (below_on (below_on (below_on (below_on (below_new _ _) (below_new _ _)) (below_new _ _)) hb) (below_new _ _)) (below_new _ _), ?_, ?_, ?_, ?_, ?_, ?_, ?_, ?_, ?_, ?_, ?_, ?_, ?_, ?_, y5, by omega, by omega, by omega⟩
  all_goals first
    | (simp [World.cell?, y1]; done)
    | (simp [World.cell?, y2]; done)
    | (simp [World.cell?, y3]; done)
    | (simp [World.cell?, y4]; done)
end
end Go.Proofs.YtmioohbailhppaaDoor
