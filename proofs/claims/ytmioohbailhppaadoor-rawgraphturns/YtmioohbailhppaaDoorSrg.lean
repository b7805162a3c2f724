/-
  A graph in order: Sorted.
-/
import Derived.Test.YtmioohbailhppaaDoorSed
import Derived.Test.YtmioohbailhppaaDoorChk
import Derived.Deep.RegionWith
import Derived.Deep.DeepCutAuto
namespace Go.Proofs.YtmioohbailhppaaDoor
open Go.RowKit
set_option linter.unusedSimpArgs false
set_option linter.unusedVariables false

/-- A graph in memory. -/
structure GrAt (w : World) (a1 : Option Addr) (n1 c1 : Nat) (a2 : Option Addr) (n2 c2 : Nat) (a3 : Option Addr) (n3 c3 : Nat) (a4 : Option Addr) (n4 c4 : Nat) (r : RW) : Prop where
  l1 : r.nt.length = n1
  k1 : n1 ≤ c1
  m1 : c1 ≤ maxLen
  h1 : TDsAt w a1 r.nt
  l2 : r.et.length = n2
  k2 : n2 ≤ c2
  m2 : c2 ≤ maxLen
  h2 : TDsAt w a2 r.et
  l3 : r.nd.length = n3
  h3 : NDsAt w a3 r.nd
  b3 : n3 * 48 ≤ 140737488351232
  z3 : a3 = none → r.nd = [] ∧ c3 = 0
  l4 : r.ed.length = n4
  h4 : EDsAt w a4 r.ed
  b4 : n4 * 64 ≤ 140737488351232
  z4 : a4 = none → r.ed = [] ∧ c4 = 0
theorem GrAt.below {w w' : World} {a1 : Option Addr} {n1 c1 : Nat} {a2 : Option Addr} {n2 c2 : Nat} {a3 : Option Addr} {n3 c3 : Nat} {a4 : Option Addr} {n4 c4 : Nat} {r : RW} (h : GrAt w a1 n1 c1 a2 n2 c2 a3 n3 c3 a4 n4 c4 r) (hb : Below w.heap.size w w') : GrAt w' a1 n1 c1 a2 n2 c2 a3 n3 c3 a4 n4 c4 r :=
  { h with h1 := h.h1.below hb, h2 := h.h2.below hb, h3 := h.h3.below hb, h4 := h.h4.below hb }
/-- A graph in order, of another one. -/
structure SrtG (r x : RW) : Prop where
  nt : x.nt.map tC = r.nt.map tC
  et : x.et.map tC = r.et.map tC
  nd : ∃ S : List ND, S.Perm r.nd ∧ S.Pairwise (fun x y => x.id ≤ y.id) ∧ x.nd.map cN = S.map (sN r.nt)
  ed : ∃ S : List ED, S.Perm r.ed ∧ S.Pairwise (fun x y => x.id ≤ y.id) ∧ x.ed.map cE = S.map (sE r.et)
  bn : ∀ y ∈ x.nd, ∀ v ∈ y.ps, Bare v
  be : ∀ y ∈ x.ed, ∀ v ∈ y.ps, Bare v
theorem many_of (L : List TD) (h : ∀ k, k < L.length → typeErr L k = 0) : L.length ≤ 64 := by
  rcases Nat.lt_or_ge 64 L.length with h64 | h64
  · have := h 64 h64
    unfold typeErr at this
    simp at this
  · exact h64
theorem labs_n {r : RW} (h : firstBad (nErr r) r.nd.length = none) : ∀ x ∈ r.nd, 0 ≤ labAt r.nt x.lab := by
  intro x hx
  obtain ⟨k, hk, e⟩ := List.mem_iff_getElem.1 hx
  have := (take_zero (node_zero (firstBad_all h k hk))).2.2.2.1
  rw [show r.nd.getD k default = x by rw [← e]; simp [List.getD, List.getElem?_eq_getElem hk]] at this
  exact this
theorem labs_e {r : RW} (h : firstBad (eErr r) r.ed.length = none) : ∀ x ∈ r.ed, 0 ≤ labAt r.et x.lab := by
  intro x hx
  obtain ⟨k, hk, e⟩ := List.mem_iff_getElem.1 hx
  have := (take_zero (edge_zero (firstBad_all h k hk))).2.2.2.1
  rw [show r.ed.getD k default = x by rw [← e]; simp [List.getD, List.getElem?_eq_getElem hk]] at this
  exact this
theorem out_of {w : World} {b : Nat} {r : RW} {n1 n2 n3 n4 : Nat} {p1 p2 p3 p4 : Option Addr} {d1 d2 d3 d4 : Nat} (h1 : OT w b r.nt n1 p1 d1) (h2 : OT w b r.et n2 p2 d2) (h3 : ON w b r.nt r.nd n3 p3 d3) (h4 : OE w b r.et r.ed n4 p4 d4) (b3 : n3 * 48 ≤ 140737488351232) (b4 : n4 * 64 ≤ 140737488351232) :
    ∃ x : RW, GrAt w p1 n1 d1 p2 n2 d2 p3 n3 d3 p4 n4 d4 x ∧ SrtG r x := by
  obtain ⟨M1, e1, e2, e3, e4, e5, e6, e7, e8⟩ := h1
  obtain ⟨M2, f1, f2, f3, f4, f5, f6, f7, f8⟩ := h2
  obtain ⟨M3, S3, g1, g2, g3, g4, g5, g6, g7, g8, g9, g10, g11⟩ := h3
  obtain ⟨M4, S4, i1, i2, i3, i4, i5, i6, i7, i8, i9, i10, i11⟩ := h4
  exact ⟨⟨M1, M2, M3, M4⟩, ⟨e2, e4, e5, e1, f2, f4, f5, f1, g2, g1, b3, g9, i2, i1, b4, i9⟩, ⟨e3, f3, ⟨S3, g3, g4, g5⟩, ⟨S4, i3, i4, i5⟩, g6, i6⟩⟩
theorem HB.lower {b b' : Nat} {a : Option Addr} (h : HB b a) (hb : b' ≤ b) : HB b' a := fun ad e => Nat.le_trans hb (h ad e)
theorem OT.lower {w : World} {b b' : Nat} {L : List TD} {n : Nat} {p : Option Addr} {c : Nat} (h : OT w b L n p c) (hb : b' ≤ b) : OT w b' L n p c := by
  obtain ⟨M, h1, h2, h3, h4, h5, h6, h7, h8⟩ := h
  exact ⟨M, h1, h2, h3, h4, h5, h6, h7.lower hb, fun x hx => (h8 x hx).lower hb⟩
theorem ON.lower {w : World} {b b' : Nat} {T : List TD} {L : List ND} {n : Nat} {p : Option Addr} {c : Nat} (h : ON w b T L n p c) (hb : b' ≤ b) : ON w b' T L n p c := by
  obtain ⟨M, S, h1, h2, h3, h4, h5, h6, h7, h8, h9, h10, h11⟩ := h
  exact ⟨M, S, h1, h2, h3, h4, h5, h6, h7, h8, h9, h10.lower hb, fun x hx => (h11 x hx).lower hb⟩
theorem OE.lower {w : World} {b b' : Nat} {T : List TD} {L : List ED} {n : Nat} {p : Option Addr} {c : Nat} (h : OE w b T L n p c) (hb : b' ≤ b) : OE w b' T L n p c := by
  obtain ⟨M, S, h1, h2, h3, h4, h5, h6, h7, h8, h9, h10, h11⟩ := h
  exact ⟨M, S, h1, h2, h3, h4, h5, h6, h7, h8, h9, h10.lower hb, fun x hx => (h11 x hx).lower hb⟩
/-- Two blocks of four cells each, laid behind one another, later. -/
theorem two4 (w : World) (s1 s2 s3 s4 u1 u2 u3 u4 : Value) (t : TypeId) {w1 : World} (h : Below ((w.alloc (.cells #[s1, s2, s3, s4] t)).alloc (.cells #[u1, u2, u3, u4] t)).heap.size ((w.alloc (.cells #[s1, s2, s3, s4] t)).alloc (.cells #[u1, u2, u3, u4] t)) w1) :
    (w1.cell? ⟨w.heap.size, 0, none⟩ = some s1 ∧ w1.cell? ⟨w.heap.size, 1, none⟩ = some s2 ∧ w1.cell? ⟨w.heap.size, 2, none⟩ = some s3 ∧ w1.cell? ⟨w.heap.size, 3, none⟩ = some s4) ∧
    (w1.cell? ⟨w.heap.size + 1, 0, none⟩ = some u1 ∧ w1.cell? ⟨w.heap.size + 1, 1, none⟩ = some u2 ∧ w1.cell? ⟨w.heap.size + 1, 2, none⟩ = some u3 ∧ w1.cell? ⟨w.heap.size + 1, 3, none⟩ = some u4) ∧
    (∀ j, w1.frozen? ⟨w.heap.size + 1, j, none⟩ = false) ∧ w.heap.size + 2 ≤ w1.heap.size := by
  have hA : ((w.alloc (.cells #[s1, s2, s3, s4] t)).alloc (.cells #[u1, u2, u3, u4] t)).heap[w.heap.size]? = some (.cells #[s1, s2, s3, s4] t) := by
    rw [(below_new (w.alloc (.cells #[s1, s2, s3, s4] t)) _).block _ (by rw [size_new]; omega)]
    exact heap_alloc_new _ _
  have hB : ((w.alloc (.cells #[s1, s2, s3, s4] t)).alloc (.cells #[u1, u2, u3, u4] t)).heap[w.heap.size + 1]? = some (.cells #[u1, u2, u3, u4] t) := by
    have := heap_alloc_new (w.alloc (.cells #[s1, s2, s3, s4] t)) (.cells #[u1, u2, u3, u4] t)
    rw [size_new] at this
    exact this
  have hs : ((w.alloc (.cells #[s1, s2, s3, s4] t)).alloc (.cells #[u1, u2, u3, u4] t)).heap.size = w.heap.size + 2 := by rw [size_new, size_new]
  have hsz := h.size
  rw [hs] at hsz
  have hA1 : w1.heap[w.heap.size]? = some (.cells #[s1, s2, s3, s4] t) := (h.block _ (by rw [hs]; omega)).trans hA
  have hB1 : w1.heap[w.heap.size + 1]? = some (.cells #[u1, u2, u3, u4] t) := (h.block _ (by rw [hs]; omega)).trans hB
  refine ⟨⟨?_, ?_, ?_, ?_⟩, ⟨?_, ?_, ?_, ?_⟩, ?_, hsz⟩
  all_goals first
    | (simp [World.cell?, hA1]; done)
    | (simp [World.cell?, hB1]; done)
    | (intro j; simp [World.frozen?, hB1]; done)
theorem put4 (w : World) (B : Nat) (s1 s2 s3 s4 t1 t2 t3 t4 : Value) (z0 : w.cell? ⟨B, 0, none⟩ = some t1) (z1 : w.cell? ⟨B, 1, none⟩ = some t2) (z2 : w.cell? ⟨B, 2, none⟩ = some t3) (z3 : w.cell? ⟨B, 3, none⟩ = some t4) :
    ((((w.setCell ⟨B, 0, none⟩ s1).setCell ⟨B, 1, none⟩ s2).setCell ⟨B, 2, none⟩ s3).setCell ⟨B, 3, none⟩ s4).cell? ⟨B, 0, none⟩ = some s1 ∧
    ((((w.setCell ⟨B, 0, none⟩ s1).setCell ⟨B, 1, none⟩ s2).setCell ⟨B, 2, none⟩ s3).setCell ⟨B, 3, none⟩ s4).cell? ⟨B, 1, none⟩ = some s2 ∧
    ((((w.setCell ⟨B, 0, none⟩ s1).setCell ⟨B, 1, none⟩ s2).setCell ⟨B, 2, none⟩ s3).setCell ⟨B, 3, none⟩ s4).cell? ⟨B, 2, none⟩ = some s3 ∧
    ((((w.setCell ⟨B, 0, none⟩ s1).setCell ⟨B, 1, none⟩ s2).setCell ⟨B, 2, none⟩ s3).setCell ⟨B, 3, none⟩ s4).cell? ⟨B, 3, none⟩ = some s4 := by
  refine ⟨?_, ?_, ?_, ?_⟩ <;> go_cell
theorem only4 (w : World) (B : Nat) (s1 s2 s3 s4 : Value) : Only (fun k => k = B) w ((((w.setCell ⟨B, 0, none⟩ s1).setCell ⟨B, 1, none⟩ s2).setCell ⟨B, 2, none⟩ s3).setCell ⟨B, 3, none⟩ s4) :=
  ((((Only.refl (fun k => k = B) w).setCell (p := ⟨B, 0, none⟩) (fun _ => rfl) _).setCell (p := ⟨B, 1, none⟩) (fun _ => rfl) _).setCell (p := ⟨B, 2, none⟩) (fun _ => rfl) _).setCell (p := ⟨B, 3, none⟩) (fun _ => rfl) _
/-- The box of what was handed in. -/
def SB (w : World) (a1 : Option Addr) (n1 c1 : Nat) (a2 : Option Addr) (n2 c2 : Nat) (a3 : Option Addr) (n3 c3 : Nat) (a4 : Option Addr) (n4 c4 : Nat) (w' : World) : Prop := w'.cell? ⟨w.heap.size, 0, none⟩ = some (.slice a1 n1 c1) ∧ w'.cell? ⟨w.heap.size, 1, none⟩ = some (.slice a2 n2 c2) ∧ w'.cell? ⟨w.heap.size, 2, none⟩ = some (.slice a3 n3 c3) ∧ w'.cell? ⟨w.heap.size, 3, none⟩ = some (.slice a4 n4 c4)
end Go.Proofs.YtmioohbailhppaaDoor
