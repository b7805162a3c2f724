/-
  Patterns.
-/
import Derived.Test.YtefenbonjepjgaaGreatDoorPat
namespace Go.Proofs.YtefenbonjepjgaaGreatDoor
open Go.ChangeShapes Go.WideShapes Go.ChangeAt Go.RowKit
set_option linter.unusedSimpArgs false
set_option linter.unusedVariables false

/-- A call on the reader leaves all of it, but for the words. -/
theorem PS.on {w wr w3 : World} {B E d X : Nat} {q : Pt} {M M2 : List Tk} {v1 v2 : Value} {C1 C2' : List (List Value)} (h : PS w wr B E d X q M v1 v2 C1 C2') (hB : B < w.heap.size) (hX : w.heap.size < X) (ho : Only (· = B) wr w3) (hr : Rd w3 B E d M2) : PS w w3 B E d X q M2 v1 v2 C1 C2' :=
  ⟨h.only.trans ho, hr, h.cel.onlyS ho (fun e => by omega), h.nd.onlyS ho (fun g hg e => by have := (h.nd.blk hg).1; omega), h.ed.onlyS ho (fun g hg e => by have := (h.ed.blk hg).1; omega), h.nX, h.eX, h.ap, h.few⟩
/-- The same where only new memory was made. -/
theorem PS.below {w wr w3 : World} {B E d X : Nat} {q : Pt} {M : List Tk} {v1 v2 : Value} {C1 C2' : List (List Value)} (h : PS w wr B E d X q M v1 v2 C1 C2') (hB : B < w.heap.size) (hX : w.heap.size < X) (hb : Below wr.heap.size wr w3) : PS w w3 B E d X q M v1 v2 C1 C2' :=
  h.on hB hX (only_of_below hb) (h.rd.below hb)
theorem PS.moreE {w W w5 : World} {B E d X : Nat} {q : Pt} {M : List Tk} {v1 v2 : Value} {C1 C2' : List (List Value)} {x : Ed} {p' : Option Addr} {c' : Nat} (h : PS w W B E d X q M v1 v2 C1 C2') (hB : B < w.heap.size) (hX : w.heap.size < X)
    (ho : w5.ownsRow (w.heap.size + 1) 64 6 (.slice p' (q.edges.length + 1) c') (q.edges.length + 1) (C2'.flatten ++ [.string (txt x.v), .string (txt x.l), .bool x.back, .int .i64 x.mode, .int .i64 x.lo, .int .i64 x.hi])) (hg : W.grownBy w5 v2.ownBlock) (hv : (Value.slice p' (q.edges.length + 1) c').ownBlock = v2.ownBlock ∨ (Value.slice p' (q.edges.length + 1) c').ownBlock = some W.heap.size) (hf : q.edges.length + 1 ≤ 4097) :
    PS w (w5.setCell ⟨X, 1, none⟩ (.slice p' (q.edges.length + 1) c')) B E d X ⟨q.nodes, q.edges ++ [x]⟩ M v1 (.slice p' (q.edges.length + 1) c') C1 (C2' ++ [([.string (txt x.v), .string (txt x.l), .bool x.back, .int .i64 x.mode, .int .i64 x.lo, .int .i64 x.hi] : List Value)]) := by
  have hS := grown_only hg
  have hblk : ∀ g, v2.ownBlock = some g → w.heap.size + 1 ≤ g := fun g e => (h.ed.blk e).1
  have hXS : ¬ v2.ownBlock = some X := h.eX
  have hne : (Value.slice p' (q.edges.length + 1) c').ownBlock ≠ some X := by
    rcases hv with e | e
    · rw [e]; exact h.eX
    · rw [e]; intro e2; cases e2; exact absurd h.cel.lt (by omega)
  have hset := only_set w5 X 1 (.slice p' (q.edges.length + 1) c')
  have hc5 := C2.set1 (h.cel.onlyS hS hXS) (.slice p' (q.edges.length + 1) c')
  refine ⟨?_, (h.rd.turnS hS (fun k e => by have := hblk k e; omega)).turn hset (by omega), hc5, (h.nd.onlyS hS (fun g e => h.ap g e)).onlyS hset (fun g e e2 => by subst e2; exact h.nX e), ?_, h.nX, hne, ?_, ⟨h.few.1, by simpa using hf⟩⟩
  · exact only_put (only_putS h.only (fun k e => by have := hblk k e; simpa using this) hS) (by simp; omega) hset
  · have e1 : (C2' ++ [([.string (txt x.v), .string (txt x.l), .bool x.back, .int .i64 x.mode, .int .i64 x.lo, .int .i64 x.hi] : List Value)]).flatten = C2'.flatten ++ ([.string (txt x.v), .string (txt x.l), .bool x.back, .int .i64 x.mode, .int .i64 x.lo, .int .i64 x.hi] : List Value) := by simp
    have e2 : (q.edges ++ [x]).length = q.edges.length + 1 := by simp
    refine Rw.onlyS (w := w5) ⟨?_, ?_⟩ hset (fun g e e2 => by subst e2; exact hne e)
    · show w5.ownsRow _ 64 6 _ (q.edges ++ [x]).length _
      rw [e1, e2]; exact ho
    · exact Ls.keep (w := W) (fun g hg => hg.elim) (Ls.more (E := EEd) rfl h.ed.els)
  · intro g e1 e2
    rcases hv with e | e
    · rw [e] at e2; exact h.ap g e1 e2
    · rw [e] at e2; cases e2; exact absurd (h.nd.blk e1).2 (by omega)
theorem PS.moreN {w W w5 : World} {B E d X : Nat} {q : Pt} {M : List Tk} {v1 v2 : Value} {C1 C2' : List (List Value)} {y : Nd} {p' : Option Addr} {c' : Nat} (h : PS w W B E d X q M v1 v2 C1 C2') (hB : B < w.heap.size) (hX : w.heap.size < X)
    (ho : w5.ownsRow (w.heap.size + 1) 66 2 (.slice p' (q.nodes.length + 1) c') (q.nodes.length + 1) (C1.flatten ++ [.string (txt y.v), .string (txt y.l)])) (hg : W.grownBy w5 v1.ownBlock) (hv : (Value.slice p' (q.nodes.length + 1) c').ownBlock = v1.ownBlock ∨ (Value.slice p' (q.nodes.length + 1) c').ownBlock = some W.heap.size) (hf : q.nodes.length + 1 ≤ 4097) :
    PS w (w5.setCell ⟨X, 0, none⟩ (.slice p' (q.nodes.length + 1) c')) B E d X ⟨q.nodes ++ [y], q.edges⟩ M (.slice p' (q.nodes.length + 1) c') v2 (C1 ++ [([.string (txt y.v), .string (txt y.l)] : List Value)]) C2' := by
  have hS := grown_only hg
  have hblk : ∀ g, v1.ownBlock = some g → w.heap.size + 1 ≤ g := fun g e => (h.nd.blk e).1
  have hXS : ¬ v1.ownBlock = some X := h.nX
  have hne : (Value.slice p' (q.nodes.length + 1) c').ownBlock ≠ some X := by
    rcases hv with e | e
    · rw [e]; exact h.nX
    · rw [e]; intro e2; cases e2; exact absurd h.cel.lt (by omega)
  have hset := only_set w5 X 0 (.slice p' (q.nodes.length + 1) c')
  have hc5 := C2.set0 (h.cel.onlyS hS hXS) (.slice p' (q.nodes.length + 1) c')
  refine ⟨?_, (h.rd.turnS hS (fun k e => by have := hblk k e; omega)).turn hset (by omega), hc5, ?_, (h.ed.onlyS hS (fun g e e2 => h.ap g e2 e)).onlyS hset (fun g e e2 => by subst e2; exact h.eX e), hne, h.eX, ?_, ⟨by simpa using hf, h.few.2⟩⟩
  · exact only_put (only_putS h.only (fun k e => by have := hblk k e; simpa using this) hS) (by simp; omega) hset
  · have e1 : (C1 ++ [([.string (txt y.v), .string (txt y.l)] : List Value)]).flatten = C1.flatten ++ ([.string (txt y.v), .string (txt y.l)] : List Value) := by simp
    have e2 : (q.nodes ++ [y]).length = q.nodes.length + 1 := by simp
    refine Rw.onlyS (w := w5) ⟨?_, ?_⟩ hset (fun g e e2 => by subst e2; exact hne e)
    · show w5.ownsRow _ 66 2 _ (q.nodes ++ [y]).length _
      rw [e1, e2]; exact ho
    · exact Ls.keep (w := W) (fun g hg => hg.elim) (Ls.more (E := ENd) rfl h.nd.els)
  · intro g e1 e2
    rcases hv with e | e
    · rw [e] at e1; exact h.ap g e1 e2
    · rw [e] at e1; cases e1; exact absurd (h.ed.blk e2).2 (by omega)
/-- What it comes to. -/
theorem PS.done {w W W5 : World} {B E d X : Nat} {q : Pt} {M : List Tk} {v1 v2 : Value} {C1 C2' : List (List Value)} (h : PS w W B E d X q M v1 v2 C1 C2') (ho : Only (· = w.heap.size) W W5) : IsPt w.heap.size q (.agg #[v1, v2]) W5 := by
  obtain ⟨p1, c1, rfl⟩ := own_val h.nd.own
  obtain ⟨p2, c2, rfl⟩ := own_val h.ed.own
  have hn := h.nd.onlyS ho (fun g e e2 => by have := (h.nd.blk e).1; omega)
  have he := h.ed.onlyS ho (fun g e e2 => by have := (h.ed.blk e).1; omega)
  refine ⟨p1, c1, p2, c2, rfl, p1, c1, p2, c2, rfl, ⟨C1, own_base hn.own (Nat.zero_le _), fun g e => Nat.le_of_succ_le (hn.blk e).1, hn.els.weak (fun g hg => hg.elim)⟩, ⟨C2', own_base he.own (Nat.zero_le _), fun g e => Nat.le_of_succ_le (he.blk e).1, he.els.weak (fun g hg => hg.elim)⟩⟩
end Go.Proofs.YtefenbonjepjgaaGreatDoor
