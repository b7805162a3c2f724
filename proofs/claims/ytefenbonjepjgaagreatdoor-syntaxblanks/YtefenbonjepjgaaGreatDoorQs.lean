/-
  What a query's call holds.
-/
import Derived.Test.YtefenbonjepjgaaGreatDoorPav
namespace Go.Proofs.YtefenbonjepjgaaGreatDoor
open Go.ChangeShapes Go.WideShapes Go.ChangeAt Go.RowKit
set_option linter.unusedSimpArgs false
set_option linter.unusedVariables false

def EEx : Elt Ex where
  at' x c S w := ∃ sp sn sc, c = [.int .i64 (opE x), .slice sp sn sc, .string (txt (nmE x)), .string (txt (prE x)), .int .i64 (kE x), .bool (bE x), .int .i64 (nE x), .string (txt (tE x)), .slice none 0 0] ∧ ExAt w S x (.slice sp sn sc)
  size := 9
  len _ _ _ _ h := by obtain ⟨_, _, _, rfl, _⟩ := h; rfl
  one _ _ _ _ h := by
    obtain ⟨_, _, _, rfl, _⟩ := h
    intro u hu
    simp at hu
    rcases hu with rfl | rfl | rfl | rfl | rfl | rfl | rfl | rfl | rfl <;> rfl
  weak _ _ _ _ _ h := fun ⟨a, b, c, e, hx⟩ => ⟨a, b, c, e, ExAt.weakS h _ _ hx⟩
  lt _ _ _ _ := fun ⟨a, b, c, e, hx⟩ => ⟨a, b, c, e, ExAt.lt _ _ hx⟩
  keep _ _ _ _ _ h := fun ⟨a, b, c, e, hx⟩ => ⟨a, b, c, e, ExAt.same h _ _ hx⟩
theorem RowS.nil {α : Type} (E : Elt α) (t : TypeId) (S : Nat → Prop) (w : World) : RowS E t S [] (.slice none 0 0) w := by
  refine ⟨[], own_nil w 0 t E.size, ?_, trivial⟩
  intro g e
  cases e
theorem IsLs.row {α : Type} {E : Elt α} {t : TypeId} {b : Nat} {l : List α} {v : Value} {w : World} : IsLs E t b l v w → RowS E t (b ≤ ·) l v w
  | ⟨p, c, C, e, h1, h2⟩ => by
    subst e
    exact ⟨C, own_base h1 (Nat.zero_le _), fun g hg => (own_blk h1 hg).1, h2⟩
/-- One expression, in a new block. -/
theorem RowS.one {w : World} {b : Nat} {x : Ex} {sp : Option Addr} {sn sc : Nat} (hx : ExAt w (b ≤ ·) x (.slice sp sn sc)) (hb : b ≤ w.heap.size) :
    RowS EEx 40 (b ≤ ·) [x] (.slice (some ⟨w.heap.size, 0, none⟩) 1 1) (w.alloc (.cells #[.int .i64 (opE x), .slice sp sn sc, .string (txt (nmE x)), .string (txt (prE x)), .int .i64 (kE x), .bool (bE x), .int .i64 (nE x), .string (txt (tE x)), .slice none 0 0] 40)) := by
  refine ⟨[([.int .i64 (opE x), .slice sp sn sc, .string (txt (nmE x)), .string (txt (prE x)), .int .i64 (kE x), .bool (bE x), .int .i64 (nE x), .string (txt (tE x)), .slice none 0 0] : List Value)], World.ownsRow_lit w #[.int .i64 (opE x), .slice sp sn sc, .string (txt (nmE x)), .string (txt (prE x)), .int .i64 (kE x), .bool (bE x), .int .i64 (nE x), .string (txt (tE x)), .slice none 0 0] 1 (Nat.zero_le _) (by decide) rfl, fun g hg => ?_, ⟨⟨sp, sn, sc, rfl, hx.keep (below_new w _)⟩, trivial⟩⟩
  cases hg
  exact hb
/-- A query that a call hands back. -/
def IsQ (b : Nat) (q : Qy) (v : Value) (w : World) : Prop := ∃ v0 v1 v3 v4, v = .agg #[v0, v1, .bool q.dist, v3, v4, .int .i64 q.lim] ∧ RowS EPt 61 (b ≤ ·) q.pats v0 w ∧ RowS EEx 40 (b ≤ ·) q.where' v1 w ∧ RowS EIt 69 (b ≤ ·) q.items v3 w ∧ RowS EKy 82 (b ≤ ·) q.keys v4 w
structure QS (w w' : World) (B E X : Nat) (q : Qy) (M : List Tk) (v0 v1 v3 v4 : Value) : Prop where
  only : Only (· = B) (w.alloc (.cells #[.slice none 0 0, .slice none 0 0, .bool false, .slice none 0 0, .slice none 0 0, .int .i64 0] 28)) w'
  rd : Rd w' B E 0 M
  cel : C6 w' X v0 v1 (.bool q.dist) v3 v4 (.int .i64 q.lim)
  p : RowS EPt 61 (fun g => w.heap.size + 1 ≤ g ∧ g ≠ X) q.pats v0 w'
  e : RowS EEx 40 (fun g => w.heap.size + 1 ≤ g ∧ g ≠ X) q.where' v1 w'
  i : RowS EIt 69 (fun g => w.heap.size + 1 ≤ g ∧ g ≠ X) q.items v3 w'
  k : RowS EKy 82 (fun g => w.heap.size + 1 ≤ g ∧ g ≠ X) q.keys v4 w'
theorem QS.on {w wr w3 : World} {B E X : Nat} {q : Qy} {M M2 : List Tk} {v0 v1 v3 v4 : Value} (h : QS w wr B E X q M v0 v1 v3 v4) (hB : B < w.heap.size) (hX : w.heap.size < X) (ho : Only (· = B) wr w3) (hr : Rd w3 B E 0 M2) : QS w w3 B E X q M2 v0 v1 v3 v4 := by
  have hk : ∀ g, (w.heap.size + 1 ≤ g ∧ g ≠ X) → g < wr.heap.size → w3.heap[g]? = wr.heap[g]? := Only.same ho (fun g hg e => by subst e; exact absurd hg.1 (by omega))
  exact ⟨h.only.trans ho, hr, h.cel.only ho (by omega), h.p.keep hk, h.e.keep hk, h.i.keep hk, h.k.keep hk⟩
theorem QS.below {w wr w3 : World} {B E X : Nat} {q : Qy} {M : List Tk} {v0 v1 v3 v4 : Value} (h : QS w wr B E X q M v0 v1 v3 v4) (hB : B < w.heap.size) (hX : w.heap.size < X) (hb : Below wr.heap.size wr w3) : QS w w3 B E X q M v0 v1 v3 v4 :=
  h.on hB hX (only_of_below hb) (h.rd.below hb)
theorem C6.set0 {w : World} {X : Nat} {a b c d e f : Value} (h : C6 w X a b c d e f) (v : Value) : C6 (w.setCell ⟨X, 0, none⟩ v) X v b c d e f :=
  ⟨set_same h.c0, (set_at _ _ _ (by decide)).trans h.c1, (set_at _ _ _ (by decide)).trans h.c2, (set_at _ _ _ (by decide)).trans h.c3, (set_at _ _ _ (by decide)).trans h.c4, (set_at _ _ _ (by decide)).trans h.c5, fun i => (set_fr _ _ _ _).trans (h.fr i)⟩
theorem C6.set1 {w : World} {X : Nat} {a b c d e f : Value} (h : C6 w X a b c d e f) (v : Value) : C6 (w.setCell ⟨X, 1, none⟩ v) X a v c d e f :=
  ⟨(set_at _ _ _ (by decide)).trans h.c0, set_same h.c1, (set_at _ _ _ (by decide)).trans h.c2, (set_at _ _ _ (by decide)).trans h.c3, (set_at _ _ _ (by decide)).trans h.c4, (set_at _ _ _ (by decide)).trans h.c5, fun i => (set_fr _ _ _ _).trans (h.fr i)⟩
/-- A store into the query's own block leaves all else. -/
theorem QS.put {w wr w5 : World} {B E X : Nat} {q q' : Qy} {M : List Tk} {v0 v1 v3 v4 u0 u1 u3 u4 : Value} (h : QS w wr B E X q M v0 v1 v3 v4) (hB : B < w.heap.size) (hX : w.heap.size < X) (ho : Only (· = X) wr w5)
    (hc : C6 w5 X u0 u1 (.bool q'.dist) u3 u4 (.int .i64 q'.lim))
    (hp : RowS EPt 61 (fun g => w.heap.size + 1 ≤ g ∧ g ≠ X) q'.pats u0 wr) (he : RowS EEx 40 (fun g => w.heap.size + 1 ≤ g ∧ g ≠ X) q'.where' u1 wr) (hi : RowS EIt 69 (fun g => w.heap.size + 1 ≤ g ∧ g ≠ X) q'.items u3 wr) (hk : RowS EKy 82 (fun g => w.heap.size + 1 ≤ g ∧ g ≠ X) q'.keys u4 wr) :
    QS w w5 B E X q' M u0 u1 u3 u4 := by
  have hs : ∀ g, (w.heap.size + 1 ≤ g ∧ g ≠ X) → g < wr.heap.size → w5.heap[g]? = wr.heap[g]? := Only.same ho (fun g hg => hg.2)
  exact ⟨only_put h.only (by simp; omega) ho, h.rd.turn ho (by omega), hc, hp.keep hs, he.keep hs, hi.keep hs, hk.keep hs⟩
theorem QS.done {w W W5 : World} {B E X : Nat} {q : Qy} {M : List Tk} {v0 v1 v3 v4 : Value} (h : QS w W B E X q M v0 v1 v3 v4) (ho : Only (· = w.heap.size) W W5) : IsQ w.heap.size q (.agg #[v0, v1, .bool q.dist, v3, v4, .int .i64 q.lim]) W5 := by
  have hs : ∀ g, (w.heap.size + 1 ≤ g ∧ g ≠ X) → g < W.heap.size → W5.heap[g]? = W.heap[g]? := Only.same ho (fun g hg e => by subst e; exact absurd hg.1 (by omega))
  have hw : ∀ g, (w.heap.size + 1 ≤ g ∧ g ≠ X) → w.heap.size ≤ g := fun g hg => Nat.le_of_succ_le hg.1
  exact ⟨v0, v1, v3, v4, rfl, (h.p.keep hs).weak hw, (h.e.keep hs).weak hw, (h.i.keep hs).weak hw, (h.k.keep hs).weak hw⟩
theorem rows_from {w wr : World} {X b : Nat} {α : Type} {E : Elt α} {t : TypeId} {l : List α} {v : Value} (h : RowS E t (b ≤ ·) l v wr) (hb : X < b) (hX : w.heap.size < X) : RowS E t (fun g => w.heap.size + 1 ≤ g ∧ g ≠ X) l v wr :=
  h.weak (fun g hg => by have hg' : b ≤ g := hg; exact ⟨by omega, by omega⟩)
end Go.Proofs.YtefenbonjepjgaaGreatDoor
