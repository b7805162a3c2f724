/-
  Patterns: the round of their loop.
-/
import Derived.Test.YtefenbonjepjgaaGreatDoorLsd
import Derived.Deep.RegionHeld3
namespace Go.Proofs.YtefenbonjepjgaaGreatDoor
open Go.ChangeShapes Go.WideShapes Go.ChangeAt Go.RowKit
set_option linter.unusedSimpArgs false
set_option linter.unusedVariables false

theorem step_append {P : Program} (w : World) {ops : Array Oper} {o : Oper} {a : Act} {K : Act → World → Prop} {Q : Exit → Act → World → Prop} {E : Prop} (hgd : o.guard = none) (s x : Operand) (t : TypeId)
    (ho : o.op = .call { callee := .builtin .append, args := #[s, x], argTypes := #[t, t] })
    (base : Nat) (e : TypeId) (i : TypeInfo) (z : Value) (size bytes : Nat) (ht : P.underlying t = some (.slice e)) (hi : P.info? e = some i) (hz : i.zero = some z)
    (hsize : i.size = size) (hby : i.bytes = bytes) (hzs : z.cells.size = size) (hsz : 0 < size)
    (v : Value) (n : Nat) (xs : List Value) (hs : a.eval s = v) (hown : w.ownsRow base e size v n xs)
    (ad : Addr) (m c : Nat) (news : List Value) (hx : a.eval x = .slice (some ad) m c) (hl : news.length = m * size) (hnews : ∀ j u, news[j]? = some u → w.cell? (ad.add j) = some u) (h1 : ∀ u ∈ news, u.oneCell' = true)
    (h63 : n + m ≤ maxLen) (hbytes : (n + m) * bytes ≤ 140737488355328) (hbase : base ≤ w.heap.size)
    (h : ∀ p' c' w', w'.ownsRow base e size (.slice p' (n + m) c') (n + m) (xs ++ news) → w.grownBy w' v.ownBlock → ((Value.slice p' (n + m) c').ownBlock = v.ownBlock ∨ (Value.slice p' (n + m) c').ownBlock = some w.heap.size) → K (a.put o.dst (.slice p' (n + m) c')) w') :
    if Region.wanted o (yielded ops a.tmps) = true then Oper.wp P o a w K Q else E := by
  have hw : Region.wanted o (yielded ops a.tmps) = true := by simp [Region.wanted, hgd]
  rw [if_pos hw]
  obtain ⟨v', w', hr, h2, h3, h4, h5⟩ := run_append_own_at (P := P) w base t o.type e i z size bytes ht hi hz hsize hby hzs hsz v n xs hown ad m c news hl hnews h1 h63 hbytes hbase
  obtain ⟨p', c', rfl⟩ := own_val h2
  unfold Oper.wp execOp
  simp only [ho, resolve, invoke, builtin, Sem.run_bind, Sem.run_pure, Result.andThen_ok, List.map_toArray, List.map_cons, List.map_nil, hs, hx, hr]
  exact h p' c' w' h2 h3 h5
/-- Two cells of a block of the call's own. -/
structure C2 (w : World) (X : Nat) (a b : Value) : Prop where
  c0 : w.cell? ⟨X, 0, none⟩ = some a
  c1 : w.cell? ⟨X, 1, none⟩ = some b
  fr : ∀ i, w.frozen? ⟨X, i, none⟩ = false
theorem C2.lt {w : World} {X : Nat} {a b : Value} (h : C2 w X a b) : X < w.heap.size := World.block_lt_of_cell? w _ h.c0
theorem C2.onlyS {w w' : World} {X : Nat} {a b : Value} {S : Nat → Prop} (h : C2 w X a b) (ho : Only S w w') (hX : ¬ S X) : C2 w' X a b :=
  ⟨(ho.cell h.lt hX).trans h.c0, (ho.cell h.lt hX).trans h.c1, fun i => (ho.frozen h.lt hX).trans (h.fr i)⟩
theorem C2.set0 {w : World} {X : Nat} {a b : Value} (h : C2 w X a b) (v : Value) : C2 (w.setCell ⟨X, 0, none⟩ v) X v b :=
  ⟨set_same h.c0, (set_at _ _ _ (by decide)).trans h.c1, fun i => (set_fr _ _ _ _).trans (h.fr i)⟩
theorem C2.set1 {w : World} {X : Nat} {a b : Value} (h : C2 w X a b) (v : Value) : C2 (w.setCell ⟨X, 1, none⟩ v) X a v :=
  ⟨(set_at _ _ _ (by decide)).trans h.c0, set_same h.c1, fun i => (set_fr _ _ _ _).trans (h.fr i)⟩
/-- A row of the call's own, of plain elements. -/
structure Rw {α : Type} (E : Elt α) (t : TypeId) (w : World) (b : Nat) (l : List α) (v : Value) (C : List (List Value)) : Prop where
  own : w.ownsRow b t E.size v l.length C.flatten
  els : Ls E (fun _ => False) w l C
theorem Rw.onlyS {α : Type} {E : Elt α} {t : TypeId} {w w' : World} {b : Nat} {l : List α} {v : Value} {C : List (List Value)} {S : Nat → Prop} (h : Rw E t w b l v C) (ho : Only S w w') (hS : ∀ g, v.ownBlock = some g → ¬ S g) : Rw E t w' b l v C := by
  obtain ⟨⟨h1, h2⟩, h3⟩ := h
  refine ⟨⟨h1, ?_⟩, h3.keep (fun g hg => hg.elim)⟩
  rcases h2 with h2 | ⟨g, cap, cur, e1, e2, e3, e4⟩
  · exact .inl h2
  · exact .inr ⟨g, cap, cur, e1, e2, (ho.block g (Array.getElem?_eq_some_iff.1 e3).1 (hS g (by rw [e1]; rfl))).trans e3, e4⟩
theorem Rw.blk {α : Type} {E : Elt α} {t : TypeId} {w : World} {b : Nat} {l : List α} {v : Value} {C : List (List Value)} (h : Rw E t w b l v C) {g : Nat} (hg : v.ownBlock = some g) : b ≤ g ∧ g < w.heap.size := own_blk h.own hg
/-- What a pattern's call holds at its loop's head. -/
structure PS (w w' : World) (B E d X : Nat) (q : Pt) (M : List Tk) (v1 v2 : Value) (C1 C2' : List (List Value)) : Prop where
  only : Only (· = B) (w.alloc (.cells #[.slice none 0 0, .slice none 0 0] 61)) w'
  rd : Rd w' B E d M
  cel : C2 w' X v1 v2
  nd : Rw ENd 66 w' (w.heap.size + 1) q.nodes v1 C1
  ed : Rw EEd 64 w' (w.heap.size + 1) q.edges v2 C2'
  nX : v1.ownBlock ≠ some X
  eX : v2.ownBlock ≠ some X
  ap : ∀ g, v1.ownBlock = some g → v2.ownBlock ≠ some g
  few : q.nodes.length ≤ 4097 ∧ q.edges.length ≤ 4097
end Go.Proofs.YtefenbonjepjgaaGreatDoor
