/-
  Lists in memory, and what their elements lead to.
-/
import Derived.Test.YtefenbonjepjgaaGreatDoorEdh
import Derived.Test.YtefenbonjepjgaaGreatDoorRow
import Derived.Deep.LoopGhost
namespace Go.Proofs.YtefenbonjepjgaaGreatDoor
open Go.ChangeShapes Go.WideShapes Go.ChangeAt Go.RowKit
set_option linter.unusedSimpArgs false
set_option linter.unusedVariables false

/-- What holds of an element, its cells, the blocks that it leads to, and the world; and what keeps it. -/
structure Elt (α : Type) where
  at' : α → List Value → (Nat → Prop) → World → Prop
  size : Nat
  len : ∀ x c S w, at' x c S w → c.length = size
  one : ∀ x c S w, at' x c S w → ∀ u ∈ c, u.oneCell' = true
  weak : ∀ x c S S' w, (∀ g, S g → S' g) → at' x c S w → at' x c S' w
  lt : ∀ x c S w, at' x c S w → at' x c (fun g => S g ∧ g < w.heap.size) w
  keep : ∀ x c S w w', (∀ g, S g → g < w.heap.size → w'.heap[g]? = w.heap[g]?) → at' x c S w → at' x c S w'
/-- A list of elements, their cells. -/
def Ls {α : Type} (E : Elt α) (S : Nat → Prop) (w : World) : List α → List (List Value) → Prop
  | [], [] => True
  | x :: l, c :: C => E.at' x c S w ∧ Ls E S w l C
  | _, _ => False
theorem Ls.weak {α : Type} {E : Elt α} {S S' : Nat → Prop} {w : World} (h : ∀ g, S g → S' g) : ∀ {l : List α} {C : List (List Value)}, Ls E S w l C → Ls E S' w l C
  | [], [], _ => trivial
  | x :: l, c :: C, ⟨h1, h2⟩ => ⟨E.weak _ _ _ _ _ h h1, Ls.weak h h2⟩
theorem Ls.lt {α : Type} {E : Elt α} {S : Nat → Prop} {w : World} : ∀ {l : List α} {C : List (List Value)}, Ls E S w l C → Ls E (fun g => S g ∧ g < w.heap.size) w l C
  | [], [], _ => trivial
  | x :: l, c :: C, ⟨h1, h2⟩ => ⟨E.lt _ _ _ _ h1, Ls.lt h2⟩
theorem Ls.keep {α : Type} {E : Elt α} {S : Nat → Prop} {w w' : World} (h : ∀ g, S g → g < w.heap.size → w'.heap[g]? = w.heap[g]?) : ∀ {l : List α} {C : List (List Value)}, Ls E S w l C → Ls E S w' l C
  | [], [], _ => trivial
  | x :: l, c :: C, ⟨h1, h2⟩ => ⟨E.keep _ _ _ _ _ h h1, Ls.keep h h2⟩
theorem Ls.more {α : Type} {E : Elt α} {S : Nat → Prop} {w : World} {y : α} {d : List Value} (hy : E.at' y d S w) : ∀ {l : List α} {C : List (List Value)}, Ls E S w l C → Ls E S w (l ++ [y]) (C ++ [d])
  | [], [], _ => ⟨hy, trivial⟩
  | x :: l, c :: C, ⟨h1, h2⟩ => ⟨h1, Ls.more hy h2⟩
theorem Only.same {B : Nat} {w w' : World} {S : Nat → Prop} (h : Only (· = B) w w') (hS : ∀ g, S g → g ≠ B) : ∀ g, S g → g < w.heap.size → w'.heap[g]? = w.heap[g]? := fun g hg hl => h.block g hl (hS g hg)
theorem Below.same {w w' : World} {S : Nat → Prop} (h : Below w.heap.size w w') : ∀ g, S g → g < w.heap.size → w'.heap[g]? = w.heap[g]? := fun g _ hl => h.block g hl
/-- A list that lies in memory from block b on. -/
def IsLs {α : Type} (E : Elt α) (t : TypeId) (b : Nat) (l : List α) (v : Value) (w : World) : Prop := ∃ p c C, v = .slice p l.length c ∧ w.ownsRow b t E.size (.slice p l.length c) l.length C.flatten ∧ Ls E (b ≤ ·) w l C
/-- What is turned in a row of the call's own. -/
theorem grown_only {w w' : World} {v : Value} (h : w.grownBy w' v.ownBlock) : Only (fun k => v.ownBlock = some k) w w' :=
  ⟨h.os, h.tape, h.output, h.size, fun k hk hn => h.block k hk (fun e => hn e.symm)⟩
theorem Rd.turnS {w w' : World} {B E d : Nat} {L : List Tk} {S : Nat → Prop} (h : Rd w B E d L) (ho : Only S w w') (hS : ∀ k, S k → B < k) : Rd w' B E d L := by
  obtain ⟨p, cap, h0, h1, h2⟩ := h.c0
  have hne : ¬ S B := fun s => Nat.lt_irrefl _ (hS B s)
  refine ⟨⟨p, cap, (ho.cell h.lt hne).trans h0, h1, ?_⟩, (ho.cell h.lt hne).trans h.c1, (ho.cell h.lt hne).trans h.c2, fun j => (ho.frozen h.lt hne).trans (h.fr j), h.few, h.deep⟩
  rcases h2 with h | ⟨g, o, e, hg, h⟩
  · exact .inl h
  · refine .inr ⟨g, o, e, hg, fun i hi => ?_⟩
    obtain ⟨c0, c1, c2, c3⟩ := h i hi
    have hl := World.block_lt_of_cell? w _ c0
    have hg' : ¬ S g := fun s => by have := hS g s; omega
    exact ⟨(ho.cell hl hg').trans c0, (ho.cell hl hg').trans c1, (ho.cell hl hg').trans c2, (ho.cell hl hg').trans c3⟩
theorem only_putS {B : Nat} {a w w' : World} {S : Nat → Prop} (h : Only (· = B) a w) (hS : ∀ k, S k → a.heap.size ≤ k) (ho : Only S w w') : Only (· = B) a w' :=
  ⟨ho.os.trans h.os, ho.tape.trans h.tape, ho.output.trans h.output, Nat.le_trans h.size ho.size, fun i hi hn => (ho.block i (Nat.lt_of_lt_of_le hi h.size) (fun s => by have := hS i s; omega)).trans (h.block i hi hn)⟩
theorem own_only {w w' : World} {B base : Nat} {v : Value} {n : Nat} {xs : List Value} {e : TypeId} {k : Nat} (h : w.ownsRow base e k v n xs) (ho : Only (· = B) w w') (hB : B < base) : w'.ownsRow base e k v n xs := by
  obtain ⟨h1, h2 | ⟨g, cap, cur, e1, e2, e3, e4⟩⟩ := h
  · exact ⟨h1, .inl h2⟩
  · exact ⟨h1, .inr ⟨g, cap, cur, e1, e2, (ho.block g (Array.getElem?_eq_some_iff.1 e3).1 (by omega)).trans e3, e4⟩⟩
theorem own_base {w : World} {base b : Nat} {v : Value} {n : Nat} {xs : List Value} {e : TypeId} {k : Nat} (h : w.ownsRow base e k v n xs) (hb : b ≤ base) : w.ownsRow b e k v n xs := by
  obtain ⟨h1, h2 | ⟨g, cap, cur, e1, e2, e3⟩⟩ := h
  · exact ⟨h1, .inl h2⟩
  · exact ⟨h1, .inr ⟨g, cap, cur, e1, Nat.le_trans hb e2, e3⟩⟩
/-- The block of a row that is owned. -/
theorem own_blk {w : World} {base : Nat} {v : Value} {n : Nat} {xs : List Value} {e : TypeId} {k : Nat} (h : w.ownsRow base e k v n xs) {g : Nat} (hg : v.ownBlock = some g) : base ≤ g ∧ g < w.heap.size := by
  obtain ⟨h1, ⟨e1, _⟩ | ⟨g', cap, cur, e1, e2, e3, e4⟩⟩ := h
  · subst e1; cases hg
  · subst e1
    cases hg
    exact ⟨e2, (Array.getElem?_eq_some_iff.1 e3).1⟩
theorem own_val {w : World} {base : Nat} {v : Value} {n : Nat} {xs : List Value} {e : TypeId} {k : Nat} (h : w.ownsRow base e k v n xs) : ∃ p c, v = .slice p n c := by
  obtain ⟨h1, ⟨e1, e2⟩ | ⟨g', cap, cur, e1, _⟩⟩ := h
  · subst e1; subst e2; exact ⟨_, _, rfl⟩
  · exact ⟨_, _, e1⟩
/-- An element in a new block, as append wants it. -/
theorem news_one (W : World) (g : Nat) (cs : List Value) (t : TypeId) (hg : g = W.heap.size) : ∀ j u, cs[j]? = some u → (W.alloc (.cells cs.toArray t)).cell? ((⟨g, 0, none⟩ : Addr).add j) = some u := by
  subst hg
  have := World.news_of_block (cs := cs.toArray) (t := t) (fr := (0, 0)) (heap_alloc_new W (.cells cs.toArray t))
  simpa using this
/-- A list with an element more, behind append. -/
theorem Ls.grow {α : Type} {E : Elt α} {b : Nat} {w W w' : World} {v v' : Value} {l : List α} {C : List (List Value)} {y : α} {d : List Value}
    (hl : Ls E (fun g => b ≤ g ∧ v.ownBlock ≠ some g) w l C) (hy : E.at' y d (fun g => b ≤ g ∧ v.ownBlock ≠ some g) w) (hW : Below w.heap.size w W) (hg : W.grownBy w' v.ownBlock)
    (hv : v'.ownBlock = v.ownBlock ∨ v'.ownBlock = some W.heap.size) : Ls E (fun g => b ≤ g ∧ v'.ownBlock ≠ some g) w' (l ++ [y]) (C ++ [d]) := by
  have h1 := (Ls.more hy hl).lt
  refine Ls.weak (S := fun g => (b ≤ g ∧ v.ownBlock ≠ some g) ∧ g < w.heap.size) ?_ (Ls.keep ?_ h1)
  · rintro g ⟨⟨h2, h3⟩, h4⟩
    refine ⟨h2, ?_⟩
    rcases hv with e | e
    · rw [e]; exact h3
    · rw [e]
      intro e2
      cases e2
      have := hW.size
      omega
  · rintro g ⟨⟨h2, h3⟩, _⟩ h4
    exact (hg.block g (Nat.lt_of_lt_of_le h4 hW.size) (fun e => h3 e.symm)).trans (hW.block g h4)
theorem listG_stop {α : Type} {p : List Tk → Res α} {l : List α} {L : List Tk} (k : Nat) (h : isW [44] L = false) : listG p k l L = .ok l L := by
  cases k with
  | zero => rfl
  | succ k => unfold listG; rw [h]; rfl
/-- Keys, items. -/
def EKy : Elt Ky where
  at' x c _ _ := c = [.string (txt x.n), .bool x.desc]
  size := 2
  len _ _ _ _ h := by subst h; rfl
  one _ _ _ _ h := by subst h; intro u hu; simp at hu; rcases hu with rfl | rfl <;> rfl
  weak _ _ _ _ _ _ h := h
  lt _ _ _ _ h := h
  keep _ _ _ _ _ _ h := h
theorem Row9.same {w w' : World} {g o : Nat} {x : Ex} {ks : Value} (h : Row9 w g o x ks) (hb : w'.heap[g]? = w.heap[g]?) : Row9 w' g o x ks := by
  obtain ⟨c0, c1, c2, c3, c4, c5, c6, c7, c8⟩ := h
  have hc : ∀ i, w'.cell? ⟨g, i, none⟩ = w.cell? ⟨g, i, none⟩ := fun i => by simp only [World.cell?, hb]
  exact ⟨(hc _).trans c0, (hc _).trans c1, (hc _).trans c2, (hc _).trans c3, (hc _).trans c4, (hc _).trans c5, (hc _).trans c6, (hc _).trans c7, (hc _).trans c8⟩
theorem ExAt.same {w w' : World} {S : Nat → Prop} (h : ∀ g, S g → g < w.heap.size → w'.heap[g]? = w.heap[g]?) : ∀ (x : Ex) (ks : Value), ExAt w S x ks → ExAt w' S x ks
  | .leaf _ _ _ _ _ _ _, ks, k => k
  | .one _ a, ks, ⟨g, k1, e, hg, hr, hx⟩ => ⟨g, k1, e, hg, hr.same (h g hg (World.block_lt_of_cell? w _ hr.1)), ExAt.same h a k1 hx⟩
  | .two _ a b', ks, ⟨g, k1, k2, e, hg, hr, hr2, hx, hx2⟩ => ⟨g, k1, k2, e, hg, hr.same (h g hg (World.block_lt_of_cell? w _ hr.1)), hr2.same (h g hg (World.block_lt_of_cell? w _ hr.1)), ExAt.same h a k1 hx, ExAt.same h b' k2 hx2⟩
def EIt : Elt Itm where
  at' x c S w := ∃ sp sn sc, c = [.int .i64 (opE x.x), .slice sp sn sc, .string (txt (nmE x.x)), .string (txt (prE x.x)), .int .i64 (kE x.x), .bool (bE x.x), .int .i64 (nE x.x), .string (txt (tE x.x)), .slice none 0 0, .string (txt x.n)] ∧ ExAt w S x.x (.slice sp sn sc)
  size := 10
  len _ _ _ _ h := by obtain ⟨_, _, _, rfl, _⟩ := h; rfl
  one _ _ _ _ h := by
    obtain ⟨_, _, _, rfl, _⟩ := h
    intro u hu
    simp at hu
    rcases hu with rfl | rfl | rfl | rfl | rfl | rfl | rfl | rfl | rfl | rfl <;> rfl
  weak _ _ _ _ _ h := fun ⟨a, b, c, e, hx⟩ => ⟨a, b, c, e, ExAt.weakS h _ _ hx⟩
  lt _ _ _ _ := fun ⟨a, b, c, e, hx⟩ => ⟨a, b, c, e, ExAt.lt _ _ hx⟩
  keep _ _ _ _ _ h := fun ⟨a, b, c, e, hx⟩ => ⟨a, b, c, e, ExAt.same h _ _ hx⟩
end Go.Proofs.YtefenbonjepjgaaGreatDoor
