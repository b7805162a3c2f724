/-
  A column in memory, whole: its block, its rows, its map; each apart from the others.
-/
import Derived.Test.YtomhgaihmdjdbaaDoorSet
import Derived.Maps.OwnSet
namespace Go.Proofs.YtomhgaihmdjdbaaDoor
open Go.RowKit
set_option linter.unusedSimpArgs false
set_option linter.unusedVariables false

theorem info2 : (Tryd.prog.info? 2).map (fun i => (i.zero, i.size, i.bytes)) = some (some (.int .i64 0), 1, 8) := by kernel_rfl
/-- Numbers, as they lie in memory. -/
def i64s (L : List Int) : List Value := L.map (.int .i64)
theorem Below.undrew {w w' : World} (h : Below w.drew.heap.size w.drew w') : Below w.heap.size w w' := ⟨h.os, h.tape, h.output, h.size, h.block⟩
theorem Only.undrew {S : Nat → Prop} {w w' : World} (h : Only S w.drew w') : Only S w w' := ⟨h.os, h.tape, h.output, h.size, h.block⟩
theorem BoxAt.only {S : Nat → Prop} {w w' : World} {x : Nat} {k : Int} {b : Bool} {n : Int} {s : ByteArray} {p : Option Addr} {l c : Nat} (h : BoxAt w x k b n s p l c) (hb : Only S w w') (hx : ¬ S x) : BoxAt w' x k b n s p l c := by
  have e := hb.block x h.lt hx
  exact ⟨(World.cell?_of_block e).trans h.c0, (World.cell?_of_block e).trans h.c1, (World.cell?_of_block e).trans h.c2, (World.cell?_of_block e).trans h.c3, (World.cell?_of_block e).trans h.c4, fun j => (World.frozen?_of_block e).trans (h.fr j)⟩
theorem own_only {S : Nat → Prop} {w w' : World} {base : Nat} {v : Value} {n : Nat} {xs : List Value} {e : TypeId} {size : Nat} (h : w.ownsRow base e size v n xs) (hO : Only S w w') (hn : ∀ b, v.ownBlock = some b → ¬ S b) : w'.ownsRow base e size v n xs := by
  obtain ⟨h1, h2 | ⟨g, cap, cur, e1, e2, e3, e4⟩⟩ := h
  · exact ⟨h1, .inl h2⟩
  · exact ⟨h1, .inr ⟨g, cap, cur, e1, e2, (hO.block g (Array.getElem?_eq_some_iff.1 e3).1 (hn g (by rw [e1]; rfl))).trans e3, e4⟩⟩
/-- Where a map lies. -/
def mapBlock : Value → Option Nat
  | .map b => b
  | _ => none
/-- The dictionary's other way round: each text's number. -/
def MapAt (w : World) (pv : Value) (X : List ByteArray) : Prop :=
  (pv = .map none ∧ X = []) ∨ ∃ b D, pv = .map (some b) ∧ w.ownsMap (H := Unit) Tryd.prog 9 (plainElem Tryd.prog 2) b X.length D ∧ (∀ s : ByteArray, Maps.has D (.string s.data.toList) = true ↔ s ∈ X) ∧ ∀ (i : Nat) (s : ByteArray), X[i]? = some s → D.atKey (.string s.data.toList) (.lit (.int .i64 0)) = .lit (.int .i64 (i : Int))
theorem MapAt.only {S : Nat → Prop} {w w' : World} {pv : Value} {X : List ByteArray} (h : MapAt w pv X) (hO : Only S w w') (hn : ∀ b, mapBlock pv = some b → ¬ S b) : MapAt w' pv X := by
  rcases h with h | ⟨b, D, e, ho, hs⟩
  · exact .inl h
  · subst e
    obtain ⟨es, clock, h1, h2⟩ := ho
    exact .inr ⟨b, D, rfl, ⟨es, clock, (hO.block b (Array.getElem?_eq_some_iff.1 h1).1 (hn b rfl)).trans h1, h2⟩, hs⟩
theorem MapAt.lt {w : World} {pv : Value} {X : List ByteArray} (h : MapAt w pv X) {b : Nat} (hb : mapBlock pv = some b) : b < w.heap.size := by
  rcases h with ⟨e, _⟩ | ⟨b', D, e, ho, hs⟩
  · subst e; cases hb
  · subst e; cases hb; exact ho.lt

/-- A column, as the program keeps it: its kind; words of bits, numbers, texts, a heap; and where they lie. -/
structure Col where
  k : Int
  L : List Int
  M : List Int
  X : List ByteArray
  Hp : List Int
  nv : Value
  mv : Value
  tv : Value
  pv : Value
  hv : Value
/-- The blocks that a column has. -/
def bl (x : Nat) (C : Col) : Nat → Option Nat
  | 0 => some x
  | 1 => C.nv.ownBlock
  | 2 => C.mv.ownBlock
  | 3 => C.tv.ownBlock
  | 4 => mapBlock C.pv
  | 5 => C.hv.ownBlock
  | _ => none
def Ap (f : Nat → Option Nat) : Prop := ∀ i j b, f i = some b → f j = some b → i = j
/-- One of a column's blocks. -/
def Foot (x : Nat) (C : Col) (j : Nat) : Prop := ∃ i, bl x C i = some j
structure ColAt (w : World) (base x : Nat) (C : Col) : Prop where
  vb : VB w x C.k C.nv C.mv C.tv C.pv C.hv
  o1 : w.ownsRow base 73 1 C.nv C.L.length (w64 C.L)
  o2 : w.ownsRow base 2 1 C.mv C.M.length (i64s C.M)
  o3 : w.ownsRow base 9 1 C.tv C.X.length (C.X.map .string)
  o4 : MapAt w C.pv C.X
  o5 : w.ownsRow base 2 1 C.hv C.Hp.length (i64s C.Hp)
  ap : Ap (bl x C)
  lo : ∀ i b, bl x C i = some b → base ≤ b
theorem ColAt.lt {w : World} {base x : Nat} {C : Col} (h : ColAt w base x C) {i b : Nat} (hi : bl x C i = some b) : b < w.heap.size := by
  match i, hi with
  | 0, hi => cases hi; exact h.vb.lt
  | 1, hi => exact (h.o1.lt b hi).2
  | 2, hi => exact (h.o2.lt b hi).2
  | 3, hi => exact (h.o3.lt b hi).2
  | 4, hi => exact h.o4.lt hi
  | 5, hi => exact (h.o5.lt b hi).2
theorem Ap.upd {f g : Nat → Option Nat} {n : Nat} (h : Ap f) (i : Nat) (hlt : ∀ j b, f j = some b → b < n) (hg : ∀ j, j ≠ i → g j = f j) (hi : g i = f i ∨ ∃ b, n ≤ b ∧ g i = some b) : Ap g := by
  intro a b c ha hb
  by_cases ea : a = i
  · by_cases eb : b = i
    · rw [ea, eb]
    · rw [hg b eb] at hb
      subst ea
      rcases hi with hi | ⟨d, h1, h2⟩
      · rw [hi] at ha; exact h _ _ _ ha hb
      · rw [h2] at ha; cases ha; have := hlt _ _ hb; omega
  · rw [hg a ea] at ha
    by_cases eb : b = i
    · subst eb
      rcases hi with hi | ⟨d, h1, h2⟩
      · rw [hi] at hb; exact h _ _ _ ha hb
      · rw [h2] at hb; cases hb; have := hlt _ _ ha; omega
    · rw [hg b eb] at hb; exact h _ _ _ ha hb
/-- Nothing of a column has turned. -/
theorem ColAt.only {S : Nat → Prop} {w w' : World} {base x : Nat} {C : Col} (h : ColAt w base x C) (hO : Only S w w') (hn : ∀ b, Foot x C b → ¬ S b) : ColAt w' base x C :=
  ⟨h.vb.only hO (hn x ⟨0, rfl⟩), own_only h.o1 hO (fun b e => hn b ⟨1, e⟩), own_only h.o2 hO (fun b e => hn b ⟨2, e⟩), own_only h.o3 hO (fun b e => hn b ⟨3, e⟩), h.o4.only hO (fun b e => hn b ⟨4, e⟩), own_only h.o5 hO (fun b e => hn b ⟨5, e⟩), h.ap, h.lo⟩
theorem ColAt.below {w w' : World} {base x : Nat} {C : Col} (h : ColAt w base x C) (hb : Below w.heap.size w w') : ColAt w' base x C := h.only (Below.only (fun _ => False) hb) (fun _ _ h => h)
/-- A part of a column that may have turned, beside its own block. -/
def Part (x : Nat) (C : Col) (i j : Nat) : Prop := j = x ∨ bl x C i = some j
theorem part_foot {x : Nat} {C : Col} {i j : Nat} (h : Part x C i j) : Foot x C j := by
  rcases h with rfl | h
  · exact ⟨0, rfl⟩
  · exact ⟨i, h⟩
theorem ColAt.notPart {w : World} {base x : Nat} {C : Col} (h : ColAt w base x C) {i j b : Nat} (hj : bl x C j = some b) (hij : j ≠ i) (h0 : j ≠ 0) : ¬ Part x C i b := by
  rintro (rfl | e)
  · exact h0 (h.ap j 0 _ hj rfl)
  · exact hij (h.ap j i _ hj e)
theorem ColAt.nulls {w w' : World} {base x : Nat} {C : Col} (h : ColAt w base x C) {nv : Value} {L : List Int} (hb : base ≤ w.heap.size) (hv : VB w' x C.k nv C.mv C.tv C.pv C.hv) (ho : w'.ownsRow base 73 1 nv L.length (w64 L)) (hM : Moved w C.nv nv) (hO : Only (Part x C 1) w w') : ColAt w' base x { C with nv := nv, L := L } :=
  ⟨hv, ho, own_only h.o2 hO (fun b e => h.notPart (j := 2) e (by decide) (by decide)), own_only h.o3 hO (fun b e => h.notPart (j := 3) e (by decide) (by decide)), h.o4.only hO (fun b e => h.notPart (j := 4) e (by decide) (by decide)), own_only h.o5 hO (fun b e => h.notPart (j := 5) e (by decide) (by decide)),
    h.ap.upd 1 (fun j b e => h.lt e) (fun j hj => by unfold bl; split <;> first | rfl | omega) (by rcases hM with e | ⟨g, h1, h2⟩; exact .inl e; exact .inr ⟨g, h1, h2⟩), fun i b e => by
      by_cases hi : i = 1
      · subst hi; exact (ho.lt b e).1
      · refine h.lo i b (e ▸ ?_)
        unfold bl; split <;> first | rfl | omega⟩
theorem ColAt.nums {w w' : World} {base x : Nat} {C : Col} (h : ColAt w base x C) {mv : Value} {M : List Int} (hb : base ≤ w.heap.size) (hv : VB w' x C.k C.nv mv C.tv C.pv C.hv) (ho : w'.ownsRow base 2 1 mv M.length (i64s M)) (hM : Moved w C.mv mv) (hO : Only (Part x C 2) w w') : ColAt w' base x { C with mv := mv, M := M } :=
  ⟨hv, own_only h.o1 hO (fun b e => h.notPart (j := 1) e (by decide) (by decide)), ho, own_only h.o3 hO (fun b e => h.notPart (j := 3) e (by decide) (by decide)), h.o4.only hO (fun b e => h.notPart (j := 4) e (by decide) (by decide)), own_only h.o5 hO (fun b e => h.notPart (j := 5) e (by decide) (by decide)),
    h.ap.upd 2 (fun j b e => h.lt e) (fun j hj => by unfold bl; split <;> first | rfl | omega) (by rcases hM with e | ⟨g, h1, h2⟩; exact .inl e; exact .inr ⟨g, h1, h2⟩), fun i b e => by
      by_cases hi : i = 2
      · subst hi; exact (ho.lt b e).1
      · refine h.lo i b (e ▸ ?_)
        unfold bl; split <;> first | rfl | omega⟩
theorem ColAt.heap {w w' : World} {base x : Nat} {C : Col} (h : ColAt w base x C) {hv : Value} {Hp : List Int} (hb : base ≤ w.heap.size) (hvb : VB w' x C.k C.nv C.mv C.tv C.pv hv) (ho : w'.ownsRow base 2 1 hv Hp.length (i64s Hp)) (hM : Moved w C.hv hv) (hO : Only (Part x C 5) w w') : ColAt w' base x { C with hv := hv, Hp := Hp } :=
  ⟨hvb, own_only h.o1 hO (fun b e => h.notPart (j := 1) e (by decide) (by decide)), own_only h.o2 hO (fun b e => h.notPart (j := 2) e (by decide) (by decide)), own_only h.o3 hO (fun b e => h.notPart (j := 3) e (by decide) (by decide)), h.o4.only hO (fun b e => h.notPart (j := 4) e (by decide) (by decide)), ho,
    h.ap.upd 5 (fun j b e => h.lt e) (fun j hj => by unfold bl; split <;> first | rfl | omega) (by rcases hM with e | ⟨g, h1, h2⟩; exact .inl e; exact .inr ⟨g, h1, h2⟩), fun i b e => by
      by_cases hi : i = 5
      · subst hi; exact (ho.lt b e).1
      · refine h.lo i b (e ▸ ?_)
        unfold bl; split <;> first | rfl | omega⟩
/-- Each block of what a column has become is one of its own, or new. -/
def Kin (w : World) (x : Nat) (C C' : Col) : Prop := ∀ b, Foot x C' b → Foot x C b ∨ w.heap.size ≤ b
theorem Kin.refl (w : World) (x : Nat) (C : Col) : Kin w x C C := fun _ h => .inl h
theorem Kin.trans {w w' : World} {x : Nat} {A B C : Col} (h : Kin w x A B) (k : Kin w' x B C) (hs : w.heap.size ≤ w'.heap.size) : Kin w x A C := fun b hb => by
  rcases k b hb with e | e
  · exact h b e
  · exact .inr (by omega)
theorem kin_of {w : World} {x : Nat} {C C' : Col} (i : Nat) (hg : ∀ j, j ≠ i → bl x C' j = bl x C j) (hi : bl x C' i = bl x C i ∨ ∃ b, w.heap.size ≤ b ∧ bl x C' i = some b) : Kin w x C C' := by
  rintro b ⟨j, hj⟩
  by_cases e : j = i
  · subst e
    rcases hi with hi | ⟨g, h1, h2⟩
    · exact .inl ⟨j, hi ▸ hj⟩
    · rw [h2] at hj; cases hj; exact .inr h1
  · exact .inl ⟨j, (hg j e) ▸ hj⟩
theorem kin_nulls {w : World} {x : Nat} {C : Col} {nv : Value} {L : List Int} (hM : Moved w C.nv nv) : Kin w x C { C with nv := nv, L := L } := kin_of 1 (fun j hj => by unfold bl; split <;> first | rfl | omega) hM
theorem kin_nums {w : World} {x : Nat} {C : Col} {mv : Value} {M : List Int} (hM : Moved w C.mv mv) : Kin w x C { C with mv := mv, M := M } := kin_of 2 (fun j hj => by unfold bl; split <;> first | rfl | omega) hM
theorem kin_heap {w : World} {x : Nat} {C : Col} {hv : Value} {Hp : List Int} (hM : Moved w C.hv hv) : Kin w x C { C with hv := hv, Hp := Hp } := kin_of 5 (fun j hj => by unfold bl; split <;> first | rfl | omega) hM
/-- What may turn behind one step and another. -/
theorem foot_on {w : World} {x : Nat} {C C' : Col} {a b : World} (h : Only (Foot x C) w a) (hk : Kin w x C C') (k : Only (Foot x C') a b) : Only (Foot x C) w b :=
  h.trans k (fun j hj hf => by rcases hk j hf with e | e; exact e; omega)
end Go.Proofs.YtomhgaihmdjdbaaDoor
