/-
  A graph's records in another order, some edges left out: turned.
-/
import Derived.Test.YtmioohbailhppaaDoorSrg
import Derived.Test.YtmioohbailhppaaDoorIns
import Derived.Test.YtmioohbailhppaaDoorPur7
import Derived.Lib.QuietBelow
import Derived.BigQuiet
import Derived.Deep.DeepCutAuto
namespace Go.Proofs.YtmioohbailhppaaDoor
open Go.RowKit
set_option linter.unusedSimpArgs false
set_option linter.unusedVariables false

/-- Four cells of a block that may be written. -/
structure OB (w : World) (O : Nat) (s0 s1 s2 s3 : Value) : Prop where
  c0 : w.cell? ⟨O, 0, none⟩ = some s0
  c1 : w.cell? ⟨O, 1, none⟩ = some s1
  c2 : w.cell? ⟨O, 2, none⟩ = some s2
  c3 : w.cell? ⟨O, 3, none⟩ = some s3
  fr : ∀ j, w.frozen? ⟨O, j, none⟩ = false
theorem OB.lt {w : World} {O : Nat} {s0 s1 s2 s3 : Value} (h : OB w O s0 s1 s2 s3) : O < w.heap.size := World.block_lt_of_cell? w _ h.c0
theorem OB.below {w w' : World} {O : Nat} {s0 s1 s2 s3 : Value} (h : OB w O s0 s1 s2 s3) (hb : Below w.heap.size w w') : OB w' O s0 s1 s2 s3 :=
  ⟨(hb.cell (p := ⟨O, 0, none⟩) h.lt).trans h.c0, (hb.cell (p := ⟨O, 1, none⟩) h.lt).trans h.c1, (hb.cell (p := ⟨O, 2, none⟩) h.lt).trans h.c2, (hb.cell (p := ⟨O, 3, none⟩) h.lt).trans h.c3, fun j => (hb.frozen (p := ⟨O, j, none⟩) h.lt).trans (h.fr j)⟩
theorem OB.new (w : World) (s0 s1 s2 s3 : Value) (t : TypeId) : OB (w.alloc (.cells #[s0, s1, s2, s3] t)) w.heap.size s0 s1 s2 s3 := by
  constructor <;> (simp only [World.cell?, World.frozen?, heap_alloc_new]; simp)
theorem OB.put2 {w : World} {O : Nat} {s0 s1 s2 s3 : Value} (h : OB w O s0 s1 s2 s3) (u : Value) : OB (w.setCell ⟨O, 2, none⟩ u) O s0 s1 u s3 := by
  obtain ⟨c0, c1, c2, c3, fr⟩ := h
  exact ⟨by go_cell, by go_cell, by go_cell, by go_cell, fun j => by simpa using fr j⟩
theorem OB.put3 {w : World} {O : Nat} {s0 s1 s2 s3 : Value} (h : OB w O s0 s1 s2 s3) (u : Value) : OB (w.setCell ⟨O, 3, none⟩ u) O s0 s1 s2 u := by
  obtain ⟨c0, c1, c2, c3, fr⟩ := h
  exact ⟨by go_cell, by go_cell, by go_cell, by go_cell, fun j => by simpa using fr j⟩
theorem OB.other {w : World} {O : Nat} {s0 s1 s2 s3 : Value} (h : OB w O s0 s1 s2 s3) {p : Addr} (hp : O ≠ p.block) (u : Value) : OB (w.setCell p u) O s0 s1 s2 s3 := by
  have e : (w.setCell p u).heap[O]? = w.heap[O]? := Below.heap_setCell _ _ _ _ hp
  have c : ∀ j, (w.setCell p u).cell? ⟨O, j, none⟩ = w.cell? ⟨O, j, none⟩ := fun j => cell_of_block (a := ⟨O, j, none⟩) e
  exact ⟨(c 0).trans h.c0, (c 1).trans h.c1, (c 2).trans h.c2, (c 3).trans h.c3, fun j => by simpa using h.fr j⟩
/-- Numbers of eight bits that came in. -/
def BsAt (w : World) (a : Option Addr) (n : Nat) (D : Nat → Nat) : Prop := (∀ i, D i < 256) ∧ (n = 0 ∨ ∃ g off, a = some ⟨g, off, none⟩ ∧ ∀ i, i < n → w.cell? ⟨g, off + i, none⟩ = some (.int .u8 (D i)))
theorem BsAt.below {w w' : World} {a : Option Addr} {n : Nat} {D : Nat → Nat} (h : BsAt w a n D) (hb : Below w.heap.size w w') : BsAt w' a n D := by
  obtain ⟨h0, h | ⟨g, off, e, h⟩⟩ := h
  · exact ⟨h0, .inl h⟩
  · exact ⟨h0, .inr ⟨g, off, e, fun i hi => (hb.cell (World.block_lt_of_cell? w _ (h i hi))).trans (h i hi)⟩⟩
theorem BsAt.at {w : World} {a : Option Addr} {n : Nat} {D : Nat → Nat} (h : BsAt w a n D) (i : Nat) (hi : i < n) : ∃ g off, a = some ⟨g, off, none⟩ ∧ w.cell? ⟨g, off + i, none⟩ = some (.int .u8 (D i)) := by
  obtain ⟨_, h | ⟨g, off, e, h⟩⟩ := h
  · omega
  · exact ⟨g, off, e, h i hi⟩
/-- What 'turned' holds. -/
structure TS (w wr : World) (r0 r1 r2 r3 : Value) (sN sE : Value) : Prop where
  bel : Below w.heap.size w wr
  r : OB wr w.heap.size r0 r1 r2 r3
  q : OB wr (w.heap.size + 1) (.slice none 0 0) (.slice none 0 0) (.slice none 0 0) (.slice none 0 0)
  o : OB wr (w.heap.size + 2) r0 r1 sN sE
  sz : w.heap.size + 3 ≤ wr.heap.size
theorem TS.below {w wr w' : World} {r0 r1 r2 r3 sN sE : Value} (h : TS w wr r0 r1 r2 r3 sN sE) (hb : Below wr.heap.size wr w') : TS w w' r0 r1 r2 r3 sN sE :=
  ⟨below_on h.bel hb, h.r.below hb, h.q.below hb, h.o.below hb, Nat.le_trans h.sz hb.size⟩
theorem TS.put2 {w wr : World} {r0 r1 r2 r3 sN sE : Value} (h : TS w wr r0 r1 r2 r3 sN sE) (u : Value) : TS w (wr.setCell ⟨w.heap.size + 2, 2, none⟩ u) r0 r1 r2 r3 u sE :=
  ⟨h.bel.setCell (by show w.heap.size ≤ w.heap.size + 2; omega) _, h.r.other (by show w.heap.size ≠ w.heap.size + 2; omega) _, h.q.other (by show w.heap.size + 1 ≠ w.heap.size + 2; omega) _, h.o.put2 u, by simpa using h.sz⟩
theorem TS.put3 {w wr : World} {r0 r1 r2 r3 sN sE : Value} (h : TS w wr r0 r1 r2 r3 sN sE) (u : Value) : TS w (wr.setCell ⟨w.heap.size + 2, 3, none⟩ u) r0 r1 r2 r3 sN u :=
  ⟨h.bel.setCell (by show w.heap.size ≤ w.heap.size + 2; omega) _, h.r.other (by show w.heap.size ≠ w.heap.size + 2; omega) _, h.q.other (by show w.heap.size + 1 ≠ w.heap.size + 2; omega) _, h.o.put3 u, by simpa using h.sz⟩
theorem TS.new (w : World) (r0 r1 r2 r3 : Value) (t : TypeId) : TS w (((w.alloc (.cells #[r0, r1, r2, r3] t)).alloc (.cells #[.slice none 0 0, .slice none 0 0, .slice none 0 0, .slice none 0 0] t)).alloc (.cells #[r0, r1, .slice none 0 0, .slice none 0 0] t)) r0 r1 r2 r3 (.slice none 0 0) (.slice none 0 0) := by
  have z1 : (w.alloc (.cells #[r0, r1, r2, r3] t)).heap.size = w.heap.size + 1 := by simp
  have z2 : ((w.alloc (.cells #[r0, r1, r2, r3] t)).alloc (.cells #[.slice none 0 0, .slice none 0 0, .slice none 0 0, .slice none 0 0] t)).heap.size = w.heap.size + 2 := by simp
  have h1 := (OB.new w r0 r1 r2 r3 t).below (below_on (below_new _ (.cells #[.slice none 0 0, .slice none 0 0, .slice none 0 0, .slice none 0 0] t)) (below_new _ (.cells #[r0, r1, .slice none 0 0, .slice none 0 0] t)))
  have h2 := (OB.new (w.alloc (.cells #[r0, r1, r2, r3] t)) (.slice none 0 0) (.slice none 0 0) (.slice none 0 0) (.slice none 0 0) t).below (below_new _ (.cells #[r0, r1, .slice none 0 0, .slice none 0 0] t))
  have h3 := OB.new ((w.alloc (.cells #[r0, r1, r2, r3] t)).alloc (.cells #[.slice none 0 0, .slice none 0 0, .slice none 0 0, .slice none 0 0] t)) r0 r1 (.slice none 0 0) (.slice none 0 0) t
  rw [z1] at h2
  rw [z2] at h3
  exact ⟨below_on (below_on (below_new _ _) (below_new _ _)) (below_new _ _), h1, h2, h3, by simp⟩
theorem ownB {w w' : World} {base : Nat} {v : Value} {n : Nat} {xs : List Value} {e : TypeId} {k : Nat} (h : w.ownsRow base e k v n xs) (hb : Below w.heap.size w w') : w'.ownsRow base e k v n xs := by
  obtain ⟨h1, h2 | ⟨g, cap, cur, e1, e2, e3, e4⟩⟩ := h
  · exact ⟨h1, .inl h2⟩
  · exact ⟨h1, .inr ⟨g, cap, cur, e1, e2, (hb.block g (Array.getElem?_eq_some_iff.1 e3).1).trans e3, e4⟩⟩
theorem ownL {w : World} {b b' : Nat} {v : Value} {n : Nat} {xs : List Value} {e : TypeId} {k : Nat} (h : w.ownsRow b e k v n xs) (hb : b' ≤ b) : w.ownsRow b' e k v n xs := by
  obtain ⟨h1, h2 | ⟨g, cap, cur, e1, e2, e3⟩⟩ := h
  · exact ⟨h1, .inl h2⟩
  · exact ⟨h1, .inr ⟨g, cap, cur, e1, Nat.le_trans hb e2, e3⟩⟩
theorem ownS {w : World} {b g n c : Nat} {xs : List Value} {e : TypeId} {k : Nat} (h : w.ownsRow b e k (.slice (some ⟨g, 0, none⟩) n c) n xs) {p : Addr} (u : Value) (hp : p.block < b) : (w.setCell p u).ownsRow b e k (.slice (some ⟨g, 0, none⟩) n c) n xs := by
  obtain ⟨h1, ⟨h2, _⟩ | ⟨g', cap, cur, e1, e2, e3, e4⟩⟩ := h
  · cases h2
  · cases e1
    exact ⟨h1, .inr ⟨g, c, cur, rfl, e2, (Below.heap_setCell _ _ _ _ (by omega)).trans e3, e4⟩⟩
theorem own_nds {w : World} {b n c : Nat} {p : Option Addr} {M : List ND} (h : w.ownsRow b 44 3 (.slice p n c) n (rowN M)) (hn : M.length = n) (hk : ∀ x ∈ M, NDok w x) : NDsAt w p M ∧ (p = none → M = [] ∧ c = 0) := by
  rcases own_row (cs := cellsN) (fun _ => rfl) hn h with ⟨e1, e2, rfl⟩ | ⟨g, cap, e1, _, _, _, _, ho⟩
  · cases e1
    exact ⟨.inl rfl, fun _ => ⟨rfl, rfl⟩⟩
  · cases e1
    exact ⟨NDsAt.of_rows ho fun i hi => hk _ (by rw [getD_get hi]; exact List.getElem_mem hi), by simp⟩
theorem own_eds {w : World} {b n c : Nat} {p : Option Addr} {M : List ED} (h : w.ownsRow b 46 5 (.slice p n c) n (rowE M)) (hn : M.length = n) (hk : ∀ x ∈ M, EDok w x) : EDsAt w p M ∧ (p = none → M = [] ∧ c = 0) := by
  rcases own_row (cs := cellsE) (fun _ => rfl) hn h with ⟨e1, e2, rfl⟩ | ⟨g, cap, e1, _, _, _, _, ho⟩
  · cases e1
    exact ⟨.inl rfl, fun _ => ⟨rfl, rfl⟩⟩
  · cases e1
    exact ⟨EDsAt.of_rows ho fun i hi => hk _ (by rw [getD_get hi]; exact List.getElem_mem hi), by simp⟩
theorem ok_mem_n {w : World} {a : Option Addr} {L : List ND} (h : NDsAt w a L) : ∀ x ∈ L, NDok w x := fun x hx => by
  obtain ⟨j, hj, rfl⟩ := List.mem_iff_getElem.1 hx
  rw [← getD_get hj]
  exact h.oks j hj
theorem ok_mem_e {w : World} {a : Option Addr} {L : List ED} (h : EDsAt w a L) : ∀ x ∈ L, EDok w x := fun x hx => by
  obtain ⟨j, hj, rfl⟩ := List.mem_iff_getElem.1 hx
  rw [← getD_get hj]
  exact h.oks j hj
theorem ownS' {w : World} {b n c : Nat} {q : Option Addr} {xs : List Value} {e : TypeId} {k : Nat} (h : w.ownsRow b e k (.slice q n c) n xs) {p : Addr} (u : Value) (hp : p.block < b) : (w.setCell p u).ownsRow b e k (.slice q n c) n xs := by
  obtain ⟨h1, h2 | ⟨g', cap, cur, e1, e2, e3, e4⟩⟩ := h
  · exact ⟨h1, .inl h2⟩
  · cases e1
    exact ⟨h1, .inr ⟨g', c, cur, rfl, e2, (Below.heap_setCell _ _ _ _ (by omega)).trans e3, e4⟩⟩
/-- What stands while the edges are gone through. -/
structure ER (w wr : World) (r0 r1 r2 r3 : Value) (pN : Option Addr) (nN cN_ : Nat) (MN : List ND) (L : List ED) (dn j : Nat) (p : Option Addr) (m c : Nat) (M : List ED) : Prop where
  ts : TS w wr r0 r1 r2 r3 (.slice pN nN cN_) (.slice p m c)
  ownN : wr.ownsRow (w.heap.size + 3) 44 3 (.slice pN nN cN_) nN (rowN MN)
  own : wr.ownsRow (w.heap.size + 3) 46 5 (.slice p m c) m (rowE M)
  len : M.length = m
  le : m ≤ j
  prm : ∃ S, S.Sublist (L.take j) ∧ M.Perm S ∧ (dn = 0 → S = L.take j)
theorem ER.below {w wr w' : World} {r0 r1 r2 r3 : Value} {pN : Option Addr} {nN cN_ : Nat} {MN : List ND} {L : List ED} {dn j : Nat} {p : Option Addr} {m c : Nat} {M : List ED} (h : ER w wr r0 r1 r2 r3 pN nN cN_ MN L dn j p m c M) (hb : Below wr.heap.size wr w') : ER w w' r0 r1 r2 r3 pN nN cN_ MN L dn j p m c M :=
  { h with ts := h.ts.below hb, ownN := ownB h.ownN hb, own := ownB h.own hb }
theorem ER.skip {w wr : World} {r0 r1 r2 r3 : Value} {pN : Option Addr} {nN cN_ : Nat} {MN : List ND} {L : List ED} {dn j : Nat} {p : Option Addr} {m c : Nat} {M : List ED} (h : ER w wr r0 r1 r2 r3 pN nN cN_ MN L dn j p m c M) (hd : 0 < dn) : ER w wr r0 r1 r2 r3 pN nN cN_ MN L dn (j + 1) p m c M := by
  have hle := h.le
  obtain ⟨S, h1, h2, h3⟩ := h.prm
  exact { h with le := by omega, prm := ⟨S, h1.trans (List.take_sublist_take_left (by omega)), h2, fun e => by omega⟩ }
theorem er_next {L M M' : List ED} {dn j : Nat} {X : ED} (h : ∃ S, S.Sublist (L.take j) ∧ M.Perm S ∧ (dn = 0 → S = L.take j)) (htk : L.take (j + 1) = L.take j ++ [X]) (hp : M'.Perm (M ++ [X])) : ∃ S, S.Sublist (L.take (j + 1)) ∧ M'.Perm S ∧ (dn = 0 → S = L.take (j + 1)) := by
  obtain ⟨S, h1, h2, h3⟩ := h
  exact ⟨S ++ [X], by rw [htk]; exact h1.append (List.Sublist.refl _), hp.trans (h2.append_right [X]), fun e => by rw [h3 e, htk]⟩
theorem mod_nat (u j : Nat) : (u : Int) % ((j : Int) + 1) = ((u % (j + 1) : Nat) : Int) := rfl
theorem belowN {B : Nat} {a w : World} (h : Below B a w) (n : Nat) : Below B a (w.drewN n) := h.trans ⟨rfl, rfl, rfl, Nat.le_refl _, fun _ _ => rfl⟩
/-- The beginning and the rest of a row of the call's own, or of none. -/
theorem news_lo {α : Type} [Inhabited α] {w : World} {b n k c : Nat} {e : TypeId} {p : Option Addr} {cs : α → List Value} {M : List α} (hk : ∀ x, (cs x).length = k) (k0 : 0 < k) (hn : M.length = n) (h : w.ownsRow b e k (.slice p n c) n (M.flatMap cs)) (at_ : Nat) (ha : at_ ≤ n) : NewsAt w k (.slice p at_ c) at_ ((M.take at_).flatMap cs) := by
  rcases own_row hk hn h with ⟨e1, e2, rfl⟩ | ⟨g, cap, e1, _, _, _, _, ho⟩
  · cases e1
    have : at_ = 0 := by omega
    subst this
    exact .inl ⟨rfl, rfl, by simp⟩
  · cases e1
    exact part_lo ho hk k0 at_ c (by omega)
theorem news_hi {α : Type} [Inhabited α] {w : World} {b n k c : Nat} {e : TypeId} {p p' : Option Addr} {cs : α → List Value} {M : List α} (hk : ∀ x, (cs x).length = k) (k0 : 0 < k) (hn : M.length = n) (h : w.ownsRow b e k (.slice p n c) n (M.flatMap cs)) (at_ d : Nat) (ha : at_ ≤ n) (hp : (p = none ∧ p' = none ∧ d = 0) ∨ (n ≤ at_ ∧ p'.isSome = true) ∨ ∃ g, p = some ⟨g, 0, none⟩ ∧ p' = some ⟨g, at_ * k, none⟩) : NewsAt w k (.slice p' (n - at_) d) (n - at_) ((M.drop at_).flatMap cs) := by
  rcases hp with ⟨rfl, rfl, rfl⟩ | ⟨h1, h2⟩ | ⟨g, rfl, rfl⟩
  · rcases own_row hk hn h with ⟨e1, e2, rfl⟩ | ⟨g, cap, e1, _⟩
    · exact .inl ⟨by rw [show n - at_ = 0 by omega], by omega, by simp⟩
    · cases e1
  · obtain ⟨ad, rfl⟩ := Option.isSome_iff_exists.1 h2
    have : M.drop at_ = [] := List.drop_eq_nil_of_le (by omega)
    rw [this]
    exact .inr ⟨ad, d, rfl, by rw [show n - at_ = 0 by omega]; simp, by simp⟩
  · rcases own_row hk hn h with ⟨e1, e2, rfl⟩ | ⟨g', cap, e1, _, _, _, _, ho⟩
    · cases e1
    · cases e1
      have := part_hi ho hk k0 at_ d (by omega)
      rwa [hn] at this
end Go.Proofs.YtmioohbailhppaaDoor
