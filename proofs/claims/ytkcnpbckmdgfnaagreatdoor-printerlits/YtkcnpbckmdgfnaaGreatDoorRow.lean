/-
  Words in a row of the call's own.
-/
import Derived.Test.YtkcnpbckmdgfnaaGreatDoorRna
import Derived.Test.YtkcnpbckmdgfnaaGreatDoorLxa
import Derived.Maps.AppendAt
import Derived.Laws.OwnMore
import Derived.Deep.AppendLies
namespace Go.Proofs.YtkcnpbckmdgfnaaGreatDoor
open Go.RowKit
set_option linter.unusedSimpArgs false
set_option linter.unusedVariables false

def cellsK (x : Tk) : List Value := [.int .i64 x.k, .string (txt x.t), .int .i64 x.n, .int .i64 x.at']
def rowK (L : List Tk) : List Value := L.flatMap cellsK
theorem oneK (x : Tk) : ∀ u ∈ cellsK x, u.oneCell' = true := by
  intro u hu
  simp [cellsK] at hu
  rcases hu with rfl | rfl | rfl | rfl <;> rfl
theorem rowK_more (L : List Tk) (y : Tk) : rowK L ++ cellsK y = rowK (L ++ [y]) := by simp [rowK]
theorem rowK_len : ∀ L : List Tk, (rowK L).length = L.length * 4
  | [] => rfl
  | x :: r => by
    have := rowK_len r
    unfold rowK at this ⊢
    rw [List.flatMap_cons, List.length_append, this, List.length_cons]
    show 4 + _ = _
    omega
theorem rowK_at : ∀ (L : List Tk) (i q : Nat), i < L.length → q < 4 → (rowK L)[i * 4 + q]? = (cellsK (L.getD i default))[q]?
  | [], i, q, hi, _ => by simp at hi
  | x :: r, 0, q, _, hq => by
    unfold rowK
    rw [List.flatMap_cons, List.getElem?_append_left (by show 0 * 4 + q < 4; omega)]
    simp
  | x :: r, i + 1, q, hi, hq => by
    have := rowK_at r i q (by simpa using hi) hq
    unfold rowK at this ⊢
    rw [List.flatMap_cons, List.getElem?_append_right (by show 4 ≤ _; omega)]
    rw [show (i + 1) * 4 + q - (cellsK x).length = i * 4 + q by show _ - 4 = _; omega, this]
    simp
theorem info147 : (Tryz.prog.info? 147).map (fun i => (i.zero, i.size, i.bytes)) = some (some (.agg #[.int .i64 0, .string ⟨#[]⟩, .int .i64 0, .int .i64 0]), 4, 40) := by kernel_rfl
theorem info_parts {P : Program} {e : TypeId} {z : Value} {size bytes : Nat} (h : (P.info? e).map (fun i => (i.zero, i.size, i.bytes)) = some (some z, size, bytes)) : ∃ i, P.info? e = some i ∧ i.zero = some z ∧ i.size = size ∧ i.bytes = bytes := by
  obtain ⟨i, hi, he⟩ := Option.map_eq_some_iff.1 h
  simp only [Prod.mk.injEq] at he
  exact ⟨i, hi, he.1, he.2.1, he.2.2⟩
theorem own_below {w w' : World} {base : Nat} {v : Value} {n : Nat} {xs : List Value} {e : TypeId} {k : Nat} (h : w.ownsRow base e k v n xs) (hb : Below w.heap.size w w') : w'.ownsRow base e k v n xs := by
  obtain ⟨h1, h2 | ⟨g, cap, cur, e1, e2, e3, e4⟩⟩ := h
  · exact ⟨h1, .inl h2⟩
  · exact ⟨h1, .inr ⟨g, cap, cur, e1, e2, (hb.block g (Array.getElem?_eq_some_iff.1 e3).1).trans e3, e4⟩⟩
theorem own_nil (w : World) (base : Nat) (e : TypeId) (k : Nat) : w.ownsRow base e k (.slice none 0 0) 0 [] := ⟨by simp, .inl ⟨rfl, rfl⟩⟩
/-- A world in which nothing elder has turned, but for a row of the call's own. -/
theorem below_row {B : Nat} {W w w' : World} {v : Value} {e : TypeId} {k n : Nat} {xs : List Value} (h : Below B W w) (hg : w.grownBy w' v.ownBlock) (ho : w.ownsRow B e k v n xs) (hB : B ≤ W.heap.size) : Below B W w' := by
  refine ⟨hg.os.trans h.os, hg.tape.trans h.tape, hg.output.trans h.output, Nat.le_trans h.size hg.size, fun i hi => ?_⟩
  have hs := h.size
  refine (hg.block i (by omega) ?_).trans (h.block i hi)
  obtain ⟨_, ⟨e1, _⟩ | ⟨g, cap, cur, e1, e2, _⟩⟩ := ho
  · rw [e1]; simp [Value.ownBlock]
  · rw [e1]
    simp [Value.ownBlock]
    omega
theorem jump_weak {l : Nat} {J J' : Act → World → Prop} {Q : Exit → Act → World → Prop} (h : ∀ a w, J a w → J' a w) : ∀ e a w, Exit.jump l J Q e a w → Exit.jump l J' Q e a w := by
  intro e a w k
  cases e <;> first
    | exact k
    | exact ⟨k.1, h _ _ k.2⟩
/-- A label to which the code behind it leads back: the code behind it once. -/
theorem wp_scope_back {P : Program} {a : Act} {w : World} {Q : Exit → Act → World → Prop} {c X : Code} (l : Nat) (J : Act → World → Prop) (μ : Act → World → Nat) (hf : findLabel c l = some (.seq .skip X))
    (first : (∀ a w, J a w → X.wp P (Exit.jump l J Q) a w) → c.wp P (Exit.jump l J Q) a w)
    (pass : ∀ a w, J a w → X.wp P (Exit.jump l (fun a' w' => J a' w' ∧ μ a' w' < μ a w) Q) a w) : (Code.scope c).wp P Q a w :=
  wp_scope_jumps l J μ hf (first fun a w h => wp_mono (pass a w h) (jump_weak fun _ _ h => h.1)) (fun a w h => wp_seq (wp_skip (pass a w h)))
theorem news_two (w4 : World) (x : Tk) (a' : Int) (ha : (x.at' : Int) = a') (o : Obj) : ∀ j u, (cellsK x)[j]? = some u →
    ((w4.alloc o).alloc (.cells #[.int .i64 x.k, .string (txt x.t), .int .i64 x.n, .int .i64 a'] 147)).cell? ((⟨w4.heap.size + 1, 0, none⟩ : Addr).add j) = some u := by
  subst ha
  refine World.news_of_block (cs := #[.int .i64 x.k, .string (txt x.t), .int .i64 x.n, .int .i64 x.at']) (t := 147) (fr := (0, 0)) ?_
  have := heap_alloc_new (w4.alloc o) (.cells #[.int .i64 x.k, .string (txt x.t), .int .i64 x.n, .int .i64 x.at'] 147)
  simpa using this
end Go.Proofs.YtkcnpbckmdgfnaaGreatDoor
