/-
  Nodes and edges in a row, patterns of them; what the types of rows take.
-/
import Derived.Test.YtefenbonjepjgaaGreatDoorLst
namespace Go.Proofs.YtefenbonjepjgaaGreatDoor
open Go.ChangeShapes Go.WideShapes Go.ChangeAt Go.RowKit
set_option linter.unusedSimpArgs false
set_option linter.unusedVariables false

def ENd : Elt Nd where
  at' x c _ _ := c = [.string (txt x.v), .string (txt x.l)]
  size := 2
  len _ _ _ _ h := by subst h; rfl
  one _ _ _ _ h := by subst h; intro u hu; simp at hu; rcases hu with rfl | rfl <;> rfl
  weak _ _ _ _ _ _ h := h
  lt _ _ _ _ h := h
  keep _ _ _ _ _ _ h := h
def EEd : Elt Ed where
  at' x c _ _ := c = [.string (txt x.v), .string (txt x.l), .bool x.back, .int .i64 x.mode, .int .i64 x.lo, .int .i64 x.hi]
  size := 6
  len _ _ _ _ h := by subst h; rfl
  one _ _ _ _ h := by subst h; intro u hu; simp at hu; rcases hu with rfl | rfl | rfl | rfl | rfl | rfl <;> rfl
  weak _ _ _ _ _ _ h := h
  lt _ _ _ _ h := h
  keep _ _ _ _ _ _ h := h
/-- A row whose block is one of which S tells. -/
def RowS {α : Type} (E : Elt α) (t : TypeId) (S : Nat → Prop) (l : List α) (v : Value) (w : World) : Prop := ∃ C, w.ownsRow 0 t E.size v l.length C.flatten ∧ (∀ g, v.ownBlock = some g → S g) ∧ Ls E S w l C
theorem RowS.weak {α : Type} {E : Elt α} {t : TypeId} {S S' : Nat → Prop} {l : List α} {v : Value} {w : World} (hS : ∀ g, S g → S' g) : RowS E t S l v w → RowS E t S' l v w :=
  fun ⟨C, h1, h2, h3⟩ => ⟨C, h1, fun g hg => hS g (h2 g hg), Ls.weak hS h3⟩
theorem RowS.lt {α : Type} {E : Elt α} {t : TypeId} {S : Nat → Prop} {l : List α} {v : Value} {w : World} : RowS E t S l v w → RowS E t (fun g => S g ∧ g < w.heap.size) l v w :=
  fun ⟨C, h1, h2, h3⟩ => ⟨C, h1, fun g hg => ⟨h2 g hg, (own_blk h1 hg).2⟩, h3.lt⟩
theorem RowS.keep {α : Type} {E : Elt α} {t : TypeId} {S : Nat → Prop} {l : List α} {v : Value} {w w' : World} (h : ∀ g, S g → g < w.heap.size → w'.heap[g]? = w.heap[g]?) : RowS E t S l v w → RowS E t S l v w'
  | ⟨C, ⟨h1, h1'⟩, h2, h3⟩ => by
    refine ⟨C, ⟨h1, ?_⟩, h2, h3.keep h⟩
    rcases h1' with h1' | ⟨g, cap, cur, e1, e2, e3, e4⟩
    · exact .inl h1'
    · exact .inr ⟨g, cap, cur, e1, e2, (h g (h2 g (by rw [e1]; rfl)) (Array.getElem?_eq_some_iff.1 e3).1).trans e3, e4⟩
theorem RowS.val {α : Type} {E : Elt α} {t : TypeId} {S : Nat → Prop} {l : List α} {v : Value} {w : World} : RowS E t S l v w → ∃ p c, v = .slice p l.length c := fun ⟨_, h1, _, _⟩ => own_val h1
/-- Patterns. -/
def EPt : Elt Pt where
  at' x c S w := ∃ p1 c1 p2 c2, c = [.slice p1 x.nodes.length c1, .slice p2 x.edges.length c2] ∧ RowS ENd 66 S x.nodes (.slice p1 x.nodes.length c1) w ∧ RowS EEd 64 S x.edges (.slice p2 x.edges.length c2) w
  size := 2
  len _ _ _ _ h := by obtain ⟨_, _, _, _, rfl, _⟩ := h; rfl
  one _ _ _ _ h := by
    obtain ⟨_, _, _, _, rfl, _⟩ := h
    intro u hu
    simp at hu
    rcases hu with rfl | rfl <;> rfl
  weak _ _ _ _ _ h := fun ⟨a, b, c, d, e, h1, h2⟩ => ⟨a, b, c, d, e, h1.weak h, h2.weak h⟩
  lt _ _ _ _ := fun ⟨a, b, c, d, e, h1, h2⟩ => ⟨a, b, c, d, e, h1.lt, h2.lt⟩
  keep _ _ _ _ _ h := fun ⟨a, b, c, d, e, h1, h2⟩ => ⟨a, b, c, d, e, h1.keep h, h2.keep h⟩
/-- A pattern that a call hands back. -/
def IsPt (b : Nat) (x : Pt) (v : Value) (w : World) : Prop := ∃ p1 c1 p2 c2, v = .agg #[.slice p1 x.nodes.length c1, .slice p2 x.edges.length c2] ∧ EPt.at' x [.slice p1 x.nodes.length c1, .slice p2 x.edges.length c2] (b ≤ ·) w
theorem info66 : (Tryz.prog.info? 66).map (fun i => (i.zero, i.size, i.bytes)) = some (some (.agg #[.string ⟨#[]⟩, .string ⟨#[]⟩]), 2, 32) := by kernel_rfl
theorem info82 : (Tryz.prog.info? 82).map (fun i => (i.zero, i.size, i.bytes)) = some (some (.agg #[.string ⟨#[]⟩, .bool false]), 2, 24) := by kernel_rfl
theorem info61 : (Tryz.prog.info? 61).map (fun i => (i.zero, i.size, i.bytes)) = some (some (.agg #[.slice none 0 0, .slice none 0 0]), 2, 48) := by kernel_rfl
theorem info64 : (Tryz.prog.info? 64).map (fun i => (i.zero, i.size, i.bytes)) = some (some (.agg #[.string ⟨#[]⟩, .string ⟨#[]⟩, .bool false, .int .i64 0, .int .i64 0, .int .i64 0]), 6, 64) := by kernel_rfl
theorem info69 : (Tryz.prog.info? 69).map (fun i => (i.zero, i.size, i.bytes)) = some (some (.agg #[.int .i64 0, .slice none 0 0, .string ⟨#[]⟩, .string ⟨#[]⟩, .int .i64 0, .bool false, .int .i64 0, .string ⟨#[]⟩, .slice none 0 0, .string ⟨#[]⟩]), 10, 144) := by kernel_rfl
end Go.Proofs.YtefenbonjepjgaaGreatDoor
