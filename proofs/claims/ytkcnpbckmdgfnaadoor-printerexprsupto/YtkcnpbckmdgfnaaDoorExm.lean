/-
  Exm: turned for the seat of the expressions.
-/
import Derived.Test.YtkcnpbckmdgfnaaDoorRdm
namespace Go.Proofs.YtkcnpbckmdgfnaaDoor
open Go.ChangeShapes Go.WideShapes Go.ChangeAt Go.RowKit
set_option linter.unusedSimpArgs false
set_option linter.unusedVariables false
def opE : Ex → Int
  | .leaf o _ _ _ _ _ _ => o
  | .one o _ => o
  | .two o _ _ => o
def nmE : Ex → List UInt8
  | .leaf _ n _ _ _ _ _ => n
  | _ => []
def prE : Ex → List UInt8
  | .leaf _ _ p _ _ _ _ => p
  | _ => []
def kE : Ex → Int
  | .leaf _ _ _ k _ _ _ => k
  | _ => 0
def bE : Ex → Bool
  | .leaf _ _ _ _ b _ _ => b
  | _ => false
def nE : Ex → Int
  | .leaf _ _ _ _ _ n _ => n
  | _ => 0
def tE : Ex → List UInt8
  | .leaf _ _ _ _ _ _ t => t
  | _ => []
/-- An expression's nine cells. -/
def Row9 (w : World) (g o : Nat) (x : Ex) (ks : Value) : Prop := w.cell? ⟨g, o, none⟩ = some (.int .i64 (opE x)) ∧ w.cell? ⟨g, o + 1, none⟩ = some (ks) ∧ w.cell? ⟨g, o + 2, none⟩ = some (.string (txt (nmE x))) ∧ w.cell? ⟨g, o + 3, none⟩ = some (.string (txt (prE x))) ∧ w.cell? ⟨g, o + 4, none⟩ = some (.int .i64 (kE x)) ∧ w.cell? ⟨g, o + 5, none⟩ = some (.bool (bE x)) ∧ w.cell? ⟨g, o + 6, none⟩ = some (.int .i64 (nE x)) ∧ w.cell? ⟨g, o + 7, none⟩ = some (.string (txt (tE x))) ∧ w.cell? ⟨g, o + 8, none⟩ = some (.slice none 0 0)
/-- An expression's parts in memory, in blocks of which S tells. -/
def ExAt (w : World) (S : Nat → Prop) : Ex → Value → Prop
  | .leaf _ _ _ _ _ _ _, ks => ks = .slice none 0 0
  | .one _ x, ks => ∃ g k1, ks = .slice (some ⟨g, 0, none⟩) 1 1 ∧ S g ∧ Row9 w g 0 x k1 ∧ ExAt w S x k1
  | .two _ x y, ks => ∃ g k1 k2, ks = .slice (some ⟨g, 0, none⟩) 2 2 ∧ S g ∧ Row9 w g 0 x k1 ∧ Row9 w g 9 y k2 ∧ ExAt w S x k1 ∧ ExAt w S y k2
theorem Row9.only {w w' : World} {B g o : Nat} {x : Ex} {ks : Value} (h : Row9 w g o x ks) (ho : Only (· = B) w w') (hg : g ≠ B) : Row9 w' g o x ks := by
  have hl : g < w.heap.size := World.block_lt_of_cell? w _ h.1
  obtain ⟨c0, c1, c2, c3, c4, c5, c6, c7, c8⟩ := h
  exact ⟨(ho.cell hl hg).trans c0, (ho.cell hl hg).trans c1, (ho.cell hl hg).trans c2, (ho.cell hl hg).trans c3, (ho.cell hl hg).trans c4, (ho.cell hl hg).trans c5, (ho.cell hl hg).trans c6, (ho.cell hl hg).trans c7, (ho.cell hl hg).trans c8⟩
theorem ExAt.onlyS {w w' : World} {B : Nat} {S : Nat → Prop} (ho : Only (· = B) w w') (hS : ∀ g, S g → g ≠ B) : ∀ (x : Ex) (ks : Value), ExAt w S x ks → ExAt w' S x ks
  | .leaf _ _ _ _ _ _ _, ks, h => h
  | .one _ a, ks, ⟨g, k1, e, hg, hr, h⟩ => ⟨g, k1, e, hg, hr.only ho (hS g hg), ExAt.onlyS ho hS a k1 h⟩
  | .two _ a b', ks, ⟨g, k1, k2, e, hg, hr, hr2, h, h2⟩ => ⟨g, k1, k2, e, hg, hr.only ho (hS g hg), hr2.only ho (hS g hg), ExAt.onlyS ho hS a k1 h, ExAt.onlyS ho hS b' k2 h2⟩
theorem ExAt.lt {w : World} {S : Nat → Prop} : ∀ (x : Ex) (ks : Value), ExAt w S x ks → ExAt w (fun g => S g ∧ g < w.heap.size) x ks
  | .leaf _ _ _ _ _ _ _, ks, h => h
  | .one _ a, ks, ⟨g, k1, e, hg, hr, h⟩ => ⟨g, k1, e, ⟨hg, World.block_lt_of_cell? w _ hr.1⟩, hr, ExAt.lt a k1 h⟩
  | .two _ a b', ks, ⟨g, k1, k2, e, hg, hr, hr2, h, h2⟩ => ⟨g, k1, k2, e, ⟨hg, World.block_lt_of_cell? w _ hr.1⟩, hr, hr2, ExAt.lt a k1 h, ExAt.lt b' k2 h2⟩
theorem ExAt.only {w w' : World} {B b : Nat} (ho : Only (· = B) w w') (hb : B < b) (x : Ex) (ks : Value) (h : ExAt w (b ≤ ·) x ks) : ExAt w' (b ≤ ·) x ks := ExAt.onlyS ho (fun g hg e => by subst e; exact absurd hg (by omega)) x ks h
theorem ExAt.slice {w : World} {S : Nat → Prop} {x : Ex} {ks : Value} (h : ExAt w S x ks) : ∃ p n c, ks = .slice p n c := by
  cases x with
  | leaf _ _ _ _ _ _ _ => exact ⟨_, _, _, h⟩
  | one _ _ => obtain ⟨g, k1, e, _⟩ := h; exact ⟨_, _, _, e⟩
  | two _ _ _ => obtain ⟨g, k1, k2, e, _⟩ := h; exact ⟨_, _, _, e⟩
end Go.Proofs.YtkcnpbckmdgfnaaDoor
