/-
  Expressions in memory; the calls that make them; one of some words.
  The calls that make an expression of others, or of a value; one of some words.
-/
import Derived.Test.YtkcnpbckmdgfnaaGreatDoorRdm
namespace Go.Proofs.YtkcnpbckmdgfnaaGreatDoor
open Go.ChangeShapes Go.WideShapes Go.ChangeAt Go.RowKit
set_option linter.unusedSimpArgs false
set_option linter.unusedVariables false

def opE : Ex → Int
  | .leaf o _ _ _ _ _ _ => o
  | .one o _ => o
  | .two o _ _ => o
def nmE : Ex → List UInt8
  | .leaf _ n _ _ _ _ _ => n
  | _ => []
def prE : Ex → List UInt8
  | .leaf _ _ p _ _ _ _ => p
  | _ => []
def kE : Ex → Int
  | .leaf _ _ _ k _ _ _ => k
  | _ => 0
def bE : Ex → Bool
  | .leaf _ _ _ _ b _ _ => b
  | _ => false
def nE : Ex → Int
  | .leaf _ _ _ _ _ n _ => n
  | _ => 0
def tE : Ex → List UInt8
  | .leaf _ _ _ _ _ _ t => t
  | _ => []
/-- An expression's nine cells. -/
def Row9 (w : World) (g o : Nat) (x : Ex) (ks : Value) : Prop := w.cell? ⟨g, o, none⟩ = some (.int .i64 (opE x)) ∧ w.cell? ⟨g, o + 1, none⟩ = some (ks) ∧ w.cell? ⟨g, o + 2, none⟩ = some (.string (txt (nmE x))) ∧ w.cell? ⟨g, o + 3, none⟩ = some (.string (txt (prE x))) ∧ w.cell? ⟨g, o + 4, none⟩ = some (.int .i64 (kE x)) ∧ w.cell? ⟨g, o + 5, none⟩ = some (.bool (bE x)) ∧ w.cell? ⟨g, o + 6, none⟩ = some (.int .i64 (nE x)) ∧ w.cell? ⟨g, o + 7, none⟩ = some (.string (txt (tE x))) ∧ w.cell? ⟨g, o + 8, none⟩ = some (.slice none 0 0)
/-- An expression's parts in memory, in blocks of which S tells. -/
def ExAt (w : World) (S : Nat → Prop) : Ex → Value → Prop
  | .leaf _ _ _ _ _ _ _, ks => ks = .slice none 0 0
  | .one _ x, ks => ∃ g k1, ks = .slice (some ⟨g, 0, none⟩) 1 1 ∧ S g ∧ Row9 w g 0 x k1 ∧ ExAt w S x k1
  | .two _ x y, ks => ∃ g k1 k2, ks = .slice (some ⟨g, 0, none⟩) 2 2 ∧ S g ∧ Row9 w g 0 x k1 ∧ Row9 w g 9 y k2 ∧ ExAt w S x k1 ∧ ExAt w S y k2
theorem Row9.only {w w' : World} {B g o : Nat} {x : Ex} {ks : Value} (h : Row9 w g o x ks) (ho : Only (· = B) w w') (hg : g ≠ B) : Row9 w' g o x ks := by
  have hl : g < w.heap.size := World.block_lt_of_cell? w _ h.1
  obtain ⟨c0, c1, c2, c3, c4, c5, c6, c7, c8⟩ := h
  exact ⟨(ho.cell hl hg).trans c0, (ho.cell hl hg).trans c1, (ho.cell hl hg).trans c2, (ho.cell hl hg).trans c3, (ho.cell hl hg).trans c4, (ho.cell hl hg).trans c5, (ho.cell hl hg).trans c6, (ho.cell hl hg).trans c7, (ho.cell hl hg).trans c8⟩
theorem ExAt.onlyS {w w' : World} {B : Nat} {S : Nat → Prop} (ho : Only (· = B) w w') (hS : ∀ g, S g → g ≠ B) : ∀ (x : Ex) (ks : Value), ExAt w S x ks → ExAt w' S x ks
  | .leaf _ _ _ _ _ _ _, ks, h => h
  | .one _ a, ks, ⟨g, k1, e, hg, hr, h⟩ => ⟨g, k1, e, hg, hr.only ho (hS g hg), ExAt.onlyS ho hS a k1 h⟩
  | .two _ a b', ks, ⟨g, k1, k2, e, hg, hr, hr2, h, h2⟩ => ⟨g, k1, k2, e, hg, hr.only ho (hS g hg), hr2.only ho (hS g hg), ExAt.onlyS ho hS a k1 h, ExAt.onlyS ho hS b' k2 h2⟩
theorem ExAt.weakS {w : World} {S S' : Nat → Prop} (hc : ∀ g, S g → S' g) : ∀ (x : Ex) (ks : Value), ExAt w S x ks → ExAt w S' x ks
  | .leaf _ _ _ _ _ _ _, ks, h => h
  | .one _ a, ks, ⟨g, k1, e, hg, hr, h⟩ => ⟨g, k1, e, hc g hg, hr, ExAt.weakS hc a k1 h⟩
  | .two _ a b', ks, ⟨g, k1, k2, e, hg, hr, hr2, h, h2⟩ => ⟨g, k1, k2, e, hc g hg, hr, hr2, ExAt.weakS hc a k1 h, ExAt.weakS hc b' k2 h2⟩
theorem ExAt.lt {w : World} {S : Nat → Prop} : ∀ (x : Ex) (ks : Value), ExAt w S x ks → ExAt w (fun g => S g ∧ g < w.heap.size) x ks
  | .leaf _ _ _ _ _ _ _, ks, h => h
  | .one _ a, ks, ⟨g, k1, e, hg, hr, h⟩ => ⟨g, k1, e, ⟨hg, World.block_lt_of_cell? w _ hr.1⟩, hr, ExAt.lt a k1 h⟩
  | .two _ a b', ks, ⟨g, k1, k2, e, hg, hr, hr2, h, h2⟩ => ⟨g, k1, k2, e, ⟨hg, World.block_lt_of_cell? w _ hr.1⟩, hr, hr2, ExAt.lt a k1 h, ExAt.lt b' k2 h2⟩
theorem ExAt.only {w w' : World} {B b : Nat} (ho : Only (· = B) w w') (hb : B < b) (x : Ex) (ks : Value) (h : ExAt w (b ≤ ·) x ks) : ExAt w' (b ≤ ·) x ks := ExAt.onlyS ho (fun g hg e => by subst e; exact absurd hg (by omega)) x ks h
theorem ExAt.weak {w : World} {b c : Nat} (hc : c ≤ b) (x : Ex) (ks : Value) (h : ExAt w (b ≤ ·) x ks) : ExAt w (c ≤ ·) x ks := ExAt.weakS (fun g hg => Nat.le_trans hc hg) x ks h
theorem Row9.keep {w w' : World} {g o : Nat} {x : Ex} {ks : Value} (h : Row9 w g o x ks) (ho : Below w.heap.size w w') : Row9 w' g o x ks := by
  have hl : g < w.heap.size := World.block_lt_of_cell? w _ h.1
  obtain ⟨c0, c1, c2, c3, c4, c5, c6, c7, c8⟩ := h
  exact ⟨(ho.cell (p := ⟨g, o, none⟩) hl).trans c0, (ho.cell (p := ⟨g, o + 1, none⟩) hl).trans c1, (ho.cell (p := ⟨g, o + 2, none⟩) hl).trans c2, (ho.cell (p := ⟨g, o + 3, none⟩) hl).trans c3, (ho.cell (p := ⟨g, o + 4, none⟩) hl).trans c4, (ho.cell (p := ⟨g, o + 5, none⟩) hl).trans c5, (ho.cell (p := ⟨g, o + 6, none⟩) hl).trans c6, (ho.cell (p := ⟨g, o + 7, none⟩) hl).trans c7, (ho.cell (p := ⟨g, o + 8, none⟩) hl).trans c8⟩
theorem ExAt.keep {w w' : World} {S : Nat → Prop} : ∀ {x : Ex} {ks : Value}, ExAt w S x ks → Below w.heap.size w w' → ExAt w' S x ks
  | .leaf _ _ _ _ _ _ _, ks, h, _ => h
  | .one _ a, ks, ⟨g, k1, e, hg, hr, h⟩, hb => ⟨g, k1, e, hg, hr.keep hb, ExAt.keep h hb⟩
  | .two _ a b', ks, ⟨g, k1, k2, e, hg, hr, hr2, h, h2⟩, hb => ⟨g, k1, k2, e, hg, hr.keep hb, hr2.keep hb, ExAt.keep h hb, ExAt.keep h2 hb⟩
theorem only_of_below {w w' : World} {B : Nat} (h : Below w.heap.size w w') : Only (· = B) w w' := Below.only _ h
/-- An expression that a call hands back. -/
def IsEx (b : Nat) (x : Ex) (v : Value) (w : World) : Prop := ∃ p n c, v = .agg #[.int .i64 (opE x), .slice p n c, .string (txt (nmE x)), .string (txt (prE x)), .int .i64 (kE x), .bool (bE x), .int .i64 (nE x), .string (txt (tE x)), .slice none 0 0] ∧ ExAt w (b ≤ ·) x (.slice p n c)
theorem ExAt.slice {w : World} {S : Nat → Prop} {x : Ex} {ks : Value} (h : ExAt w S x ks) : ∃ p n c, ks = .slice p n c := by
  cases x with
  | leaf _ _ _ _ _ _ _ => exact ⟨_, _, _, h⟩
  | one _ _ => obtain ⟨g, k1, e, _⟩ := h; exact ⟨_, _, _, e⟩
  | two _ _ _ => obtain ⟨g, k1, k2, e, _⟩ := h; exact ⟨_, _, _, e⟩
theorem res40 {fn : Func} {q : Tmp} (h : fn.results = #[.cell q 39]) {tmps : Array Value} {w : World} {R : Nat} {v0 v1 v2 v3 v4 v5 v6 v7 v8 : Value} (hq : tmps.getD q undef = .pointer (some ⟨R, 0, none⟩))
    (c0 : w.cell? ⟨R, 0, none⟩ = some v0) (c1 : w.cell? ⟨R, 1, none⟩ = some v1) (c2 : w.cell? ⟨R, 2, none⟩ = some v2) (c3 : w.cell? ⟨R, 3, none⟩ = some v3) (c4 : w.cell? ⟨R, 4, none⟩ = some v4) (c5 : w.cell? ⟨R, 5, none⟩ = some v5) (c6 : w.cell? ⟨R, 6, none⟩ = some v6) (c7 : w.cell? ⟨R, 7, none⟩ = some v7) (c8 : w.cell? ⟨R, 8, none⟩ = some v8) :
    (results fn tmps).run Tryz.prog w = .ok (.agg #[v0, v1, v2, v3, v4, v5, v6, v7, v8]) w := by
  have hq' : tmps[q]?.getD undef = .pointer (some ⟨R, 0, none⟩) := by simpa using hq
  simp [results, h, hq', go_sem, c0, c1, c2, c3, c4, c5, c6, c7, c8]
/-- Nine stores into a block's cells. -/
theorem put9 {w1 : World} {R : Nat} {u0 u1 u2 u3 u4 u5 u6 u7 u8 v0 v1 v2 v3 v4 v5 v6 v7 v8 : Value} (x0 : w1.cell? ⟨R, 0, none⟩ = some u0) (x1 : w1.cell? ⟨R, 1, none⟩ = some u1) (x2 : w1.cell? ⟨R, 2, none⟩ = some u2) (x3 : w1.cell? ⟨R, 3, none⟩ = some u3) (x4 : w1.cell? ⟨R, 4, none⟩ = some u4) (x5 : w1.cell? ⟨R, 5, none⟩ = some u5) (x6 : w1.cell? ⟨R, 6, none⟩ = some u6) (x7 : w1.cell? ⟨R, 7, none⟩ = some u7) (x8 : w1.cell? ⟨R, 8, none⟩ = some u8) :
    (((((((((w1.setCell ⟨R, 0, none⟩ v0).setCell ⟨R, 1, none⟩ v1).setCell ⟨R, 2, none⟩ v2).setCell ⟨R, 3, none⟩ v3).setCell ⟨R, 4, none⟩ v4).setCell ⟨R, 5, none⟩ v5).setCell ⟨R, 6, none⟩ v6).setCell ⟨R, 7, none⟩ v7).setCell ⟨R, 8, none⟩ v8).cell? ⟨R, 0, none⟩ = some v0 ∧ (((((((((w1.setCell ⟨R, 0, none⟩ v0).setCell ⟨R, 1, none⟩ v1).setCell ⟨R, 2, none⟩ v2).setCell ⟨R, 3, none⟩ v3).setCell ⟨R, 4, none⟩ v4).setCell ⟨R, 5, none⟩ v5).setCell ⟨R, 6, none⟩ v6).setCell ⟨R, 7, none⟩ v7).setCell ⟨R, 8, none⟩ v8).cell? ⟨R, 1, none⟩ = some v1 ∧ (((((((((w1.setCell ⟨R, 0, none⟩ v0).setCell ⟨R, 1, none⟩ v1).setCell ⟨R, 2, none⟩ v2).setCell ⟨R, 3, none⟩ v3).setCell ⟨R, 4, none⟩ v4).setCell ⟨R, 5, none⟩ v5).setCell ⟨R, 6, none⟩ v6).setCell ⟨R, 7, none⟩ v7).setCell ⟨R, 8, none⟩ v8).cell? ⟨R, 2, none⟩ = some v2 ∧ (((((((((w1.setCell ⟨R, 0, none⟩ v0).setCell ⟨R, 1, none⟩ v1).setCell ⟨R, 2, none⟩ v2).setCell ⟨R, 3, none⟩ v3).setCell ⟨R, 4, none⟩ v4).setCell ⟨R, 5, none⟩ v5).setCell ⟨R, 6, none⟩ v6).setCell ⟨R, 7, none⟩ v7).setCell ⟨R, 8, none⟩ v8).cell? ⟨R, 3, none⟩ = some v3 ∧ (((((((((w1.setCell ⟨R, 0, none⟩ v0).setCell ⟨R, 1, none⟩ v1).setCell ⟨R, 2, none⟩ v2).setCell ⟨R, 3, none⟩ v3).setCell ⟨R, 4, none⟩ v4).setCell ⟨R, 5, none⟩ v5).setCell ⟨R, 6, none⟩ v6).setCell ⟨R, 7, none⟩ v7).setCell ⟨R, 8, none⟩ v8).cell? ⟨R, 4, none⟩ = some v4 ∧ (((((((((w1.setCell ⟨R, 0, none⟩ v0).setCell ⟨R, 1, none⟩ v1).setCell ⟨R, 2, none⟩ v2).setCell ⟨R, 3, none⟩ v3).setCell ⟨R, 4, none⟩ v4).setCell ⟨R, 5, none⟩ v5).setCell ⟨R, 6, none⟩ v6).setCell ⟨R, 7, none⟩ v7).setCell ⟨R, 8, none⟩ v8).cell? ⟨R, 5, none⟩ = some v5 ∧ (((((((((w1.setCell ⟨R, 0, none⟩ v0).setCell ⟨R, 1, none⟩ v1).setCell ⟨R, 2, none⟩ v2).setCell ⟨R, 3, none⟩ v3).setCell ⟨R, 4, none⟩ v4).setCell ⟨R, 5, none⟩ v5).setCell ⟨R, 6, none⟩ v6).setCell ⟨R, 7, none⟩ v7).setCell ⟨R, 8, none⟩ v8).cell? ⟨R, 6, none⟩ = some v6 ∧ (((((((((w1.setCell ⟨R, 0, none⟩ v0).setCell ⟨R, 1, none⟩ v1).setCell ⟨R, 2, none⟩ v2).setCell ⟨R, 3, none⟩ v3).setCell ⟨R, 4, none⟩ v4).setCell ⟨R, 5, none⟩ v5).setCell ⟨R, 6, none⟩ v6).setCell ⟨R, 7, none⟩ v7).setCell ⟨R, 8, none⟩ v8).cell? ⟨R, 7, none⟩ = some v7 ∧ (((((((((w1.setCell ⟨R, 0, none⟩ v0).setCell ⟨R, 1, none⟩ v1).setCell ⟨R, 2, none⟩ v2).setCell ⟨R, 3, none⟩ v3).setCell ⟨R, 4, none⟩ v4).setCell ⟨R, 5, none⟩ v5).setCell ⟨R, 6, none⟩ v6).setCell ⟨R, 7, none⟩ v7).setCell ⟨R, 8, none⟩ v8).cell? ⟨R, 8, none⟩ = some v8 ∧ Only (· = R) w1 (((((((((w1.setCell ⟨R, 0, none⟩ v0).setCell ⟨R, 1, none⟩ v1).setCell ⟨R, 2, none⟩ v2).setCell ⟨R, 3, none⟩ v3).setCell ⟨R, 4, none⟩ v4).setCell ⟨R, 5, none⟩ v5).setCell ⟨R, 6, none⟩ v6).setCell ⟨R, 7, none⟩ v7).setCell ⟨R, 8, none⟩ v8) :=
  ⟨(set_at _ _ _ (by decide)).trans ((set_at _ _ _ (by decide)).trans ((set_at _ _ _ (by decide)).trans ((set_at _ _ _ (by decide)).trans ((set_at _ _ _ (by decide)).trans ((set_at _ _ _ (by decide)).trans ((set_at _ _ _ (by decide)).trans ((set_at _ _ _ (by decide)).trans (set_same (x0))))))))), (set_at _ _ _ (by decide)).trans ((set_at _ _ _ (by decide)).trans ((set_at _ _ _ (by decide)).trans ((set_at _ _ _ (by decide)).trans ((set_at _ _ _ (by decide)).trans ((set_at _ _ _ (by decide)).trans ((set_at _ _ _ (by decide)).trans (set_same ((set_at _ _ _ (by decide)).trans (x1))))))))), (set_at _ _ _ (by decide)).trans ((set_at _ _ _ (by decide)).trans ((set_at _ _ _ (by decide)).trans ((set_at _ _ _ (by decide)).trans ((set_at _ _ _ (by decide)).trans ((set_at _ _ _ (by decide)).trans (set_same ((set_at _ _ _ (by decide)).trans ((set_at _ _ _ (by decide)).trans (x2))))))))), (set_at _ _ _ (by decide)).trans ((set_at _ _ _ (by decide)).trans ((set_at _ _ _ (by decide)).trans ((set_at _ _ _ (by decide)).trans ((set_at _ _ _ (by decide)).trans (set_same ((set_at _ _ _ (by decide)).trans ((set_at _ _ _ (by decide)).trans ((set_at _ _ _ (by decide)).trans (x3))))))))), (set_at _ _ _ (by decide)).trans ((set_at _ _ _ (by decide)).trans ((set_at _ _ _ (by decide)).trans ((set_at _ _ _ (by decide)).trans (set_same ((set_at _ _ _ (by decide)).trans ((set_at _ _ _ (by decide)).trans ((set_at _ _ _ (by decide)).trans ((set_at _ _ _ (by decide)).trans (x4))))))))), (set_at _ _ _ (by decide)).trans ((set_at _ _ _ (by decide)).trans ((set_at _ _ _ (by decide)).trans (set_same ((set_at _ _ _ (by decide)).trans ((set_at _ _ _ (by decide)).trans ((set_at _ _ _ (by decide)).trans ((set_at _ _ _ (by decide)).trans ((set_at _ _ _ (by decide)).trans (x5))))))))), (set_at _ _ _ (by decide)).trans ((set_at _ _ _ (by decide)).trans (set_same ((set_at _ _ _ (by decide)).trans ((set_at _ _ _ (by decide)).trans ((set_at _ _ _ (by decide)).trans ((set_at _ _ _ (by decide)).trans ((set_at _ _ _ (by decide)).trans ((set_at _ _ _ (by decide)).trans (x6))))))))), (set_at _ _ _ (by decide)).trans (set_same ((set_at _ _ _ (by decide)).trans ((set_at _ _ _ (by decide)).trans ((set_at _ _ _ (by decide)).trans ((set_at _ _ _ (by decide)).trans ((set_at _ _ _ (by decide)).trans ((set_at _ _ _ (by decide)).trans ((set_at _ _ _ (by decide)).trans (x7))))))))), set_same ((set_at _ _ _ (by decide)).trans ((set_at _ _ _ (by decide)).trans ((set_at _ _ _ (by decide)).trans ((set_at _ _ _ (by decide)).trans ((set_at _ _ _ (by decide)).trans ((set_at _ _ _ (by decide)).trans ((set_at _ _ _ (by decide)).trans ((set_at _ _ _ (by decide)).trans (x8))))))))), ((((((((only_set _ _ _ _).trans (only_set _ _ _ _)).trans (only_set _ _ _ _)).trans (only_set _ _ _ _)).trans (only_set _ _ _ _)).trans (only_set _ _ _ _)).trans (only_set _ _ _ _)).trans (only_set _ _ _ _)).trans (only_set _ _ _ _)⟩
theorem cells9_of {w w1 : World} {B : Nat} {v0 v1 v2 v3 v4 v5 v6 v7 v8 : Value} {t : Nat} (ho : Only (· = B) (w.alloc (.cells #[v0, v1, v2, v3, v4, v5, v6, v7, v8] t)) w1) (hB : B < w.heap.size) :
    w1.cell? ⟨w.heap.size, 0, none⟩ = some v0 ∧ w1.cell? ⟨w.heap.size, 1, none⟩ = some v1 ∧ w1.cell? ⟨w.heap.size, 2, none⟩ = some v2 ∧ w1.cell? ⟨w.heap.size, 3, none⟩ = some v3 ∧ w1.cell? ⟨w.heap.size, 4, none⟩ = some v4 ∧ w1.cell? ⟨w.heap.size, 5, none⟩ = some v5 ∧ w1.cell? ⟨w.heap.size, 6, none⟩ = some v6 ∧ w1.cell? ⟨w.heap.size, 7, none⟩ = some v7 ∧ w1.cell? ⟨w.heap.size, 8, none⟩ = some v8 :=
  ⟨new_cell ho hB rfl, new_cell ho hB rfl, new_cell ho hB rfl, new_cell ho hB rfl, new_cell ho hB rfl, new_cell ho hB rfl, new_cell ho hB rfl, new_cell ho hB rfl, new_cell ho hB rfl⟩
/-- The call's result block, its first new one, is as it was made. -/
theorem res_cells {w w1 : World} {B : Nat} (ho : Only (· = B) (w.alloc (.cells #[.int .i64 0, .slice none 0 0, .string ⟨#[]⟩, .string ⟨#[]⟩, .int .i64 0, .bool false, .int .i64 0, .string ⟨#[]⟩, .slice none 0 0] 39)) w1) (hB : B < w.heap.size) :
    (∀ i, w1.frozen? ⟨w.heap.size, i, none⟩ = false) ∧ w.heap.size < w1.heap.size ∧ (¬ B = w.heap.size) ∧ w1.cell? ⟨w.heap.size, 0, none⟩ = some (.int .i64 0) ∧ w1.cell? ⟨w.heap.size, 1, none⟩ = some (.slice none 0 0) ∧ w1.cell? ⟨w.heap.size, 2, none⟩ = some (.string ⟨#[]⟩) ∧ w1.cell? ⟨w.heap.size, 3, none⟩ = some (.string ⟨#[]⟩) ∧ w1.cell? ⟨w.heap.size, 4, none⟩ = some (.int .i64 0) ∧ w1.cell? ⟨w.heap.size, 5, none⟩ = some (.bool false) ∧ w1.cell? ⟨w.heap.size, 6, none⟩ = some (.int .i64 0) ∧ w1.cell? ⟨w.heap.size, 7, none⟩ = some (.string ⟨#[]⟩) ∧ w1.cell? ⟨w.heap.size, 8, none⟩ = some (.slice none 0 0) :=
  ⟨fun i => new_fr ho hB i, Nat.lt_of_lt_of_le (by simp) ho.size, by omega, new_cell ho hB rfl, new_cell ho hB rfl, new_cell ho hB rfl, new_cell ho hB rfl, new_cell ho hB rfl, new_cell ho hB rfl, new_cell ho hB rfl, new_cell ho hB rfl, new_cell ho hB rfl⟩
/-- The end of a call that hands back an expression: nine stores into its result, which is the call's first new block. -/
theorem ret_ex {fn : Func} {ex : Exit} {q : Tmp} {act : Act} {w w1 : World} {B E d : Nat} {x : Ex} {ks : Value} {L : List Tk} (hex : ex = .ret ∨ ex = .normal) (hf : fn.results = #[.cell q 39]) (hd : act.defers = [])
    (hq : act.tmps.getD q undef = .pointer (some ⟨w.heap.size, 0, none⟩)) (ho : Only (· = B) (w.alloc (.cells #[.int .i64 0, .slice none 0 0, .string ⟨#[]⟩, .string ⟨#[]⟩, .int .i64 0, .bool false, .int .i64 0, .string ⟨#[]⟩, .slice none 0 0] 39)) w1) (hB : B < w.heap.size) (hx : ExAt w1 (w.heap.size + 1 ≤ ·) x ks) (hr : Rd w1 B E d L)
    {v0 v1 v2 v3 v4 v5 v6 v7 v8 : Value} (e0 : v0 = .int .i64 (opE x)) (e1 : v1 = ks) (e2 : v2 = .string (txt (nmE x))) (e3 : v3 = .string (txt (prE x))) (e4 : v4 = .int .i64 (kE x)) (e5 : v5 = .bool (bE x)) (e6 : v6 = .int .i64 (nE x)) (e7 : v7 = .string (txt (tE x))) (e8 : v8 = .slice none 0 0) :
    bodyPost Tryz.prog fn (Ans w B E d (.ok x L) (IsEx w.heap.size)) ex act (((((((((w1.setCell ⟨w.heap.size, 0, none⟩ v0).setCell ⟨w.heap.size, 1, none⟩ v1).setCell ⟨w.heap.size, 2, none⟩ v2).setCell ⟨w.heap.size, 3, none⟩ v3).setCell ⟨w.heap.size, 4, none⟩ v4).setCell ⟨w.heap.size, 5, none⟩ v5).setCell ⟨w.heap.size, 6, none⟩ v6).setCell ⟨w.heap.size, 7, none⟩ v7).setCell ⟨w.heap.size, 8, none⟩ v8) := by
  obtain ⟨x0, x1, x2, x3, x4, x5, x6, x7, x8⟩ := cells9_of ho hB
  obtain ⟨c0, c1, c2, c3, c4, c5, c6, c7, c8, ho2⟩ := put9 (v0 := v0) (v1 := v1) (v2 := v2) (v3 := v3) (v4 := v4) (v5 := v5) (v6 := v6) (v7 := v7) (v8 := v8) x0 x1 x2 x3 x4 x5 x6 x7 x8
  generalize (((((((((w1.setCell ⟨w.heap.size, 0, none⟩ v0).setCell ⟨w.heap.size, 1, none⟩ v1).setCell ⟨w.heap.size, 2, none⟩ v2).setCell ⟨w.heap.size, 3, none⟩ v3).setCell ⟨w.heap.size, 4, none⟩ v4).setCell ⟨w.heap.size, 5, none⟩ v5).setCell ⟨w.heap.size, 6, none⟩ v6).setCell ⟨w.heap.size, 7, none⟩ v7).setCell ⟨w.heap.size, 8, none⟩ v8) = W at *
  have hW : Only (· = B) w W := only_put ((only_of_below (below_new w _)).trans ho) (Nat.le_refl _) ho2
  have hx2 := ExAt.weak (Nat.le_succ _) x ks (ExAt.only ho2 (Nat.lt_succ_self _) x ks hx)
  have hr2 := hr.turn ho2 (by omega)
  obtain ⟨sp, sn, sc, rfl⟩ := hx.slice
  subst e0 e1 e2 e3 e4 e5 e6 e7 e8
  have hres := res40 hf hq c0 c1 c2 c3 c4 c5 c6 c7 c8
  rcases hex with rfl | rfl
  · exact bodyPost_ret hres hd ⟨hW, _, rfl, ⟨_, _, _, rfl, hx2⟩, hr2⟩
  · exact bodyPost_end hres hd ⟨hW, _, rfl, ⟨_, _, _, rfl, hx2⟩, hr2⟩
end Go.Proofs.YtkcnpbckmdgfnaaGreatDoor
namespace Go.Proofs.YtkcnpbckmdgfnaaGreatDoor
open Go.ChangeShapes Go.WideShapes Go.ChangeAt Go.RowKit
set_option linter.unusedSimpArgs false
set_option linter.unusedVariables false

theorem row9_new {w : World} {cs : Array Value} {t o : Nat} {x : Ex} {ks : Value} (h0 : cs[o]? = some (.int .i64 (opE x))) (h1 : cs[o + 1]? = some (ks)) (h2 : cs[o + 2]? = some (.string (txt (nmE x)))) (h3 : cs[o + 3]? = some (.string (txt (prE x)))) (h4 : cs[o + 4]? = some (.int .i64 (kE x))) (h5 : cs[o + 5]? = some (.bool (bE x))) (h6 : cs[o + 6]? = some (.int .i64 (nE x))) (h7 : cs[o + 7]? = some (.string (txt (tE x)))) (h8 : cs[o + 8]? = some (.slice none 0 0)) : Row9 (w.alloc (.cells cs t)) w.heap.size o x ks :=
  ⟨alloc_cell w h0, alloc_cell w h1, alloc_cell w h2, alloc_cell w h3, alloc_cell w h4, alloc_cell w h5, alloc_cell w h6, alloc_cell w h7, alloc_cell w h8⟩
/-- One other expression, in a new block. -/
theorem one_at {W w' : World} {S : Nat → Prop} {x : Ex} {ks : Value} (op : Int) (hx : ExAt W S x ks) (hb : S W.heap.size) (h : Below (W.alloc (.cells #[.int .i64 (opE x), ks, .string (txt (nmE x)), .string (txt (prE x)), .int .i64 (kE x), .bool (bE x), .int .i64 (nE x), .string (txt (tE x)), .slice none 0 0] 39)).heap.size (W.alloc (.cells #[.int .i64 (opE x), ks, .string (txt (nmE x)), .string (txt (prE x)), .int .i64 (kE x), .bool (bE x), .int .i64 (nE x), .string (txt (tE x)), .slice none 0 0] 39)) w') :
    ExAt w' S (.one op x) (.slice (some ⟨W.heap.size, 0, none⟩) 1 1) := by
  have hb1 := below_new W (.cells #[.int .i64 (opE x), ks, .string (txt (nmE x)), .string (txt (prE x)), .int .i64 (kE x), .bool (bE x), .int .i64 (nE x), .string (txt (tE x)), .slice none 0 0] 39)
  have hr : Row9 (W.alloc (.cells #[.int .i64 (opE x), ks, .string (txt (nmE x)), .string (txt (prE x)), .int .i64 (kE x), .bool (bE x), .int .i64 (nE x), .string (txt (tE x)), .slice none 0 0] 39)) W.heap.size 0 x ks := row9_new rfl rfl rfl rfl rfl rfl rfl rfl rfl
  exact ⟨W.heap.size, ks, rfl, hb, hr.keep h, (hx.keep hb1).keep h⟩
/-- Two, in a new block. -/
theorem two_at {W w' : World} {S : Nat → Prop} {x y : Ex} {ks js : Value} (op : Int) (hx : ExAt W S x ks) (hy : ExAt W S y js) (hb : S W.heap.size) (h : Below (W.alloc (.cells #[.int .i64 (opE x), ks, .string (txt (nmE x)), .string (txt (prE x)), .int .i64 (kE x), .bool (bE x), .int .i64 (nE x), .string (txt (tE x)), .slice none 0 0, .int .i64 (opE y), js, .string (txt (nmE y)), .string (txt (prE y)), .int .i64 (kE y), .bool (bE y), .int .i64 (nE y), .string (txt (tE y)), .slice none 0 0] 39)).heap.size (W.alloc (.cells #[.int .i64 (opE x), ks, .string (txt (nmE x)), .string (txt (prE x)), .int .i64 (kE x), .bool (bE x), .int .i64 (nE x), .string (txt (tE x)), .slice none 0 0, .int .i64 (opE y), js, .string (txt (nmE y)), .string (txt (prE y)), .int .i64 (kE y), .bool (bE y), .int .i64 (nE y), .string (txt (tE y)), .slice none 0 0] 39)) w') :
    ExAt w' S (.two op x y) (.slice (some ⟨W.heap.size, 0, none⟩) 2 2) := by
  have hb1 := below_new W (.cells #[.int .i64 (opE x), ks, .string (txt (nmE x)), .string (txt (prE x)), .int .i64 (kE x), .bool (bE x), .int .i64 (nE x), .string (txt (tE x)), .slice none 0 0, .int .i64 (opE y), js, .string (txt (nmE y)), .string (txt (prE y)), .int .i64 (kE y), .bool (bE y), .int .i64 (nE y), .string (txt (tE y)), .slice none 0 0] 39)
  have hr : Row9 (W.alloc (.cells #[.int .i64 (opE x), ks, .string (txt (nmE x)), .string (txt (prE x)), .int .i64 (kE x), .bool (bE x), .int .i64 (nE x), .string (txt (tE x)), .slice none 0 0, .int .i64 (opE y), js, .string (txt (nmE y)), .string (txt (prE y)), .int .i64 (kE y), .bool (bE y), .int .i64 (nE y), .string (txt (tE y)), .slice none 0 0] 39)) W.heap.size 0 x ks := row9_new rfl rfl rfl rfl rfl rfl rfl rfl rfl
  have hr2 : Row9 (W.alloc (.cells #[.int .i64 (opE x), ks, .string (txt (nmE x)), .string (txt (prE x)), .int .i64 (kE x), .bool (bE x), .int .i64 (nE x), .string (txt (tE x)), .slice none 0 0, .int .i64 (opE y), js, .string (txt (nmE y)), .string (txt (prE y)), .int .i64 (kE y), .bool (bE y), .int .i64 (nE y), .string (txt (tE y)), .slice none 0 0] 39)) W.heap.size 9 y js := row9_new rfl rfl rfl rfl rfl rfl rfl rfl rfl
  exact ⟨W.heap.size, ks, js, rfl, hb, hr.keep h, hr2.keep h, (hx.keep hb1).keep h, (hy.keep hb1).keep h⟩
set_option maxRecDepth 100000 in
theorem of_any (op : Int) (p : Option Addr) (n c : Nat) (w : World) :
    Calls Tryz.prog 98 #[.int .i64 op, .slice p n c] w fun e w' => e = .returned (.agg #[.int .i64 op, .slice p n c, .string ⟨#[]⟩, .string ⟨#[]⟩, .int .i64 0, .bool false, .int .i64 0, .string ⟨#[]⟩, .slice none 0 0]) ∧ Below w.heap.size w w' := by
  go_enter Tryz.func98, Tryz.ntmps98
  go_wp2_with fail
  go_returns
  exact ⟨rfl, below_new _ _⟩
set_option maxRecDepth 100000 in
theorem literal_any (k n : Int) (b : Bool) (t : ByteArray) (w : World) :
    Calls Tryz.prog 187 #[.agg #[.int .i64 k, .bool b, .int .i64 n, .string t, .slice none 0 0]] w fun e w' => e = .returned (.agg #[.int .i64 1, .slice none 0 0, .string ⟨#[]⟩, .string ⟨#[]⟩, .int .i64 k, .bool b, .int .i64 n, .string t, .slice none 0 0]) ∧ Below w.heap.size w w' := by
  go_enter Tryz.func187, Tryz.ntmps187
  go_wp2_with fail
  go_returns
  exact ⟨rfl, below_on (below_new _ _) (below_new _ _)⟩
/-- Some words in memory, and what they make. -/
def OpsAt (w : World) (B : Nat) (p : Option Addr) (S : List (List UInt8 × Int)) : Prop := S = [] ∨ ∃ g o, p = some ⟨g, o, none⟩ ∧ B < g ∧ ∀ i, i < S.length →
    w.cell? ⟨g, o + i * 2, none⟩ = some (.string ⟨(S.getD i ([], 0)).1.toArray⟩) ∧ w.cell? ⟨g, o + i * 2 + 1, none⟩ = some (.int .i64 (S.getD i ([], 0)).2)
theorem OpsAt.only {w w' : World} {B : Nat} {p : Option Addr} {S : List (List UInt8 × Int)} (h : OpsAt w B p S) (ho : Only (· = B) w w') : OpsAt w' B p S := by
  rcases h with h | ⟨g, o, e, hg, h⟩
  · exact .inl h
  · refine .inr ⟨g, o, e, hg, fun i hi => ?_⟩
    obtain ⟨c0, c1⟩ := h i hi
    have hl := World.block_lt_of_cell? w _ c0
    have hg' : ¬ g = B := by omega
    exact ⟨(ho.cell hl hg').trans c0, (ho.cell hl hg').trans c1⟩
theorem opOf_no {S : List (List UInt8 × Int)} {L : List Tk} (h : ∀ i, i < S.length → isW (S.getD i ([], 0)).1 L = false) : opOf S L = 0 := by
  unfold opOf
  rw [List.find?_eq_none.2]
  intro s hs
  obtain ⟨i, hi, e⟩ := List.mem_iff_getElem.1 hs
  have := h i hi
  rw [List.getD_eq_getElem?_getD, List.getElem?_eq_getElem hi, Option.getD_some, e] at this
  simp [this]
theorem opOf_yes {L : List Tk} : ∀ {S : List (List UInt8 × Int)} {i : Nat}, i < S.length → (∀ j, j < i → isW (S.getD j ([], 0)).1 L = false) → isW (S.getD i ([], 0)).1 L = true → opOf S L = (S.getD i ([], 0)).2
  | [], i, hi, _, _ => absurd hi (by simp)
  | s :: S, 0, hi, _, h => by
    have h' : isW s.1 L = true := h
    unfold opOf
    rw [List.find?_cons, h']; rfl
  | s :: S, i + 1, hi, hn, h => by
    have h0 : isW s.1 L = false := hn 0 (by omega)
    have := @opOf_yes L S i (by simp at hi; omega) (fun j hj => hn (j + 1) (by omega)) h
    unfold opOf at this ⊢
    rw [List.find?_cons, h0]
    exact this
/-- What is left behind one of some words. -/
def passedO (S : List (List UInt8 × Int)) (L : List Tk) : List Tk := if opOf S L = 0 then L else L.tail
set_option maxRecDepth 100000 in
theorem passOne_any {w : World} {B E d : Nat} {L : List Tk} (h : Rd w B E d L) (S : List (List UInt8 × Int)) (p : Option Addr) (c : Nat) (hS : OpsAt w B p S) (hs : S.length ≤ 100) (h0 : ∀ i, i < S.length → (S.getD i ([], 0)).2 ≠ 0) :
    Calls Tryz.prog 97 #[rp B, .slice p S.length c] w fun e w' => e = .returned (.int .i64 (opOf S L)) ∧ Only (· = B) w w' ∧ Rd w' B E d (passedO S L) := by
  have hlB := h.lt
  replace h : Hid _ := h
  replace hS : Hid _ := hS
  replace h0 : Hid _ := h0
  generalize hX : opOf S L = X
  generalize hY : passedO S L = Y
  replace hX : Hid _ := hX
  replace hY : Hid _ := hY
  go_enter Tryz.func97, Tryz.ntmps97
  go_wp2_with fail
  go_loopw [6, 9] (fun _ v wr => ∃ (i : Nat), i ≤ S.length ∧ v = .int .i64 i ∧ Only (· = B) w wr ∧ Rd wr B E d L ∧ ∀ j, j < i → isW (S.getD j ([], 0)).1 L = false) (fun _ v _ => S.length - (intOf v).toNat)
  case atStart => exact ⟨0, by omega, rfl, Only.refl _ _, h.out, fun j hj => absurd hj (by omega)⟩
  case round =>
    obtain ⟨i, hi, rfl, ho, hR, hno⟩ := hrel
    by_cases hlt : i < S.length
    · obtain ⟨g, o, rfl, hg, hc⟩ := ((OpsAt.only (p := p) (S := S) hS.out ho)).resolve_left (fun e => by rw [e] at hlt; simp at hlt)
      obtain ⟨hc0, hc1⟩ := hc i hlt
      have hgl := World.block_lt_of_cell? wr _ hc0
      have hBl := hR.lt
      have hz := h0.out i hlt
      have hy := @opOf_yes L S i hlt hno
      clear hc
      have hP := fun W (hb : Below wr.heap.size wr W) => pass_any (hR.below hb) (S.getD i ([], 0)).1
      cases hw : isW (S.getD i ([], 0)).1 L
      · have hno2 : ∀ j, j < i + 1 → isW (S.getD j ([], 0)).1 L = false := fun j hj => by
          by_cases e : j = i
          · rw [e]; exact hw
          · exact hno j (by omega)
        rw [hw, passed_no hw] at hP
        clear hy hno hz hw hR
        generalize S.getD i ([], 0) = s at *
        obtain ⟨s, op⟩ := s
        dsimp only at *
        replace hP : Hid _ := hP
        replace ho : Hid _ := ho
        replace hno2 : Hid _ := hno2
        go_wp2_with (go_at_call 58; refine Calls.mono (hP.out _ (below_new _ _)) ?_; rintro e w1 ⟨rfl, ho1, hr1⟩)
        exact ⟨⟨i + 1, by omega, rfl, (only_new ho.out _).trans ho1, hr1, hno2.out⟩, by show S.length - ((i : Int) + 1).toNat < S.length - (i : Int).toNat; omega⟩
      · have hy2 := hy hw
        rw [hw, passed_yes hw] at hP
        have hX2 := hX.out
        have hY2 := hY.out
        unfold passedO at hY2
        rw [hy2] at hX2 hY2
        rw [if_neg hz] at hY2
        clear hy hno hz hw hR hy2 hX hY
        generalize S.getD i ([], 0) = s at *
        obtain ⟨s, op⟩ := s
        dsimp only at *
        subst hX2 hY2
        replace hP : Hid _ := hP
        replace ho : Hid _ := ho
        go_wp2_with (go_at_call 58; refine Calls.mono (hP.out _ (below_new _ _)) ?_; rintro e w1 ⟨rfl, ho1, hr1⟩; have x1 := new_cell (i := 1) (v := .int .i64 op) ho1 hBl rfl)
        go_returns
        exact ⟨rfl, (only_new ho.out _).trans ho1, hr1⟩
    · have hi2 : i = S.length := by omega
      have hf := opOf_no (S := S) (L := L) (fun k hk => hno k (by omega))
      have hX2 := hX.out
      have hY2 := hY.out
      unfold passedO at hY2
      rw [hf] at hX2 hY2
      rw [if_pos rfl] at hY2
      subst hX2 hY2
      clear hno hX hY hf
      replace ho : Hid _ := ho
      replace hR : Hid _ := hR
      go_wp2_with fail
      go_returns
      exact ⟨rfl, ho.out, hR.out⟩
end Go.Proofs.YtkcnpbckmdgfnaaGreatDoor
