/-
  Expressions in memory; the calls that make them; one of some words.
-/
import Derived.Test.YtkcnpbckmdgfnaaGreatDoorRdm
namespace Go.Proofs.YtkcnpbckmdgfnaaGreatDoor
open Go.ChangeShapes Go.WideShapes Go.ChangeAt Go.RowKit
set_option linter.unusedSimpArgs false
set_option linter.unusedVariables false

def opE : Ex → Int
  | .leaf o _ _ _ _ _ _ => o
  | .one o _ => o
  | .two o _ _ => o
def nmE : Ex → List UInt8
  | .leaf _ n _ _ _ _ _ => n
  | _ => []
def prE : Ex → List UInt8
  | .leaf _ _ p _ _ _ _ => p
  | _ => []
def kE : Ex → Int
  | .leaf _ _ _ k _ _ _ => k
  | _ => 0
def bE : Ex → Bool
  | .leaf _ _ _ _ b _ _ => b
  | _ => false
def nE : Ex → Int
  | .leaf _ _ _ _ _ n _ => n
  | _ => 0
def tE : Ex → List UInt8
  | .leaf _ _ _ _ _ _ t => t
  | _ => []
/-- An expression's nine cells. -/
def Row9 (w : World) (g o : Nat) (x : Ex) (ks : Value) : Prop := w.cell? ⟨g, o, none⟩ = some (.int .i64 (opE x)) ∧ w.cell? ⟨g, o + 1, none⟩ = some (ks) ∧ w.cell? ⟨g, o + 2, none⟩ = some (.string (txt (nmE x))) ∧ w.cell? ⟨g, o + 3, none⟩ = some (.string (txt (prE x))) ∧ w.cell? ⟨g, o + 4, none⟩ = some (.int .i64 (kE x)) ∧ w.cell? ⟨g, o + 5, none⟩ = some (.bool (bE x)) ∧ w.cell? ⟨g, o + 6, none⟩ = some (.int .i64 (nE x)) ∧ w.cell? ⟨g, o + 7, none⟩ = some (.string (txt (tE x))) ∧ w.cell? ⟨g, o + 8, none⟩ = some (.slice none 0 0)
/-- An expression's parts in memory, in blocks of which S tells. -/
def ExAt (w : World) (S : Nat → Prop) : Ex → Value → Prop
  | .leaf _ _ _ _ _ _ _, ks => ks = .slice none 0 0
  | .one _ x, ks => ∃ g k1, ks = .slice (some ⟨g, 0, none⟩) 1 1 ∧ S g ∧ Row9 w g 0 x k1 ∧ ExAt w S x k1
  | .two _ x y, ks => ∃ g k1 k2, ks = .slice (some ⟨g, 0, none⟩) 2 2 ∧ S g ∧ Row9 w g 0 x k1 ∧ Row9 w g 9 y k2 ∧ ExAt w S x k1 ∧ ExAt w S y k2
theorem Row9.only {w w' : World} {B g o : Nat} {x : Ex} {ks : Value} (h : Row9 w g o x ks) (ho : Only (· = B) w w') (hg : g ≠ B) : Row9 w' g o x ks := by
  have hl : g < w.heap.size := World.block_lt_of_cell? w _ h.1
  obtain ⟨c0, c1, c2, c3, c4, c5, c6, c7, c8⟩ := h
  exact ⟨(ho.cell hl hg).trans c0, (ho.cell hl hg).trans c1, (ho.cell hl hg).trans c2, (ho.cell hl hg).trans c3, (ho.cell hl hg).trans c4, (ho.cell hl hg).trans c5, (ho.cell hl hg).trans c6, (ho.cell hl hg).trans c7, (ho.cell hl hg).trans c8⟩
theorem ExAt.onlyS {w w' : World} {B : Nat} {S : Nat → Prop} (ho : Only (· = B) w w') (hS : ∀ g, S g → g ≠ B) : ∀ (x : Ex) (ks : Value), ExAt w S x ks → ExAt w' S x ks
  | .leaf _ _ _ _ _ _ _, ks, h => h
  | .one _ a, ks, ⟨g, k1, e, hg, hr, h⟩ => ⟨g, k1, e, hg, hr.only ho (hS g hg), ExAt.onlyS ho hS a k1 h⟩
  | .two _ a b', ks, ⟨g, k1, k2, e, hg, hr, hr2, h, h2⟩ => ⟨g, k1, k2, e, hg, hr.only ho (hS g hg), hr2.only ho (hS g hg), ExAt.onlyS ho hS a k1 h, ExAt.onlyS ho hS b' k2 h2⟩
theorem ExAt.weakS {w : World} {S S' : Nat → Prop} (hc : ∀ g, S g → S' g) : ∀ (x : Ex) (ks : Value), ExAt w S x ks → ExAt w S' x ks
  | .leaf _ _ _ _ _ _ _, ks, h => h
  | .one _ a, ks, ⟨g, k1, e, hg, hr, h⟩ => ⟨g, k1, e, hc g hg, hr, ExAt.weakS hc a k1 h⟩
  | .two _ a b', ks, ⟨g, k1, k2, e, hg, hr, hr2, h, h2⟩ => ⟨g, k1, k2, e, hc g hg, hr, hr2, ExAt.weakS hc a k1 h, ExAt.weakS hc b' k2 h2⟩
theorem ExAt.lt {w : World} {S : Nat → Prop} : ∀ (x : Ex) (ks : Value), ExAt w S x ks → ExAt w (fun g => S g ∧ g < w.heap.size) x ks
  | .leaf _ _ _ _ _ _ _, ks, h => h
  | .one _ a, ks, ⟨g, k1, e, hg, hr, h⟩ => ⟨g, k1, e, ⟨hg, World.block_lt_of_cell? w _ hr.1⟩, hr, ExAt.lt a k1 h⟩
  | .two _ a b', ks, ⟨g, k1, k2, e, hg, hr, hr2, h, h2⟩ => ⟨g, k1, k2, e, ⟨hg, World.block_lt_of_cell? w _ hr.1⟩, hr, hr2, ExAt.lt a k1 h, ExAt.lt b' k2 h2⟩
theorem ExAt.only {w w' : World} {B b : Nat} (ho : Only (· = B) w w') (hb : B < b) (x : Ex) (ks : Value) (h : ExAt w (b ≤ ·) x ks) : ExAt w' (b ≤ ·) x ks := ExAt.onlyS ho (fun g hg e => by subst e; exact absurd hg (by omega)) x ks h
theorem ExAt.weak {w : World} {b c : Nat} (hc : c ≤ b) (x : Ex) (ks : Value) (h : ExAt w (b ≤ ·) x ks) : ExAt w (c ≤ ·) x ks := ExAt.weakS (fun g hg => Nat.le_trans hc hg) x ks h
theorem Row9.keep {w w' : World} {g o : Nat} {x : Ex} {ks : Value} (h : Row9 w g o x ks) (ho : Below w.heap.size w w') : Row9 w' g o x ks := by
  have hl : g < w.heap.size := World.block_lt_of_cell? w _ h.1
  obtain ⟨c0, c1, c2, c3, c4, c5, c6, c7, c8⟩ := h
  exact ⟨(ho.cell (p := ⟨g, o, none⟩) hl).trans c0, (ho.cell (p := ⟨g, o + 1, none⟩) hl).trans c1, (ho.cell (p := ⟨g, o + 2, none⟩) hl).trans c2, (ho.cell (p := ⟨g, o + 3, none⟩) hl).trans c3, (ho.cell (p := ⟨g, o + 4, none⟩) hl).trans c4, (ho.cell (p := ⟨g, o + 5, none⟩) hl).trans c5, (ho.cell (p := ⟨g, o + 6, none⟩) hl).trans c6, (ho.cell (p := ⟨g, o + 7, none⟩) hl).trans c7, (ho.cell (p := ⟨g, o + 8, none⟩) hl).trans c8⟩
theorem ExAt.keep {w w' : World} {S : Nat → Prop} : ∀ {x : Ex} {ks : Value}, ExAt w S x ks → Below w.heap.size w w' → ExAt w' S x ks
  | .leaf _ _ _ _ _ _ _, ks, h, _ => h
  | .one _ a, ks, ⟨g, k1, e, hg, hr, h⟩, hb => ⟨g, k1, e, hg, hr.keep hb, ExAt.keep h hb⟩
  | .two _ a b', ks, ⟨g, k1, k2, e, hg, hr, hr2, h, h2⟩, hb => ⟨g, k1, k2, e, hg, hr.keep hb, hr2.keep hb, ExAt.keep h hb, ExAt.keep h2 hb⟩
theorem only_of_below {w w' : World} {B : Nat} (h : Below w.heap.size w w') : Only (· = B) w w' := Below.only _ h
/-- An expression that a call hands back. -/
def IsEx (b : Nat) (x : Ex) (v : Value) (w : World) : Prop := ∃ p n c, v = .agg #[.int .i64 (opE x), .slice p n c, .string (txt (nmE x)), .string (txt (prE x)), .int .i64 (kE x), .bool (bE x), .int .i64 (nE x), .string (txt (tE x)), .slice none 0 0] ∧ ExAt w (b ≤ ·) x (.slice p n c)
theorem ExAt.slice {w : World} {S : Nat → Prop} {x : Ex} {ks : Value} (h : ExAt w S x ks) : ∃ p n c, ks = .slice p n c := by
  cases x with
  | leaf _ _ _ _ _ _ _ => exact ⟨_, _, _, h⟩
  | one _ _ => obtain ⟨g, k1, e, _⟩ := h; exact ⟨_, _, _, e⟩
  | two _ _ _ => obtain ⟨g, k1, k2, e, _⟩ := h; exact ⟨_, _, _, e⟩
theorem res40 {fn : Func} {q : Tmp} (h : fn.results = #[.cell q 39]) {tmps : Array Value} {w : World} {R : Nat} {v0 v1 v2 v3 v4 v5 v6 v7 v8 : Value} (hq : tmps.getD q undef = .pointer (some ⟨R, 0, none⟩))
    (c0 : w.cell? ⟨R, 0, none⟩ = some v0) (c1 : w.cell? ⟨R, 1, none⟩ = some v1) (c2 : w.cell? ⟨R, 2, none⟩ = some v2) (c3 : w.cell? ⟨R, 3, none⟩ = some v3) (c4 : w.cell? ⟨R, 4, none⟩ = some v4) (c5 : w.cell? ⟨R, 5, none⟩ = some v5) (c6 : w.cell? ⟨R, 6, none⟩ = some v6) (c7 : w.cell? ⟨R, 7, none⟩ = some v7) (c8 : w.cell? ⟨R, 8, none⟩ = some v8) :
    (results fn tmps).run Tryz.prog w = .ok (.agg #[v0, v1, v2, v3, v4, v5, v6, v7, v8]) w := by
  have hq' : tmps[q]?.getD undef = .pointer (some ⟨R, 0, none⟩) := by simpa using hq
  simp [results, h, hq', go_sem, c0, c1, c2, c3, c4, c5, c6, c7, c8]
/-- Nine stores into a block's cells. -/
theorem put9 {w1 : World} {R : Nat} {u0 u1 u2 u3 u4 u5 u6 u7 u8 v0 v1 v2 v3 v4 v5 v6 v7 v8 : Value} (x0 : w1.cell? ⟨R, 0, none⟩ = some u0) (x1 : w1.cell? ⟨R, 1, none⟩ = some u1) (x2 : w1.cell? ⟨R, 2, none⟩ = some u2) (x3 : w1.cell? ⟨R, 3, none⟩ = some u3) (x4 : w1.cell? ⟨R, 4, none⟩ = some u4) (x5 : w1.cell? ⟨R, 5, none⟩ = some u5) (x6 : w1.cell? ⟨R, 6, none⟩ = some u6) (x7 : w1.cell? ⟨R, 7, none⟩ = some u7) (x8 : w1.cell? ⟨R, 8, none⟩ = some u8) :
    (((((((((w1.setCell ⟨R, 0, none⟩ v0).setCell ⟨R, 1, none⟩ v1).setCell ⟨R, 2, none⟩ v2).setCell ⟨R, 3, none⟩ v3).setCell ⟨R, 4, none⟩ v4).setCell ⟨R, 5, none⟩ v5).setCell ⟨R, 6, none⟩ v6).setCell ⟨R, 7, none⟩ v7).setCell ⟨R, 8, none⟩ v8).cell? ⟨R, 0, none⟩ = some v0 ∧ (((((((((w1.setCell ⟨R, 0, none⟩ v0).setCell ⟨R, 1, none⟩ v1).setCell ⟨R, 2, none⟩ v2).setCell ⟨R, 3, none⟩ v3).setCell ⟨R, 4, none⟩ v4).setCell ⟨R, 5, none⟩ v5).setCell ⟨R, 6, none⟩ v6).setCell ⟨R, 7, none⟩ v7).setCell ⟨R, 8, none⟩ v8).cell? ⟨R, 1, none⟩ = some v1 ∧ (((((((((w1.setCell ⟨R, 0, none⟩ v0).setCell ⟨R, 1, none⟩ v1).setCell ⟨R, 2, none⟩ v2).setCell ⟨R, 3, none⟩ v3).setCell ⟨R, 4, none⟩ v4).setCell ⟨R, 5, none⟩ v5).setCell ⟨R, 6, none⟩ v6).setCell ⟨R, 7, none⟩ v7).setCell ⟨R, 8, none⟩ v8).cell? ⟨R, 2, none⟩ = some v2 ∧ (((((((((w1.setCell ⟨R, 0, none⟩ v0).setCell ⟨R, 1, none⟩ v1).setCell ⟨R, 2, none⟩ v2).setCell ⟨R, 3, none⟩ v3).setCell ⟨R, 4, none⟩ v4).setCell ⟨R, 5, none⟩ v5).setCell ⟨R, 6, none⟩ v6).setCell ⟨R, 7, none⟩ v7).setCell ⟨R, 8, none⟩ v8).cell? ⟨R, 3, none⟩ = some v3 ∧ (((((((((w1.setCell ⟨R, 0, none⟩ v0).setCell ⟨R, 1, none⟩ v1).setCell ⟨R, 2, none⟩ v2).setCell ⟨R, 3, none⟩ v3).setCell ⟨R, 4, none⟩ v4).setCell ⟨R, 5, none⟩ v5).setCell ⟨R, 6, none⟩ v6).setCell ⟨R, 7, none⟩ v7).setCell ⟨R, 8, none⟩ v8).cell? ⟨R, 4, none⟩ = some v4 ∧ (((((((((w1.setCell ⟨R, 0, none⟩ v0).setCell ⟨R, 1, none⟩ v1).setCell ⟨R, 2, none⟩ v2).setCell ⟨R, 3, none⟩ v3).setCell ⟨R, 4, none⟩ v4).setCell ⟨R, 5, none⟩ v5).setCell ⟨R, 6, none⟩ v6).setCell ⟨R, 7, none⟩ v7).setCell ⟨R, 8, none⟩ v8).cell? ⟨R, 5, none⟩ = some v5 ∧ (((((((((w1.setCell ⟨R, 0, none⟩ v0).setCell ⟨R, 1, none⟩ v1).setCell ⟨R, 2, none⟩ v2).setCell ⟨R, 3, none⟩ v3).setCell ⟨R, 4, none⟩ v4).setCell ⟨R, 5, none⟩ v5).setCell ⟨R, 6, none⟩ v6).setCell ⟨R, 7, none⟩ v7).setCell ⟨R, 8, none⟩ v8).cell? ⟨R, 6, none⟩ = some v6 ∧ (((((((((w1.setCell ⟨R, 0, none⟩ v0).setCell ⟨R, 1, none⟩ v1).setCell ⟨R, 2, none⟩ v2).setCell ⟨R, 3, none⟩ v3).setCell ⟨R, 4, none⟩ v4).setCell ⟨R, 5, none⟩ v5).setCell ⟨R, 6, none⟩ v6).setCell ⟨R, 7, none⟩ v7).setCell ⟨R, 8, none⟩ v8).cell? ⟨R, 7, none⟩ = some v7 ∧ (((((((((w1.setCell ⟨R, 0, none⟩ v0).setCell ⟨R, 1, none⟩ v1).setCell ⟨R, 2, none⟩ v2).setCell ⟨R, 3, none⟩ v3).setCell ⟨R, 4, none⟩ v4).setCell ⟨R, 5, none⟩ v5).setCell ⟨R, 6, none⟩ v6).setCell ⟨R, 7, none⟩ v7).setCell ⟨R, 8, none⟩ v8).cell? ⟨R, 8, none⟩ = some v8 ∧ Only (· = R) w1 (((((((((w1.setCell ⟨R, 0, none⟩ v0).setCell ⟨R, 1, none⟩ v1).setCell ⟨R, 2, none⟩ v2).setCell ⟨R, 3, none⟩ v3).setCell ⟨R, 4, none⟩ v4).setCell ⟨R, 5, none⟩ v5).setCell ⟨R, 6, none⟩ v6).setCell ⟨R, 7, none⟩ v7).setCell ⟨R, 8, none⟩ v8) :=
  ⟨(set_at _ _ _ (by decide)).trans ((set_at _ _ _ (by decide)).trans ((set_at _ _ _ (by decide)).trans ((set_at _ _ _ (by decide)).trans ((set_at _ _ _ (by decide)).trans ((set_at _ _ _ (by decide)).trans ((set_at _ _ _ (by decide)).trans ((set_at _ _ _ (by decide)).trans (set_same (x0))))))))), (set_at _ _ _ (by decide)).trans ((set_at _ _ _ (by decide)).trans ((set_at _ _ _ (by decide)).trans ((set_at _ _ _ (by decide)).trans ((set_at _ _ _ (by decide)).trans ((set_at _ _ _ (by decide)).trans ((set_at _ _ _ (by decide)).trans (set_same ((set_at _ _ _ (by decide)).trans (x1))))))))), (set_at _ _ _ (by decide)).trans ((set_at _ _ _ (by decide)).trans ((set_at _ _ _ (by decide)).trans ((set_at _ _ _ (by decide)).trans ((set_at _ _ _ (by decide)).trans ((set_at _ _ _ (by decide)).trans (set_same ((set_at _ _ _ (by decide)).trans ((set_at _ _ _ (by decide)).trans (x2))))))))), (set_at _ _ _ (by decide)).trans ((set_at _ _ _ (by decide)).trans ((set_at _ _ _ (by decide)).trans ((set_at _ _ _ (by decide)).trans ((set_at _ _ _ (by decide)).trans (set_same ((set_at _ _ _ (by decide)).trans ((set_at _ _ _ (by decide)).trans ((set_at _ _ _ (by decide)).trans (x3))))))))), (set_at _ _ _ (by decide)).trans ((set_at _ _ _ (by decide)).trans ((set_at _ _ _ (by decide)).trans ((set_at _ _ _ (by decide)).trans (set_same ((set_at _ _ _ (by decide)).trans ((set_at _ _ _ (by decide)).trans ((set_at _ _ _ (by decide)).trans ((set_at _ _ _ (by decide)).trans (x4))))))))), (set_at _ _ _ (by decide)).trans ((set_at _ _ _ (by decide)).trans ((set_at _ _ _ (by decide)).trans (set_same ((set_at _ _ _ (by decide)).trans ((set_at _ _ _ (by decide)).trans ((set_at _ _ _ (by decide)).trans ((set_at _ _ _ (by decide)).trans ((set_at _ _ _ (by decide)).trans (x5))))))))), (set_at _ _ _ (by decide)).trans ((set_at _ _ _ (by decide)).trans (set_same ((set_at _ _ _ (by decide)).trans ((set_at _ _ _ (by decide)).trans ((set_at _ _ _ (by decide)).trans ((set_at _ _ _ (by decide)).trans ((set_at _ _ _ (by decide)).trans ((set_at _ _ _ (by decide)).trans (x6))))))))), (set_at _ _ _ (by decide)).trans (set_same ((set_at _ _ _ (by decide)).trans ((set_at _ _ _ (by decide)).trans ((set_at _ _ _ (by decide)).trans ((set_at _ _ _ (by decide)).trans ((set_at _ _ _ (by decide)).trans ((set_at _ _ _ (by decide)).trans ((set_at _ _ _ (by decide)).trans (x7))))))))), set_same ((set_at _ _ _ (by decide)).trans ((set_at _ _ _ (by decide)).trans ((set_at _ _ _ (by decide)).trans ((set_at _ _ _ (by decide)).trans ((set_at _ _ _ (by decide)).trans ((set_at _ _ _ (by decide)).trans ((set_at _ _ _ (by decide)).trans ((set_at _ _ _ (by decide)).trans (x8))))))))), ((((((((only_set _ _ _ _).trans (only_set _ _ _ _)).trans (only_set _ _ _ _)).trans (only_set _ _ _ _)).trans (only_set _ _ _ _)).trans (only_set _ _ _ _)).trans (only_set _ _ _ _)).trans (only_set _ _ _ _)).trans (only_set _ _ _ _)⟩
theorem cells9_of {w w1 : World} {B : Nat} {v0 v1 v2 v3 v4 v5 v6 v7 v8 : Value} {t : Nat} (ho : Only (· = B) (w.alloc (.cells #[v0, v1, v2, v3, v4, v5, v6, v7, v8] t)) w1) (hB : B < w.heap.size) :
    w1.cell? ⟨w.heap.size, 0, none⟩ = some v0 ∧ w1.cell? ⟨w.heap.size, 1, none⟩ = some v1 ∧ w1.cell? ⟨w.heap.size, 2, none⟩ = some v2 ∧ w1.cell? ⟨w.heap.size, 3, none⟩ = some v3 ∧ w1.cell? ⟨w.heap.size, 4, none⟩ = some v4 ∧ w1.cell? ⟨w.heap.size, 5, none⟩ = some v5 ∧ w1.cell? ⟨w.heap.size, 6, none⟩ = some v6 ∧ w1.cell? ⟨w.heap.size, 7, none⟩ = some v7 ∧ w1.cell? ⟨w.heap.size, 8, none⟩ = some v8 :=
  ⟨new_cell ho hB rfl, new_cell ho hB rfl, new_cell ho hB rfl, new_cell ho hB rfl, new_cell ho hB rfl, new_cell ho hB rfl, new_cell ho hB rfl, new_cell ho hB rfl, new_cell ho hB rfl⟩
/-- The call's result block, its first new one, is as it was made. -/
theorem res_cells {w w1 : World} {B : Nat} (ho : Only (· = B) (w.alloc (.cells #[.int .i64 0, .slice none 0 0, .string ⟨#[]⟩, .string ⟨#[]⟩, .int .i64 0, .bool false, .int .i64 0, .string ⟨#[]⟩, .slice none 0 0] 39)) w1) (hB : B < w.heap.size) :
    (∀ i, w1.frozen? ⟨w.heap.size, i, none⟩ = false) ∧ w.heap.size < w1.heap.size ∧ (¬ B = w.heap.size) ∧ w1.cell? ⟨w.heap.size, 0, none⟩ = some (.int .i64 0) ∧ w1.cell? ⟨w.heap.size, 1, none⟩ = some (.slice none 0 0) ∧ w1.cell? ⟨w.heap.size, 2, none⟩ = some (.string ⟨#[]⟩) ∧ w1.cell? ⟨w.heap.size, 3, none⟩ = some (.string ⟨#[]⟩) ∧ w1.cell? ⟨w.heap.size, 4, none⟩ = some (.int .i64 0) ∧ w1.cell? ⟨w.heap.size, 5, none⟩ = some (.bool false) ∧ w1.cell? ⟨w.heap.size, 6, none⟩ = some (.int .i64 0) ∧ w1.cell? ⟨w.heap.size, 7, none⟩ = some (.string ⟨#[]⟩) ∧ w1.cell? ⟨w.heap.size, 8, none⟩ = some (.slice none 0 0) :=
  ⟨fun i => new_fr ho hB i, Nat.lt_of_lt_of_le (by simp) ho.size, by omega, new_cell ho hB rfl, new_cell ho hB rfl, new_cell ho hB rfl, new_cell ho hB rfl, new_cell ho hB rfl, new_cell ho hB rfl, new_cell ho hB rfl, new_cell ho hB rfl, new_cell ho hB rfl⟩
/-- The end of a call that hands back an expression: nine stores into its result, which is the call's first new block. -/
theorem ret_ex {fn : Func} {ex : Exit} {q : Tmp} {act : Act} {w w1 : World} {B E d : Nat} {x : Ex} {ks : Value} {L : List Tk} (hex : ex = .ret ∨ ex = .normal) (hf : fn.results = #[.cell q 39]) (hd : act.defers = [])
    (hq : act.tmps.getD q undef = .pointer (some ⟨w.heap.size, 0, none⟩)) (ho : Only (· = B) (w.alloc (.cells #[.int .i64 0, .slice none 0 0, .string ⟨#[]⟩, .string ⟨#[]⟩, .int .i64 0, .bool false, .int .i64 0, .string ⟨#[]⟩, .slice none 0 0] 39)) w1) (hB : B < w.heap.size) (hx : ExAt w1 (w.heap.size + 1 ≤ ·) x ks) (hr : Rd w1 B E d L)
    {v0 v1 v2 v3 v4 v5 v6 v7 v8 : Value} (e0 : v0 = .int .i64 (opE x)) (e1 : v1 = ks) (e2 : v2 = .string (txt (nmE x))) (e3 : v3 = .string (txt (prE x))) (e4 : v4 = .int .i64 (kE x)) (e5 : v5 = .bool (bE x)) (e6 : v6 = .int .i64 (nE x)) (e7 : v7 = .string (txt (tE x))) (e8 : v8 = .slice none 0 0) :
    bodyPost Tryz.prog fn (Ans w B E d (.ok x L) (IsEx w.heap.size)) ex act (((((((((w1.setCell ⟨w.heap.size, 0, none⟩ v0).setCell ⟨w.heap.size, 1, none⟩ v1).setCell ⟨w.heap.size, 2, none⟩ v2).setCell ⟨w.heap.size, 3, none⟩ v3).setCell ⟨w.heap.size, 4, none⟩ v4).setCell ⟨w.heap.size, 5, none⟩ v5).setCell ⟨w.heap.size, 6, none⟩ v6).setCell ⟨w.heap.size, 7, none⟩ v7).setCell ⟨w.heap.size, 8, none⟩ v8) := by
  obtain ⟨x0, x1, x2, x3, x4, x5, x6, x7, x8⟩ := cells9_of ho hB
  obtain ⟨c0, c1, c2, c3, c4, c5, c6, c7, c8, ho2⟩ := put9 (v0 := v0) (v1 := v1) (v2 := v2) (v3 := v3) (v4 := v4) (v5 := v5) (v6 := v6) (v7 := v7) (v8 := v8) x0 x1 x2 x3 x4 x5 x6 x7 x8
  generalize (((((((((w1.setCell ⟨w.heap.size, 0, none⟩ v0).setCell ⟨w.heap.size, 1, none⟩ v1).setCell ⟨w.heap.size, 2, none⟩ v2).setCell ⟨w.heap.size, 3, none⟩ v3).setCell ⟨w.heap.size, 4, none⟩ v4).setCell ⟨w.heap.size, 5, none⟩ v5).setCell ⟨w.heap.size, 6, none⟩ v6).setCell ⟨w.heap.size, 7, none⟩ v7).setCell ⟨w.heap.size, 8, none⟩ v8) = W at *
  have hW : Only (· = B) w W := only_put ((only_of_below (below_new w _)).trans ho) (Nat.le_refl _) ho2
  have hx2 := ExAt.weak (Nat.le_succ _) x ks (ExAt.only ho2 (Nat.lt_succ_self _) x ks hx)
  have hr2 := hr.turn ho2 (by omega)
  obtain ⟨sp, sn, sc, rfl⟩ := hx.slice
  subst e0 e1 e2 e3 e4 e5 e6 e7 e8
  have hres := res40 hf hq c0 c1 c2 c3 c4 c5 c6 c7 c8
  rcases hex with rfl | rfl
  · exact bodyPost_ret hres hd ⟨hW, _, rfl, ⟨_, _, _, rfl, hx2⟩, hr2⟩
  · exact bodyPost_end hres hd ⟨hW, _, rfl, ⟨_, _, _, rfl, hx2⟩, hr2⟩
end Go.Proofs.YtkcnpbckmdgfnaaGreatDoor
