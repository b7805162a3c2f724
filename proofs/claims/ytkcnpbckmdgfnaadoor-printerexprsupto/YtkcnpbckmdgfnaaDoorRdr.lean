/-
  Rdr: turned for the seat of the expressions.
-/
import Derived.Test.YtkcnpbckmdgfnaaDoorSya
import Derived.Test.YtkcnpbckmdgfnaaDoorTok
import Derived.Recover
import Derived.Defers
import Derived.WalkLawsBesides
namespace Go.Proofs.YtkcnpbckmdgfnaaDoor
open Go.ChangeShapes Go.WideShapes Go.ChangeAt Go.RowKit
set_option linter.unusedSimpArgs false
set_option linter.unusedVariables false
/-- What may have turned: blocks of which S tells, and new ones. -/
structure Only (S : Nat → Prop) (w w' : World) : Prop where
  os : w'.os = w.os
  tape : w'.tape = w.tape
  output : w'.output = w.output
  size : w.heap.size ≤ w'.heap.size
  block : ∀ k, k < w.heap.size → ¬ S k → w'.heap[k]? = w.heap[k]?
theorem Only.refl (S : Nat → Prop) (w : World) : Only S w w := ⟨rfl, rfl, rfl, Nat.le_refl _, fun _ _ _ => rfl⟩
theorem Only.below {S : Nat → Prop} {w w' : World} (h : Only S w w') {B : Nat} (hB : B ≤ w.heap.size) (hS : ∀ k, S k → B ≤ k) : Below B w w' :=
  ⟨h.os, h.tape, h.output, h.size, fun k hk => h.block k (by omega) (fun s => by have := hS k s; omega)⟩
theorem Below.only {w w' : World} (S : Nat → Prop) (h : Below w.heap.size w w') : Only S w w' := ⟨h.os, h.tape, h.output, h.size, fun k hk _ => h.block k hk⟩
theorem Only.trans {S : Nat → Prop} {a b c : World} (h : Only S a b) (k : Only S b c) : Only S a c :=
  ⟨k.os.trans h.os, k.tape.trans h.tape, k.output.trans h.output, Nat.le_trans h.size k.size, fun i hi hn => (k.block i (Nat.lt_of_lt_of_le hi h.size) hn).trans (h.block i hi hn)⟩
theorem Only.cell {S : Nat → Prop} {w w' : World} (h : Only S w w') {g j : Nat} (hg : g < w.heap.size) (hS : ¬ S g) : w'.cell? ⟨g, j, none⟩ = w.cell? ⟨g, j, none⟩ := by
  simp only [World.cell?, h.block g hg hS]
theorem Only.frozen {S : Nat → Prop} {w w' : World} (h : Only S w w') {g j : Nat} (hg : g < w.heap.size) (hS : ¬ S g) : w'.frozen? ⟨g, j, none⟩ = w.frozen? ⟨g, j, none⟩ := by
  simp only [World.frozen?, h.block g hg hS]
/-- Words in memory, from an address on, in no cell of block B. -/
def WsAt (w : World) (B : Nat) (p : Option Addr) (L : List Tk) : Prop := L = [] ∨ ∃ g o, p = some ⟨g, o, none⟩ ∧ g < B ∧ ∀ i, i < L.length →
    w.cell? ⟨g, o + i * 4, none⟩ = some (.int .i64 (L.getD i default).k) ∧ w.cell? ⟨g, o + i * 4 + 1, none⟩ = some (.string (txt (L.getD i default).t)) ∧
    w.cell? ⟨g, o + i * 4 + 2, none⟩ = some (.int .i64 (L.getD i default).n) ∧ w.cell? ⟨g, o + i * 4 + 3, none⟩ = some (.int .i64 (L.getD i default).at')
theorem WsAt.only {w w' : World} {B : Nat} {p : Option Addr} {L : List Tk} (h : WsAt w B p L) (hb : Only (· = B) w w') : WsAt w' B p L := by
  rcases h with h | ⟨g, o, e, hg, h⟩
  · exact .inl h
  · refine .inr ⟨g, o, e, hg, fun i hi => ?_⟩
    obtain ⟨c0, c1, c2, c3⟩ := h i hi
    have hl := World.block_lt_of_cell? w _ c0
    have hg' : ¬ g = B := by omega
    exact ⟨(hb.cell hl hg').trans c0, (hb.cell hl hg').trans c1, (hb.cell hl hg').trans c2, (hb.cell hl hg').trans c3⟩
theorem WsAt.tail {w : World} {B : Nat} {p : Option Addr} {t : Tk} {L : List Tk} (h : WsAt w B p (t :: L)) (g o : Nat) (e : p = some ⟨g, o, none⟩) {q : Option Addr} (hq : L ≠ [] → q = some ⟨g, o + 4, none⟩) : WsAt w B q L := by
  rcases h with h | ⟨g', o', e', hg, h⟩
  · cases h
  rw [e] at e'
  cases e'
  by_cases hL : L = []
  · exact .inl hL
  refine .inr ⟨g, o + 4, hq hL, hg, fun i hi => ?_⟩
  obtain ⟨c0, c1, c2, c3⟩ := h (i + 1) (by simp; omega)
  have e1 : (t :: L).getD (i + 1) default = L.getD i default := rfl
  have e2 : o + (i + 1) * 4 = o + 4 + i * 4 := by omega
  rw [e1, e2] at c0 c1 c2 c3
  exact ⟨c0, c1, c2, c3⟩
structure Rd (w : World) (B E d : Nat) (L : List Tk) : Prop where
  c0 : ∃ p cap, w.cell? ⟨B, 0, none⟩ = some (.slice p L.length cap) ∧ L.length ≤ cap ∧ WsAt w B p L
  c1 : w.cell? ⟨B, 1, none⟩ = some (.int .i64 E)
  c2 : w.cell? ⟨B, 2, none⟩ = some (.int .i64 d)
  fr : ∀ j, w.frozen? ⟨B, j, none⟩ = false
  few : L.length ≤ 4096
  deep : d ≤ 50
theorem Rd.lt {w : World} {B E d : Nat} {L : List Tk} (h : Rd w B E d L) : B < w.heap.size := World.block_lt_of_cell? w _ h.c1
theorem Rd.below {w w' : World} {B E d : Nat} {L : List Tk} (h : Rd w B E d L) (hb : Below w.heap.size w w') : Rd w' B E d L := by
  obtain ⟨p, cap, h0, h1, h2⟩ := h.c0
  exact ⟨⟨p, cap, (hb.cell (p := ⟨B, 0, none⟩) h.lt).trans h0, h1, h2.only (Below.only _ hb)⟩, (hb.cell (p := ⟨B, 1, none⟩) h.lt).trans h.c1, (hb.cell (p := ⟨B, 2, none⟩) h.lt).trans h.c2,
    fun j => (hb.frozen (p := ⟨B, j, none⟩) h.lt).trans (h.fr j), h.few, h.deep⟩
/-- Texts in a row. -/
def SsAt (w : World) (p : Option Addr) (S : List (List UInt8)) : Prop := S = [] ∨ ∃ g o, p = some ⟨g, o, none⟩ ∧ ∀ i, i < S.length → w.cell? ⟨g, o + i, none⟩ = some (.string (txt (S.getD i [])))
theorem SsAt.only {w w' : World} {B : Nat} {p : Option Addr} {S : List (List UInt8)} (h : SsAt w p S) (hb : Below w.heap.size w w') : SsAt w' p S := by
  rcases h with h | ⟨g, o, e, h⟩
  · exact .inl h
  · exact .inr ⟨g, o, e, fun i hi => (hb.cell (World.block_lt_of_cell? w _ (h i hi))).trans (h i hi)⟩
end Go.Proofs.YtkcnpbckmdgfnaaDoor
