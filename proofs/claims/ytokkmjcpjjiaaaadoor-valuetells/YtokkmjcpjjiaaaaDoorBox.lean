/-
  A value that lies in memory.
-/
import Derived.Test.YtokkmjcpjjiaaaaDoorVal
namespace Go.Proofs.YtokkmjcpjjiaaaaDoor
open Go.RowKit
set_option linter.unusedSimpArgs false
set_option linter.unusedVariables false

/-- A value's five fields in a block of its own. -/
structure BoxAt (w : World) (x : Nat) (k : Int) (b : Bool) (n : Int) (s : ByteArray) (p : Option Addr) (l c : Nat) : Prop where
  c0 : w.cell? ⟨x, 0, none⟩ = some (.int .i64 k)
  c1 : w.cell? ⟨x, 1, none⟩ = some (.bool b)
  c2 : w.cell? ⟨x, 2, none⟩ = some (.int .i64 n)
  c3 : w.cell? ⟨x, 3, none⟩ = some (.string s)
  c4 : w.cell? ⟨x, 4, none⟩ = some (.slice p l c)
  fr : ∀ j, w.frozen? ⟨x, j, none⟩ = false
theorem BoxAt.new (w : World) (k : Int) (b : Bool) (n : Int) (s : ByteArray) (p : Option Addr) (l c : Nat) {x : Nat} (hx : x = w.heap.size) : BoxAt (w.alloc (.cells #[.int .i64 k, .bool b, .int .i64 n, .string s, .slice p l c] 25)) x k b n s p l c := by
  subst hx
  constructor <;> (simp only [World.cell?, World.frozen?, heap_alloc_new]; simp)
theorem BoxAt.lt {w : World} {x : Nat} {k : Int} {b : Bool} {n : Int} {s : ByteArray} {p : Option Addr} {l c : Nat} (h : BoxAt w x k b n s p l c) : x < w.heap.size := World.block_lt_of_cell? w _ h.c0
theorem BoxAt.below {w w' : World} {x : Nat} {k : Int} {b : Bool} {n : Int} {s : ByteArray} {p : Option Addr} {l c : Nat} (h : BoxAt w x k b n s p l c) (hb : Below w.heap.size w w') : BoxAt w' x k b n s p l c :=
  ⟨(hb.cell h.lt).trans h.c0, (hb.cell h.lt).trans h.c1, (hb.cell h.lt).trans h.c2, (hb.cell h.lt).trans h.c3, (hb.cell h.lt).trans h.c4, fun j => (hb.frozen h.lt).trans (h.fr j)⟩
theorem BoxAt.alloc {w : World} {x : Nat} {k : Int} {b : Bool} {n : Int} {s : ByteArray} {p : Option Addr} {l c : Nat} (h : BoxAt w x k b n s p l c) (o : Obj) : BoxAt (w.alloc o) x k b n s p l c :=
  h.below ((Below.refl _ _).alloc (Nat.le_refl _) o)
theorem BoxAt.put {w : World} {x : Nat} {k : Int} {b : Bool} {n : Int} {s : ByteArray} {p : Option Addr} {l c : Nat} (h : BoxAt w x k b n s p l c) (k' : Int) (b' : Bool) (n' : Int) (s' : ByteArray) (p' : Option Addr) (l' c' : Nat) :
    BoxAt (((((w.setCell ⟨x, 0, none⟩ (.int .i64 k')).setCell ⟨x, 1, none⟩ (.bool b')).setCell ⟨x, 2, none⟩ (.int .i64 n')).setCell ⟨x, 3, none⟩ (.string s')).setCell ⟨x, 4, none⟩ (.slice p' l' c')) x k' b' n' s' p' l' c' := by
  obtain ⟨c0, c1, c2, c3, c4, fr⟩ := h
  constructor
  · go_cell
  · go_cell
  · go_cell
  · go_cell
  · go_cell
  · intro j
    simpa using fr j
theorem results_box {fn : Func} {q : Tmp} (h : fn.results = #[.cell q 25]) (tmps : Array Value) {w : World} {x : Nat} {k : Int} {b : Bool} {n : Int} {s : ByteArray} {p : Option Addr} {l c : Nat}
    (hq : tmps.getD q undef = .pointer (some ⟨x, 0, none⟩)) (hb : BoxAt w x k b n s p l c) : (results fn tmps).run Tryd.prog w = .ok (.agg #[.int .i64 k, .bool b, .int .i64 n, .string s, .slice p l c]) w := by
  obtain ⟨c0, c1, c2, c3, c4, fr⟩ := hb
  have hq' : tmps[q]?.getD undef = .pointer (some ⟨x, 0, none⟩) := by simpa using hq
  simp [results, h, hq', go_sem, c0, c1, c2, c3, c4]
/-- A world in which nothing elder has turned, behind two steps. -/
theorem below_on {a w w' : World} (h : Below a.heap.size a w) (k : Below w.heap.size w w') : Below a.heap.size a w' := h.trans (k.mono h.size)
theorem below_new (w : World) (o : Obj) : Below w.heap.size w (w.alloc o) := (Below.refl _ _).alloc (Nat.le_refl _) o
end Go.Proofs.YtokkmjcpjjiaaaaDoor
