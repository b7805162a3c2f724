/-
  A word in a block of its own; what the readers of words answer.
-/
import Derived.Test.YtkcnpbckmdgfnaaGreatDoorKey
namespace Go.Proofs.YtkcnpbckmdgfnaaGreatDoor
open Go.ChangeShapes Go.WideShapes Go.ChangeAt Go.RowKit
set_option linter.unusedSimpArgs false
set_option linter.unusedVariables false

def tokV (k : Int) (t : ByteArray) (n a : Int) : Value := .agg #[.int .i64 k, .string t, .int .i64 n, .int .i64 a]
/-- What the readers of words answer. -/
def resV (x : Wd) : Value := .tuple #[tokV x.k (txt x.t) x.n 0, .int .i64 x.len, .int .i64 x.e]
theorem extract_take (s : ByteArray) (n : Nat) : (s.extract 0 n).data.toList = s.data.toList.take n := by
  rw [Lib.extract_data]
  simp

/-- A word's four fields in a block of its own. -/
structure BoxAt (w : World) (x : Nat) (k : Int) (t : ByteArray) (n a : Int) : Prop where
  c0 : w.cell? ⟨x, 0, none⟩ = some (.int .i64 k)
  c1 : w.cell? ⟨x, 1, none⟩ = some (.string t)
  c2 : w.cell? ⟨x, 2, none⟩ = some (.int .i64 n)
  c3 : w.cell? ⟨x, 3, none⟩ = some (.int .i64 a)
  fr : ∀ j, w.frozen? ⟨x, j, none⟩ = false
theorem BoxAt.new (w : World) (k : Int) (t : ByteArray) (n a : Int) {x : Nat} (hx : x = w.heap.size) : BoxAt (w.alloc (.cells #[.int .i64 k, .string t, .int .i64 n, .int .i64 a] 147)) x k t n a := by
  subst hx
  constructor <;> (simp only [World.cell?, World.frozen?, heap_alloc_new]; simp)
theorem BoxAt.lt {w : World} {x : Nat} {k : Int} {t : ByteArray} {n a : Int} (h : BoxAt w x k t n a) : x < w.heap.size := World.block_lt_of_cell? w _ h.c0
theorem BoxAt.below {w w' : World} {x : Nat} {k : Int} {t : ByteArray} {n a : Int} (h : BoxAt w x k t n a) (hb : Below w.heap.size w w') : BoxAt w' x k t n a :=
  ⟨(hb.cell h.lt).trans h.c0, (hb.cell h.lt).trans h.c1, (hb.cell h.lt).trans h.c2, (hb.cell h.lt).trans h.c3, fun j => (hb.frozen h.lt).trans (h.fr j)⟩
theorem BoxAt.alloc {w : World} {x : Nat} {k : Int} {t : ByteArray} {n a : Int} (h : BoxAt w x k t n a) (o : Obj) : BoxAt (w.alloc o) x k t n a :=
  h.below ((Below.refl _ _).alloc (Nat.le_refl _) o)
theorem BoxAt.put {w : World} {x : Nat} {k : Int} {t : ByteArray} {n a : Int} (h : BoxAt w x k t n a) (k' : Int) (t' : ByteArray) (n' a' : Int) :
    BoxAt ((((w.setCell ⟨x, 0, none⟩ (.int .i64 k')).setCell ⟨x, 1, none⟩ (.string t')).setCell ⟨x, 2, none⟩ (.int .i64 n')).setCell ⟨x, 3, none⟩ (.int .i64 a')) x k' t' n' a' := by
  obtain ⟨c0, c1, c2, c3, fr⟩ := h
  constructor
  · go_cell
  · go_cell
  · go_cell
  · go_cell
  · intro j
    simpa using fr j
theorem results_tok {fn : Func} {q q1 q2 : Tmp} (h : fn.results = #[.cell q 147, .tmp q1, .tmp q2]) (tmps : Array Value) {w : World} {x : Nat} {k : Int} {t : ByteArray} {n a : Int} {v1 v2 : Value}
    (hq : tmps.getD q undef = .pointer (some ⟨x, 0, none⟩)) (h1 : tmps.getD q1 undef = v1) (h2 : tmps.getD q2 undef = v2) (hb : BoxAt w x k t n a) :
    (results fn tmps).run Tryz.prog w = .ok (.tuple #[tokV k t n a, v1, v2]) w := by
  obtain ⟨c0, c1, c2, c3, fr⟩ := hb
  have hq' : tmps[q]?.getD undef = .pointer (some ⟨x, 0, none⟩) := by simpa using hq
  have h1' : tmps[q1]?.getD undef = v1 := by simpa using h1
  have h2' : tmps[q2]?.getD undef = v2 := by simpa using h2
  simp [results, h, hq', h1', h2', go_sem, c0, c1, c2, c3, tokV]
end Go.Proofs.YtkcnpbckmdgfnaaGreatDoor
