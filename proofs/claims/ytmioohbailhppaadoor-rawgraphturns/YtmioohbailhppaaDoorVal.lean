/-
  A thing, as the program holds it; a list of things that came in, opened: each thing's five fields, and its path's numbers.
-/
import Derived.Test.YtmioohbailhppaaDoorCards
import Derived.Test.YtmioohbailhppaaDoorTie
import Derived.Test.YtmioohbailhppaaDoorProg
import Derived.WalkKit
import Derived.WalkMore
import Derived.Handy
import Derived.ProofKit
import Derived.OpenShut
import Derived.ShutString
import Derived.ChangeOld
import Derived.Below
import Derived.SizedLaws
import Derived.Deep.DeepHandedRow
import Derived.Lib.LaidTab
import Derived.Lib.SmallJoins
import Derived.LaidSub
import Derived.Deep.Slices
namespace Go.Proofs.YtmioohbailhppaaDoor
open Go.ChangeShapes Go.WideShapes Go.ChangeAt Go.RowKit
set_option linter.unusedSimpArgs false
set_option linter.unusedVariables false

/-- A value, field by field. -/
def vv (k : Int) (b : Bool) (n : Int) (s : ByteArray) (p : Option Addr) (l c : Nat) : Value := .agg #[.int .i64 k, .bool b, .int .i64 n, .string s, .slice p l c]
theorem cell_keep {w : World} {a : Addr} {v : Value} (o : Obj) (h : w.cell? a = some v) : (w.alloc o).cell? a = some v := by
  have hb : Below w.heap.size w (w.alloc o) := (Below.refl _ _).alloc (Nat.le_refl _) o
  exact (hb.cell (World.block_lt_of_cell? w _ h)).trans h


/-- A value's five fields in a block of its own. -/
structure BoxAt (w : World) (x : Nat) (k : Int) (b : Bool) (n : Int) (s : ByteArray) (p : Option Addr) (l c : Nat) : Prop where
  c0 : w.cell? ⟨x, 0, none⟩ = some (.int .i64 k)
  c1 : w.cell? ⟨x, 1, none⟩ = some (.bool b)
  c2 : w.cell? ⟨x, 2, none⟩ = some (.int .i64 n)
  c3 : w.cell? ⟨x, 3, none⟩ = some (.string s)
  c4 : w.cell? ⟨x, 4, none⟩ = some (.slice p l c)
  fr : ∀ j, w.frozen? ⟨x, j, none⟩ = false
theorem BoxAt.new (w : World) (k : Int) (b : Bool) (n : Int) (s : ByteArray) (p : Option Addr) (l c : Nat) {x : Nat} (hx : x = w.heap.size) : BoxAt (w.alloc (.cells #[.int .i64 k, .bool b, .int .i64 n, .string s, .slice p l c] 100)) x k b n s p l c := by
  subst hx
  constructor <;> (simp only [World.cell?, World.frozen?, heap_alloc_new]; simp)
theorem BoxAt.lt {w : World} {x : Nat} {k : Int} {b : Bool} {n : Int} {s : ByteArray} {p : Option Addr} {l c : Nat} (h : BoxAt w x k b n s p l c) : x < w.heap.size := World.block_lt_of_cell? w _ h.c0
theorem BoxAt.below {w w' : World} {x : Nat} {k : Int} {b : Bool} {n : Int} {s : ByteArray} {p : Option Addr} {l c : Nat} (h : BoxAt w x k b n s p l c) (hb : Below w.heap.size w w') : BoxAt w' x k b n s p l c :=
  ⟨(hb.cell h.lt).trans h.c0, (hb.cell h.lt).trans h.c1, (hb.cell h.lt).trans h.c2, (hb.cell h.lt).trans h.c3, (hb.cell h.lt).trans h.c4, fun j => (hb.frozen h.lt).trans (h.fr j)⟩
theorem BoxAt.alloc {w : World} {x : Nat} {k : Int} {b : Bool} {n : Int} {s : ByteArray} {p : Option Addr} {l c : Nat} (h : BoxAt w x k b n s p l c) (o : Obj) : BoxAt (w.alloc o) x k b n s p l c :=
  h.below ((Below.refl _ _).alloc (Nat.le_refl _) o)
theorem BoxAt.put {w : World} {x : Nat} {k : Int} {b : Bool} {n : Int} {s : ByteArray} {p : Option Addr} {l c : Nat} (h : BoxAt w x k b n s p l c) (k' : Int) (b' : Bool) (n' : Int) (s' : ByteArray) (p' : Option Addr) (l' c' : Nat) :
    BoxAt (((((w.setCell ⟨x, 0, none⟩ (.int .i64 k')).setCell ⟨x, 1, none⟩ (.bool b')).setCell ⟨x, 2, none⟩ (.int .i64 n')).setCell ⟨x, 3, none⟩ (.string s')).setCell ⟨x, 4, none⟩ (.slice p' l' c')) x k' b' n' s' p' l' c' := by
  obtain ⟨c0, c1, c2, c3, c4, fr⟩ := h
  constructor
  · go_cell
  · go_cell
  · go_cell
  · go_cell
  · go_cell
  · intro j
    simpa using fr j
theorem results_box {fn : Func} {q : Tmp} (h : fn.results = #[.cell q 100]) (tmps : Array Value) {w : World} {x : Nat} {k : Int} {b : Bool} {n : Int} {s : ByteArray} {p : Option Addr} {l c : Nat}
    (hq : tmps.getD q undef = .pointer (some ⟨x, 0, none⟩)) (hb : BoxAt w x k b n s p l c) : (results fn tmps).run Tryd.prog w = .ok (.agg #[.int .i64 k, .bool b, .int .i64 n, .string s, .slice p l c]) w := by
  obtain ⟨c0, c1, c2, c3, c4, fr⟩ := hb
  have hq' : tmps[q]?.getD undef = .pointer (some ⟨x, 0, none⟩) := by simpa using hq
  simp [results, h, hq', go_sem, c0, c1, c2, c3, c4]
/-- A world in which nothing elder has turned, behind two steps. -/
theorem below_on {a w w' : World} (h : Below a.heap.size a w) (k : Below w.heap.size w w') : Below a.heap.size a w' := h.trans (k.mono h.size)
theorem below_new (w : World) (o : Obj) : Below w.heap.size w (w.alloc o) := (Below.refl _ _).alloc (Nat.le_refl _) o


/-- The numbers of a path that came in. -/
def PathAt (w : World) (a : Option Addr) (zs : List Int) : Prop := zs = [] ∨ ∃ b off, a = some ⟨b, off, none⟩ ∧ ∀ i, i < zs.length → w.cell? ⟨b, off + i, none⟩ = some (.int .i64 (zs.getD i 0))
theorem PathAt.below {w w' : World} {a : Option Addr} {zs : List Int} (h : PathAt w a zs) (hb : Below w.heap.size w w') : PathAt w' a zs := by
  rcases h with h | ⟨b, off, e, h⟩
  · exact .inl h
  · exact .inr ⟨b, off, e, fun i hi => (hb.cell (World.block_lt_of_cell? w _ (h i hi))).trans (h i hi)⟩
theorem PathAt.alloc {w : World} {a : Option Addr} {zs : List Int} (h : PathAt w a zs) (o : Obj) : PathAt (w.alloc o) a zs := h.below ((Below.refl _ _).alloc (Nat.le_refl _) o)
/-- Its number at a place. -/
theorem PathAt.num {w : World} {a : Option Addr} {zs : List Int} (h : PathAt w a zs) (i : Nat) (hi : i < zs.length) : ∃ b off, a = some ⟨b, off, none⟩ ∧ w.cell? ⟨b, off + i, none⟩ = some (.int .i64 (zs.getD i 0)) := by
  rcases h with rfl | ⟨b, off, e, h⟩
  · simp at hi
  · exact ⟨b, off, e, h i hi⟩


theorem own : ownKnob Tryd.prog.godebug = none := by kernel_rfl
theorem laidOut : laidOutB Tryd.prog = true := by kernel_rfl
theorem cells100 : Tryd.prog.cellsOf 100 = 5 := by kernel_rfl
theorem cells2 : Tryd.prog.cellsOf 2 = 1 := by kernel_rfl
theorem array5 {α : Type} {cs : Array α} (h : cs.size = 5) : ∃ c0 c1 c2 c3 c4, cs = #[c0, c1, c2, c3, c4] := by
  obtain ⟨l⟩ := cs
  match l, h with
  | [c0, c1, c2, c3, c4], _ => exact ⟨c0, c1, c2, c3, c4, rfl⟩

section
variable {H : Type} {enc : TypeId × Value → H} {W : World} {held : Bool}

theorem open_path {fuel : Nat} {cs : List Value} {x : DataW H × List MemPlace} (h : DataW.trod enc Tryd.prog W 0 (fun _ => true) held fuel 98 cs = some x) :
    ∃ a l c zs, cs = [.slice a l c] ∧ zs.length = l ∧ PathAt W a zs ∧ (∀ z ∈ zs, -9223372036854775808 ≤ z ∧ z ≤ 9223372036854775807) ∧ l ≤ maxLen := by
  rcases open_ints Tryd.underlying98 Tryd.underlying2 cells2 h with ⟨hcs, _⟩ | ⟨a, l, c, zs, hcs, _, hl, hm, hz, _, hcell, hwz⟩
  · exact ⟨none, 0, 0, [], hcs, rfl, .inl rfl, by simp, Nat.zero_le _⟩
  · simp only [if_true] at hz
    have hlen : (zs.take l).length = l := by simp; omega
    refine ⟨some a, l, c, zs.take l, hcs, hlen, ?_, fun z hz => bounds_i64 (hwz z (List.mem_of_mem_take hz)), Nat.le_trans hl hm⟩
    by_cases hl0 : l = 0
    · left; simp [hl0]
    · obtain ⟨b, off, ha, hc⟩ := ints_at hcell (by omega)
      refine .inr ⟨b, off, by rw [ha], fun i hi => ?_⟩
      rw [hlen] at hi
      rw [hc i (by omega)]
      simp [List.getD, List.getElem?_take_of_lt hi]

theorem trod_struct5 {t : TypeId} {f0 f1 f2 f3 f4 : Field} {fuel : Nat} {cs : List Value} {x : DataW H × List MemPlace} {base : Nat} {spare : Nat → Bool} (ht : Tryd.prog.underlying t = some (.struct #[f0, f1, f2, f3, f4])) (h : DataW.trod enc Tryd.prog W base spare held fuel t cs = some x) :
    ∃ y0 y1 y2 y3 y4 n, cs.length = Tryd.prog.cellsOf t ∧ DataW.trod enc Tryd.prog W base spare held n f0.type ((cs.drop f0.offset).take (Tryd.prog.cellsOf f0.type)) = some y0 ∧
      DataW.trod enc Tryd.prog W base spare held n f1.type ((cs.drop f1.offset).take (Tryd.prog.cellsOf f1.type)) = some y1 ∧ DataW.trod enc Tryd.prog W base spare held n f2.type ((cs.drop f2.offset).take (Tryd.prog.cellsOf f2.type)) = some y2 ∧
      DataW.trod enc Tryd.prog W base spare held n f3.type ((cs.drop f3.offset).take (Tryd.prog.cellsOf f3.type)) = some y3 ∧ DataW.trod enc Tryd.prog W base spare held n f4.type ((cs.drop f4.offset).take (Tryd.prog.cellsOf f4.type)) = some y4 := by
  obtain ⟨xs, n, _, rfl, hl, hlen, hf⟩ := DataW.trod_struct ht h
  match xs, hlen with
  | [y0, y1, y2, y3, y4], _ => exact ⟨y0, y1, y2, y3, y4, n, hl, by simpa using hf 0 f0 rfl, by simpa using hf 1 f1 rfl, by simpa using hf 2 f2 rfl, by simpa using hf 3 f3 rfl, by simpa using hf 4 f4 rfl⟩

theorem cells78 : Tryd.prog.cellsOf 78 = 1 := by kernel_rfl
theorem cells4 : Tryd.prog.cellsOf 4 = 1 := by kernel_rfl
theorem cells9 : Tryd.prog.cellsOf 9 = 1 := by kernel_rfl
theorem cells98 : Tryd.prog.cellsOf 98 = 1 := by kernel_rfl

set_option maxRecDepth 100000 in
/-- A value that came in, opened: its five fields, and its path's numbers. -/
theorem open_value {r : Reach} {b0 : Nat} {v : Value} {d : DataW H} {p : List MemPlace} (hv : Value.okWide Tryd.prog W r b0 100 v) (h : DataW.Trod enc Tryd.prog W 0 (fun _ => true) held 100 v d p) :
    ∃ k b n s a l c zs, v = vv k b n s a l c ∧ (-9223372036854775808 ≤ k ∧ k ≤ 9223372036854775807) ∧ (-9223372036854775808 ≤ n ∧ n ≤ 9223372036854775807) ∧ s.size ≤ maxLen ∧ zs.length = l ∧ PathAt W a zs ∧ (∀ z ∈ zs, -9223372036854775808 ≤ z ∧ z ≤ 9223372036854775807) ∧ l ≤ maxLen := by
  obtain ⟨cs, rfl, hsz⟩ := okWide_struct Tryd.underlying100 hv
  obtain ⟨v0, v1, v2, v3, v4, rfl⟩ := array5 (hsz.trans cells100)
  obtain ⟨fuel, hf⟩ := h
  obtain ⟨y0, y1, y2, y3, y4, m, _, t0, t1, t2, t3, t4⟩ := trod_struct5 Tryd.underlying100 hf
  simp only [Value.cells, cells78, cells4, cells2, cells9, cells98, List.drop_zero, List.drop_succ_cons, List.take_succ_cons, List.take_zero] at t0 t1 t2 t3 t4
  obtain ⟨z0, e0, _, w0⟩ := DataW.trod_int Tryd.underlying78 t0
  obtain ⟨z1, e1, _⟩ := DataW.trod_bool Tryd.underlying4 t1
  obtain ⟨z2, e2, _, w2⟩ := DataW.trod_int Tryd.underlying2 t2
  obtain ⟨s3, e3, _, w3⟩ := DataW.trod_string Tryd.underlying9 t3
  obtain ⟨a, l, c, zs, e4, hl, hp, hz⟩ := open_path t4
  simp only [List.cons.injEq, and_true] at e0 e1 e2 e3 e4
  subst e0 e1 e2 e3 e4
  exact ⟨z0, z1, z2, s3, a, l, c, zs, rfl, bounds_i64 w0, bounds_i64 w2, w3, hl, hp, hz⟩
end


/-- One thing, as it was handed in. -/
structure VV where
  k : Int
  b : Bool
  n : Int
  s : ByteArray
  p : Option Addr
  l : Nat
  c : Nat
  z : List Int

/-- A thing in a list. -/
structure ValAt (w : World) (g o : Nat) (x : VV) : Prop where
  c0 : w.cell? ⟨g, o, none⟩ = some (.int .i64 x.k)
  c1 : w.cell? ⟨g, o + 1, none⟩ = some (.bool x.b)
  c2 : w.cell? ⟨g, o + 2, none⟩ = some (.int .i64 x.n)
  c3 : w.cell? ⟨g, o + 3, none⟩ = some (.string x.s)
  c4 : w.cell? ⟨g, o + 4, none⟩ = some (.slice x.p x.l x.c)
  sz : x.s.size ≤ maxLen
  ln : x.z.length = x.l
  pth : PathAt w x.p x.z
theorem ValAt.below {w w' : World} {g o : Nat} {x : VV} (h : ValAt w g o x) (hb : Below w.heap.size w w') : ValAt w' g o x :=
  { h with
    c0 := (hb.cell (World.block_lt_of_cell? w _ h.c0)).trans h.c0
    c1 := (hb.cell (World.block_lt_of_cell? w _ h.c1)).trans h.c1
    c2 := (hb.cell (World.block_lt_of_cell? w _ h.c2)).trans h.c2
    c3 := (hb.cell (World.block_lt_of_cell? w _ h.c3)).trans h.c3
    c4 := (hb.cell (World.block_lt_of_cell? w _ h.c4)).trans h.c4
    pth := h.pth.below hb }
/-- A list of things that came in. -/
def ValsAt (w : World) (a : Option Addr) (n : Nat) (D : Nat → VV) : Prop :=
  n = 0 ∨ ∃ g off, a = some ⟨g, off, none⟩ ∧ ∀ i, i < n → ValAt w g (off + i * 5) (D i)

theorem list5 {cs : List Value} (h : cs.length = 5) : ∃ v0 v1 v2 v3 v4, cs = [v0, v1, v2, v3, v4] := by
  match cs, h with
  | [v0, v1, v2, v3, v4], _ => exact ⟨v0, v1, v2, v3, v4, rfl⟩
theorem add_plain (b o j : Nat) : (⟨b, o, none⟩ : Addr).add j = ⟨b, o + j, none⟩ := by unfold Addr.add; split <;> simp_all

section
variable {H : Type} {enc : TypeId × Value → H} {w : World} {held : Bool}

set_option maxRecDepth 100000 in
theorem open_val {fuel : Nat} {cs : List Value} {x : DataW H × List MemPlace} {a : Addr} (hcs : w.cells? 0 a 5 = some cs) (h : DataW.trod enc Tryd.prog w 0 (fun _ => true) held fuel 100 cs = some x) :
    ∃ b o v, a = ⟨b, o, none⟩ ∧ ValAt w b o v := by
  obtain ⟨_, hlen, hcell⟩ := World.cells?_some hcs
  obtain ⟨y0, y1, y2, y3, y4, m, _, t0, t1, t2, t3, t4⟩ := trod_struct5 Tryd.underlying100 h
  obtain ⟨v0, v1, v2, v3, v4, rfl⟩ := list5 hlen
  simp only [cells78, cells4, cells2, cells9, cells98, List.drop_zero, List.drop_succ_cons, List.take_succ_cons, List.take_zero] at t0 t1 t2 t3 t4
  obtain ⟨z0, e0, _, w0⟩ := DataW.trod_int Tryd.underlying78 t0
  obtain ⟨z1, e1, _⟩ := DataW.trod_bool Tryd.underlying4 t1
  obtain ⟨z2, e2, _, w2⟩ := DataW.trod_int Tryd.underlying2 t2
  obtain ⟨s3, e3, _, w3⟩ := DataW.trod_string Tryd.underlying9 t3
  obtain ⟨pa, l, c, zs, e4, hl, hp, hz⟩ := open_path t4
  simp only [List.cons.injEq, and_true] at e0 e1 e2 e3 e4
  subst e0 e1 e2 e3 e4
  obtain ⟨b, o, spot⟩ := a
  have hspot : spot = none := by simpa [Addr.add] using World.cell?_spot (hcell 0 (by omega))
  subst hspot
  refine ⟨b, o, ⟨z0, z1, z2, s3, pa, l, c, zs⟩, rfl, ⟨?_, ?_, ?_, ?_, ?_, w3, hl, hp⟩⟩
  · have := hcell 0 (by omega); rwa [add_plain] at this
  · have := hcell 1 (by omega); rwa [add_plain] at this
  · have := hcell 2 (by omega); rwa [add_plain] at this
  · have := hcell 3 (by omega); rwa [add_plain] at this
  · have := hcell 4 (by omega); rwa [add_plain] at this

end

/-- How long a list that came in may be, by the bytes that it takes. -/
theorem len_of {H : Type} {P : Program} {ts : List TypeId} {ds : List (DataW H)} (h : (DataW.weightsEach P ts ds).all (· ≤ reachBytes) = true) {j : Nat} {t e : TypeId} {d : DataW H} {len B : Nat} (ht : ts[j]? = some t) (hd : ds[j]? = some d)
    (hu : P.underlying t = some (.slice e)) (hb : P.bytesOf e = B) (hx : d = .nil ∧ len = 0 ∨ ∃ el sp, d = .slice el sp ∧ el.length = len) : len * B ≤ 140737488351232 := by
  rcases hx with ⟨_, h0⟩ | ⟨el, sp, rfl, hl⟩
  · rw [h0]; omega
  · have := sized_slice h ht hd hu
    rw [hb] at this
    simp only [reachBytes] at this
    have h2 : len * B ≤ (el.length + sp.length) * B := Nat.mul_le_mul_right _ (by omega)
    omega
end Go.Proofs.YtmioohbailhppaaDoor
