/-
  A list of things that came in, opened: each thing's five fields, and its path's numbers.
-/
import Derived.Test.YtokkmjcpjjiaaaaDoorOpn
import Derived.Deep.Slices
namespace Go.Proofs.YtokkmjcpjjiaaaaDoor
open Go.ChangeShapes Go.WideShapes Go.ChangeAt Go.RowKit
set_option linter.unusedSimpArgs false
set_option linter.unusedVariables false

/-- One thing, as it was handed in. -/
structure VV where
  k : Int
  b : Bool
  n : Int
  s : ByteArray
  p : Option Addr
  l : Nat
  c : Nat
  z : List Int

/-- A thing in a list. -/
structure ValAt (w : World) (g o : Nat) (x : VV) : Prop where
  c0 : w.cell? ⟨g, o, none⟩ = some (.int .i64 x.k)
  c1 : w.cell? ⟨g, o + 1, none⟩ = some (.bool x.b)
  c2 : w.cell? ⟨g, o + 2, none⟩ = some (.int .i64 x.n)
  c3 : w.cell? ⟨g, o + 3, none⟩ = some (.string x.s)
  c4 : w.cell? ⟨g, o + 4, none⟩ = some (.slice x.p x.l x.c)
  sz : x.s.size ≤ maxLen
  ln : x.z.length = x.l
  pth : PathAt w x.p x.z
theorem ValAt.below {w w' : World} {g o : Nat} {x : VV} (h : ValAt w g o x) (hb : Below w.heap.size w w') : ValAt w' g o x :=
  { h with
    c0 := (hb.cell (World.block_lt_of_cell? w _ h.c0)).trans h.c0
    c1 := (hb.cell (World.block_lt_of_cell? w _ h.c1)).trans h.c1
    c2 := (hb.cell (World.block_lt_of_cell? w _ h.c2)).trans h.c2
    c3 := (hb.cell (World.block_lt_of_cell? w _ h.c3)).trans h.c3
    c4 := (hb.cell (World.block_lt_of_cell? w _ h.c4)).trans h.c4
    pth := h.pth.below hb }
/-- A list of things that came in. -/
def ValsAt (w : World) (a : Option Addr) (n : Nat) (D : Nat → VV) : Prop :=
  n = 0 ∨ ∃ g off, a = some ⟨g, off, none⟩ ∧ ∀ i, i < n → ValAt w g (off + i * 5) (D i)

theorem list5 {cs : List Value} (h : cs.length = 5) : ∃ v0 v1 v2 v3 v4, cs = [v0, v1, v2, v3, v4] := by
  match cs, h with
  | [v0, v1, v2, v3, v4], _ => exact ⟨v0, v1, v2, v3, v4, rfl⟩
theorem add_plain (b o j : Nat) : (⟨b, o, none⟩ : Addr).add j = ⟨b, o + j, none⟩ := by unfold Addr.add; split <;> simp_all

section
variable {H : Type} {enc : TypeId × Value → H} {w : World} {held : Bool}

set_option maxRecDepth 100000 in
theorem open_val {fuel : Nat} {cs : List Value} {x : DataW H × List MemPlace} {a : Addr} (hcs : w.cells? 0 a 5 = some cs) (h : DataW.trod enc Tryd.prog w 0 (fun _ => true) held fuel 25 cs = some x) :
    ∃ b o v, a = ⟨b, o, none⟩ ∧ ValAt w b o v := by
  obtain ⟨_, hlen, hcell⟩ := World.cells?_some hcs
  obtain ⟨y0, y1, y2, y3, y4, m, _, t0, t1, t2, t3, t4⟩ := trod_struct5 Tryd.underlying25 h
  obtain ⟨v0, v1, v2, v3, v4, rfl⟩ := list5 hlen
  simp only [cells22, cells4, cells2, cells9, cells23, List.drop_zero, List.drop_succ_cons, List.take_succ_cons, List.take_zero] at t0 t1 t2 t3 t4
  obtain ⟨z0, e0, _, w0⟩ := DataW.trod_int Tryd.underlying22 t0
  obtain ⟨z1, e1, _⟩ := DataW.trod_bool Tryd.underlying4 t1
  obtain ⟨z2, e2, _, w2⟩ := DataW.trod_int Tryd.underlying2 t2
  obtain ⟨s3, e3, _, w3⟩ := DataW.trod_string Tryd.underlying9 t3
  obtain ⟨pa, l, c, zs, e4, hl, hp, hz⟩ := open_path t4
  simp only [List.cons.injEq, and_true] at e0 e1 e2 e3 e4
  subst e0 e1 e2 e3 e4
  obtain ⟨b, o, spot⟩ := a
  have hspot : spot = none := by simpa [Addr.add] using World.cell?_spot (hcell 0 (by omega))
  subst hspot
  refine ⟨b, o, ⟨z0, z1, z2, s3, pa, l, c, zs⟩, rfl, ⟨?_, ?_, ?_, ?_, ?_, w3, hl, hp⟩⟩
  · have := hcell 0 (by omega); rwa [add_plain] at this
  · have := hcell 1 (by omega); rwa [add_plain] at this
  · have := hcell 2 (by omega); rwa [add_plain] at this
  · have := hcell 3 (by omega); rwa [add_plain] at this
  · have := hcell 4 (by omega); rwa [add_plain] at this

theorem open_vals {fuel : Nat} {a : Option Addr} {len cap : Nat} {x : DataW H × List MemPlace} (h : DataW.trod enc Tryd.prog w 0 (fun _ => true) held fuel 34 [.slice a len cap] = some x) :
    ∃ D, ValsAt w a len D ∧ len ≤ maxLen := by
  rcases Deep.open_slice Tryd.underlying34 h with ⟨hcs, hx⟩ | ⟨a', l, c, m, n, D, Pl, hcs, _, hl, hm, hmm, hx, hall⟩
  · simp at hcs
    obtain ⟨rfl, rfl, rfl⟩ := hcs
    exact ⟨fun _ => ⟨0, false, 0, ⟨#[]⟩, none, 0, 0, []⟩, .inl rfl, Nat.zero_le _⟩
  · simp at hcs
    obtain ⟨rfl, rfl, rfl⟩ := hcs
    simp only [if_true] at hmm
    rw [cells25] at hall
    by_cases h0 : len = 0
    · exact ⟨fun _ => ⟨0, false, 0, ⟨#[]⟩, none, 0, 0, []⟩, .inl h0, by omega⟩
    · have one : ∀ i, i < len → ∃ b o v, a'.add (i * 5) = ⟨b, o, none⟩ ∧ ValAt w b o v := fun i hi => by
        obtain ⟨cs, h1, h2⟩ := hall i (by omega)
        exact open_val h1 h2
      obtain ⟨b0, o0, v0, e0, _⟩ := one 0 (by omega)
      obtain ⟨b, off, spot⟩ := a'
      have hspot : spot = none := by
        cases spot with
        | none => rfl
        | some s => simp [Addr.add] at e0
      subst hspot
      have two : ∀ i, i < len → ∃ v, ValAt w b (off + i * 5) v := fun i hi => by
        obtain ⟨b1, o1, v1, e1, h1⟩ := one i hi
        rw [add_plain] at e1
        cases e1
        exact ⟨v1, h1⟩
      refine ⟨fun i => if hi : i < len then Classical.choose (two i hi) else ⟨0, false, 0, ⟨#[]⟩, none, 0, 0, []⟩, .inr ⟨b, off, rfl, fun i hi => ?_⟩, Nat.le_trans hl hm⟩
      simp only [hi, dif_pos]
      exact Classical.choose_spec (two i hi)
end
end Go.Proofs.YtokkmjcpjjiaaaaDoor
