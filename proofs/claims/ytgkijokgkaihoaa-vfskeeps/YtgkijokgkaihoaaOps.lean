/-
  What a list of calls that was handed in is in memory.
-/
import Derived.Test.YtgkijokgkaihoaaApp
import Derived.ProofKit
import Derived.OpenShut
import Derived.Deep.Slices
import Derived.Lib.SmallJoins
namespace Go.Proofs.Ytgkijokgkaihoaa
open Go.RowKit Go.WideMaps Go.Maps Go.ChangeShapes Go.WideShapes

/-- One call, as it was handed in. -/
structure OpV where
  what : Int
  name : ByteArray
  av : Option Addr
  bl : Nat
  bc : Nat
  pg : List UInt8
  num : Int

/-- A slice of bytes that came in: nothing, or its bytes at its address. -/
def PageIn (w : World) (av : Option Addr) (pg : List UInt8) : Prop := pg = [] ∨ ∃ a, av = some a ∧ BytesAt w a pg

structure OpAt (w : World) (b o : Nat) (x : OpV) : Prop where
  c0 : w.cell? ⟨b, o, none⟩ = some (.int .i64 x.what)
  c1 : w.cell? ⟨b, o + 1, none⟩ = some (.string x.name)
  c2 : w.cell? ⟨b, o + 2, none⟩ = some (.slice x.av x.bl x.bc)
  c3 : w.cell? ⟨b, o + 3, none⟩ = some (.int .i64 x.num)
  nm : x.name.size ≤ maxLen
  len : x.pg.length = x.bl
  byt : PageIn w x.av x.pg
  wl : -9223372036854775808 ≤ x.what
  wh : x.what ≤ 9223372036854775807
  nl : -9223372036854775808 ≤ x.num
  nh : x.num ≤ 9223372036854775807

/-- A list of calls that came in. -/
def OpsAt (w : World) (a : Option Addr) (n : Nat) (D : Nat → OpV) : Prop :=
  n = 0 ∨ ∃ b off, a = some ⟨b, off, none⟩ ∧ ∀ i, i < n → OpAt w b (off + i * 4) (D i)

theorem BytesAt.below {w w' : World} {a : Addr} {pg : List UInt8} (h : BytesAt w a pg) (hb : Below w.heap.size w w') : BytesAt w' a pg := fun i hi => by
  have hx := h i hi
  exact (hb.cell (World.block_lt_of_cell? w _ hx)).trans hx
theorem PageIn.below {w w' : World} {av : Option Addr} {pg : List UInt8} (h : PageIn w av pg) (hb : Below w.heap.size w w') : PageIn w' av pg := by
  rcases h with h | ⟨a, e, h⟩
  · exact .inl h
  · exact .inr ⟨a, e, h.below hb⟩
theorem OpAt.below {w w' : World} {b o : Nat} {x : OpV} (h : OpAt w b o x) (hb : Below w.heap.size w w') : OpAt w' b o x :=
  { h with
    c0 := (hb.cell (World.block_lt_of_cell? w _ h.c0)).trans h.c0
    c1 := (hb.cell (World.block_lt_of_cell? w _ h.c1)).trans h.c1
    c2 := (hb.cell (World.block_lt_of_cell? w _ h.c2)).trans h.c2
    c3 := (hb.cell (World.block_lt_of_cell? w _ h.c3)).trans h.c3
    byt := h.byt.below hb }

theorem cells31 : Try.prog.cellsOf 31 = 4 := by kernel_rfl
theorem cells3 : Try.prog.cellsOf 3 = 1 := by kernel_rfl
theorem cells9 : Try.prog.cellsOf 9 = 1 := by kernel_rfl
theorem cells29 : Try.prog.cellsOf 29 = 1 := by kernel_rfl
theorem cells5 : Try.prog.cellsOf 5 = 1 := by kernel_rfl

section
variable {H : Type} {enc : TypeId × Value → H} {w : World} {spare : Nat → Bool} {held : Bool}

/-- Bytes that came in, opened. -/
theorem open_page {fuel : Nat} {cs : List Value} {x : DataW H × List MemPlace} (hs : ∀ k, spare k = true) (h : DataW.trod enc Try.prog w 0 spare held fuel 29 cs = some x) :
    ∃ av n c pg, cs = [.slice av n c] ∧ pg.length = n ∧ PageIn w av pg := by
  rcases open_ints Try.underlying29 Try.underlying5 cells5 h with ⟨hcs, _⟩ | ⟨a, l, c, zs, hcs, _, hl, hm, hz, _, hcell, hwz⟩
  · exact ⟨none, 0, 0, [], hcs, rfl, .inl rfl⟩
  · rw [hs] at hz
    simp only [if_true] at hz
    refine ⟨some a, l, c, (zs.take l).map (fun z => UInt8.ofNat z.toNat), hcs, by simp; omega, .inr ⟨a, rfl, fun i hi => ?_⟩⟩
    have hi' : i < l := by simp at hi; omega
    have hiz : i < zs.length := by omega
    rw [hcell i hiz]
    have hb := bounds_u8 (hwz zs[i] (List.getElem_mem hiz))
    have e : ((UInt8.ofNat zs[i].toNat).toNat : Int) = zs[i] := by
      rw [UInt8.toNat_ofNat']
      omega
    simp only [List.map_map, List.getD_eq_getElem?_getD, List.getElem?_map, List.getElem?_take_of_lt hi', List.getElem?_eq_getElem hiz, Option.map_some, Option.getD_some, Function.comp_apply, e]

theorem list4 {cs : List Value} (h : cs.length = 4) : ∃ v0 v1 v2 v3, cs = [v0, v1, v2, v3] := by
  match cs, h with
  | [v0, v1, v2, v3], _ => exact ⟨v0, v1, v2, v3, rfl⟩

/-- One call that came in, opened. -/
theorem open_op {fuel : Nat} {cs : List Value} {x : DataW H × List MemPlace} {a : Addr} (hs : ∀ k, spare k = true) (hcs : w.cells? 0 a 4 = some cs) (h : DataW.trod enc Try.prog w 0 spare held fuel 31 cs = some x) :
    ∃ b o v, a = ⟨b, o, none⟩ ∧ OpAt w b o v := by
  obtain ⟨_, hlen, hcell⟩ := World.cells?_some hcs
  obtain ⟨y0, y1, y2, y3, n, _, _, t0, t1, t2, t3⟩ := Joins.trod_struct4 Try.underlying31 h
  obtain ⟨v0, v1, v2, v3, rfl⟩ := list4 hlen
  simp only [cells3, cells9, cells29, List.drop_zero, List.drop_succ_cons, List.take_succ_cons, List.take_zero] at t0 t1 t2 t3
  obtain ⟨z0, e0, _, w0⟩ := DataW.trod_int Try.underlying3 t0
  obtain ⟨s1, e1, _, w1⟩ := DataW.trod_string Try.underlying9 t1
  obtain ⟨av, bl, bc, pg, e2, hl, hp⟩ := open_page hs t2
  obtain ⟨z3, e3, _, w3⟩ := DataW.trod_int Try.underlying3 t3
  simp only [List.cons.injEq, and_true] at e0 e1 e2 e3
  subst e0 e1 e2 e3
  obtain ⟨b, o, spot⟩ := a
  have hspot : spot = none := by simpa [Addr.add] using World.cell?_spot (hcell 0 (by omega))
  subst hspot
  have b0 := bounds_i64 w0
  have b3 := bounds_i64 w3
  refine ⟨b, o, ⟨z0, s1, av, bl, bc, pg, z3⟩, rfl, ⟨?_, ?_, ?_, ?_, w1, hl, hp, b0.1, b0.2, b3.1, b3.2⟩⟩
  · have := hcell 0 (by omega); rwa [add_plain] at this
  · have := hcell 1 (by omega); rwa [add_plain] at this
  · have := hcell 2 (by omega); rwa [add_plain] at this
  · have := hcell 3 (by omega); rwa [add_plain] at this

/-- A list of calls that came in, opened: each call, and how many bytes the list takes. -/
theorem open_ops {fuel : Nat} {a : Option Addr} {len cap : Nat} {x : DataW H × List MemPlace} (hs : ∀ k, spare k = true) (h : DataW.trod enc Try.prog w 0 spare held fuel 23 [.slice a len cap] = some x) :
    ∃ D, OpsAt w a len D ∧ (x.1 = .nil ∧ len = 0 ∨ ∃ el sp, x.1 = .slice el sp ∧ el.length = len) := by
  rcases Deep.open_slice Try.underlying23 h with ⟨hcs, hx⟩ | ⟨a', l, c, m, n, D, Pl, hcs, _, hl, hm, hmm, hx, hall⟩
  · simp at hcs
    obtain ⟨rfl, rfl, rfl⟩ := hcs
    exact ⟨fun _ => ⟨0, ⟨#[]⟩, none, 0, 0, [], 0⟩, .inl rfl, .inl ⟨by rw [hx], rfl⟩⟩
  · simp at hcs
    obtain ⟨rfl, rfl, rfl⟩ := hcs
    rw [hs] at hmm
    simp only [if_true] at hmm
    rw [cells31] at hall
    have hd : x.1 = .nil ∧ len = 0 ∨ ∃ el sp, x.1 = .slice el sp ∧ el.length = len := .inr ⟨_, _, by rw [hx], by simp⟩
    by_cases h0 : len = 0
    · exact ⟨fun _ => ⟨0, ⟨#[]⟩, none, 0, 0, [], 0⟩, .inl h0, hd⟩
    · have one : ∀ i, i < len → ∃ b o v, a'.add (i * 4) = ⟨b, o, none⟩ ∧ OpAt w b o v := fun i hi => by
        obtain ⟨cs, h1, h2⟩ := hall i (by omega)
        exact open_op hs h1 h2
      obtain ⟨b0, o0, v0, e0, _⟩ := one 0 (by omega)
      obtain ⟨b, off, spot⟩ := a'
      have hspot : spot = none := by
        cases spot with
        | none => rfl
        | some s => simp [Addr.add] at e0
      subst hspot
      have two : ∀ i, i < len → ∃ v, OpAt w b (off + i * 4) v := fun i hi => by
        obtain ⟨b1, o1, v1, e1, h1⟩ := one i hi
        rw [add_plain] at e1
        cases e1
        exact ⟨v1, h1⟩
      refine ⟨fun i => if hi : i < len then Classical.choose (two i hi) else ⟨0, ⟨#[]⟩, none, 0, 0, [], 0⟩, .inr ⟨b, off, rfl, fun i hi => ?_⟩, hd⟩
      simp only [hi, dif_pos]
      exact Classical.choose_spec (two i hi)
end
end Go.Proofs.Ytgkijokgkaihoaa
