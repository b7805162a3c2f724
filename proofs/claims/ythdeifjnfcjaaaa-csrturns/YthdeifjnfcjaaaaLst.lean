/-
  Lists of numbers, and lists of such lists, as they lie in memory; those that came in, opened.
-/
import Derived.Test.YthdeifjnfcjaaaaRows
import Derived.Test.YthdeifjnfcjaaaaProg
import Derived.WalkKit
import Derived.WalkMore
import Derived.Handy
import Derived.ProofKit
import Derived.OpenShut
import Derived.ShutString
import Derived.ChangeOld
import Derived.Below
import Derived.SizedLaws
import Derived.Lib.SmallJoins
import Derived.Deep.Slices
import Derived.LoopTactic
import Derived.OwnWalk
import Derived.Laws.AppendOwn
import Derived.Maps.AppendAt
import Derived.Deep.DeepCutAuto
import Derived.Test.YthdeifjnfcjaaaaMt2
namespace Go.Proofs.Ythdeifjnfcjaaaa
open Go.ChangeShapes Go.WideShapes Go.ChangeAt Go.RowKit
set_option linter.unusedSimpArgs false
set_option linter.unusedVariables false

theorem own : ownKnob Try.prog.godebug = none := by kernel_rfl
theorem laidOut : laidOutB Try.prog = true := by kernel_rfl
theorem cells3 : Try.prog.cellsOf 3 = 1 := by kernel_rfl
theorem cells24 : Try.prog.cellsOf 24 = 1 := by kernel_rfl
theorem bytes3 : Try.prog.bytesOf 3 = 8 := by kernel_rfl
theorem bytes24 : Try.prog.bytesOf 24 = 24 := by kernel_rfl
theorem info3 : (Try.prog.info? 3).map (fun i => (i.zero, i.size, i.bytes)) = some (some (.int .i64 0), 1, 8) := by kernel_rfl
theorem info24 : (Try.prog.info? 24).map (fun i => (i.zero, i.size, i.bytes)) = some (some (.slice none 0 0), 1, 24) := by kernel_rfl

theorem below_on {a w w' : World} (h : Below a.heap.size a w) (k : Below w.heap.size w w') : Below a.heap.size a w' := h.trans (k.mono h.size)
theorem below_new (w : World) (o : Obj) : Below w.heap.size w (w.alloc o) := (Below.refl _ _).alloc (Nat.le_refl _) o
theorem cell_keep {w : World} {a : Addr} {v : Value} (o : Obj) (h : w.cell? a = some v) : (w.alloc o).cell? a = some v :=
  ((below_new w o).cell (World.block_lt_of_cell? w _ h)).trans h
theorem add_plain (b o j : Nat) : (⟨b, o, none⟩ : Addr).add j = ⟨b, o + j, none⟩ := by unfold Addr.add; split <;> simp_all

/-- The numbers of a list. -/
def PathAt (w : World) (a : Option Addr) (zs : List Int) : Prop := zs = [] ∨ ∃ b off, a = some ⟨b, off, none⟩ ∧ ∀ i, i < zs.length → w.cell? ⟨b, off + i, none⟩ = some (.int .i64 (zs.getD i 0))
theorem PathAt.below {w w' : World} {a : Option Addr} {zs : List Int} (h : PathAt w a zs) (hb : Below w.heap.size w w') : PathAt w' a zs := by
  rcases h with h | ⟨b, off, e, h⟩
  · exact .inl h
  · exact .inr ⟨b, off, e, fun i hi => (hb.cell (World.block_lt_of_cell? w _ (h i hi))).trans (h i hi)⟩
theorem PathAt.num {w : World} {a : Option Addr} {zs : List Int} (h : PathAt w a zs) (i : Nat) (hi : i < zs.length) : ∃ b off, a = some ⟨b, off, none⟩ ∧ w.cell? ⟨b, off + i, none⟩ = some (.int .i64 (zs.getD i 0)) := by
  rcases h with rfl | ⟨b, off, e, h⟩
  · simp at hi
  · exact ⟨b, off, e, h i hi⟩
theorem PathAt.two {w : World} {a : Option Addr} {zs : List Int} (h : PathAt w a zs) (i j : Nat) (hi : i < zs.length) (hj : j < zs.length) : ∃ b off, a = some ⟨b, off, none⟩ ∧ w.cell? ⟨b, off + i, none⟩ = some (.int .i64 (zs.getD i 0)) ∧ w.cell? ⟨b, off + j, none⟩ = some (.int .i64 (zs.getD j 0)) := by
  rcases h with rfl | ⟨b, off, e, h⟩
  · simp at hi
  · exact ⟨b, off, e, h i hi, h j hj⟩

/-- A list of numbers: where it lies, its length, its room, its numbers. -/
structure IL where
  a : Option Addr
  l : Nat
  c : Nat
  z : List Int
instance : Inhabited IL := ⟨⟨none, 0, 0, []⟩⟩
structure ILok (w : World) (x : IL) : Prop where
  ln : x.z.length = x.l
  lc : x.l ≤ x.c
  lm : x.c ≤ maxLen
  lb : x.l * 8 ≤ 140737488351232
  pt : PathAt w x.a x.z
  rg : ∀ z ∈ x.z, -9223372036854775808 ≤ z ∧ z ≤ 9223372036854775807
theorem ILok.below {w w' : World} {x : IL} (h : ILok w x) (hb : Below w.heap.size w w') : ILok w' x := { h with pt := h.pt.below hb }
/-- Lists of numbers. -/
def ILsAt (w : World) (a : Option Addr) (L : List IL) : Prop :=
  L = [] ∨ ∃ g off, a = some ⟨g, off, none⟩ ∧ ∀ i, i < L.length → w.cell? ⟨g, off + i, none⟩ = some (.slice (L.getD i default).a (L.getD i default).l (L.getD i default).c) ∧ ILok w (L.getD i default)
theorem ILsAt.below {w w' : World} {a : Option Addr} {L : List IL} (h : ILsAt w a L) (hb : Below w.heap.size w w') : ILsAt w' a L := by
  rcases h with h | ⟨g, off, e, h⟩
  · exact .inl h
  · exact .inr ⟨g, off, e, fun i hi => ⟨(hb.cell (World.block_lt_of_cell? w _ (h i hi).1)).trans (h i hi).1, (h i hi).2.below hb⟩⟩
theorem ILsAt.at {w : World} {a : Option Addr} {L : List IL} (h : ILsAt w a L) (i : Nat) (hi : i < L.length) : ∃ g off, a = some ⟨g, off, none⟩ ∧ w.cell? ⟨g, off + i, none⟩ = some (.slice (L.getD i default).a (L.getD i default).l (L.getD i default).c) ∧ ILok w (L.getD i default) := by
  rcases h with rfl | ⟨g, off, e, h⟩
  · simp at hi
  · exact ⟨g, off, e, h i hi⟩
/-- Their numbers. -/
def zl (L : List IL) : List (List Int) := L.map (·.z)
theorem zl_len (L : List IL) : (zl L).length = L.length := by simp [zl]
theorem zl_at (L : List IL) (j : Nat) (hj : j < L.length) : (zl L).getD j [] = (L.getD j default).z := getD_map _ _ _ _ _ hj

section
variable {H : Type} {enc : TypeId × Value → H} {w : World} {held : Bool}

theorem open_il {fuel : Nat} {v : Value} {x : DataW H × List MemPlace} (h : DataW.trod enc Try.prog w 0 (fun _ => true) held fuel 24 [v] = some x) (hw : ∀ n ∈ x.1.weights Try.prog 24, n ≤ reachBytes) :
    ∃ y : IL, v = .slice y.a y.l y.c ∧ ILok w y := by
  rcases open_ints Try.underlying24 Try.underlying3 cells3 h with ⟨hcs, _⟩ | ⟨a, l, c, zs, hcs, _, hl, hm, hz, hx, hcell, hwz⟩
  · simp at hcs
    exact ⟨default, hcs, rfl, Nat.le_refl _, Nat.zero_le _, Nat.zero_le _, .inl rfl, by simp [default]⟩
  · simp at hcs
    simp only [if_true] at hz
    have hlen : (zs.take l).length = l := by simp; omega
    refine ⟨⟨some a, l, c, zs.take l⟩, hcs, hlen, hl, hm, ?_, ?_, fun z hz => bounds_i64 (hwz z (List.mem_of_mem_take hz))⟩
    · rw [hx] at hw
      simp only [DataW.weights, Try.underlying24] at hw
      have := hw _ List.mem_cons_self
      rw [bytes3] at this
      simp only [lits, List.length_map, reachBytes] at this
      rw [hlen] at this
      have h2 : l * 8 ≤ (l + (zs.drop l).length) * 8 := Nat.mul_le_mul_right _ (by omega)
      show l * 8 ≤ _
      omega
    · by_cases hl0 : l = 0
      · left; simp [hl0]
      · obtain ⟨b, off, ha, hc⟩ := ints_at hcell (by omega)
        refine .inr ⟨b, off, by rw [ha], fun i hi => ?_⟩
        simp only at hi ⊢
        rw [hlen] at hi
        rw [hc i (by omega)]
        simp [List.getD, List.getElem?_take_of_lt hi]

theorem weights_all {P : Program} {e : TypeId} : ∀ {l : List (DataW H)} {d : DataW H}, d ∈ l → ∀ n ∈ d.weights P e, n ∈ DataW.weightsAll P e l
  | [], _, h, _, _ => by simp at h
  | x :: l, d, h, n, hn => by
    simp only [DataW.weightsAll, List.mem_append]
    rcases List.mem_cons.1 h with rfl | h
    · exact .inl hn
    · exact .inr (weights_all h n hn)

theorem open_ils {fuel : Nat} {a : Option Addr} {len cap : Nat} {x : DataW H × List MemPlace} (h : DataW.trod enc Try.prog w 0 (fun _ => true) held fuel 22 [.slice a len cap] = some x) (hw : ∀ n ∈ x.1.weights Try.prog 22, n ≤ reachBytes) :
    ∃ L, L.length = len ∧ ILsAt w a L ∧ len ≤ cap ∧ cap ≤ maxLen ∧ len * 24 ≤ 140737488351232 ∧ (a = none → len = 0) := by
  rcases Deep.open_slice1 Try.underlying22 cells24 h with ⟨hcs, hx⟩ | ⟨a', l, c, m, n, V, D, Pl, hcs, _, hl, hm, hmm, hx, hall⟩
  · simp at hcs
    obtain ⟨rfl, rfl, rfl⟩ := hcs
    exact ⟨[], rfl, .inl rfl, Nat.le_refl _, Nat.zero_le _, Nat.zero_le _, fun _ => rfl⟩
  · simp at hcs
    obtain ⟨rfl, rfl, rfl⟩ := hcs
    simp only [if_true] at hmm
    rw [hx] at hw
    have hlb : len * 24 ≤ 140737488351232 := by
      have h1 := hw
      simp only [DataW.weights, Try.underlying22] at h1
      have := h1 _ List.mem_cons_self
      rw [bytes24] at this
      simp only [List.length_map, List.length_range, reachBytes] at this
      have h2 : len * 24 ≤ (len + (m - len)) * 24 := Nat.mul_le_mul_right _ (by omega)
      omega
    have one : ∀ i, i < len → ∃ y : IL, w.cell? (a'.add i) = some (.slice y.a y.l y.c) ∧ ILok w y := fun i hi => by
      obtain ⟨h1, h2⟩ := hall i (by omega)
      obtain ⟨y, e, k⟩ := open_il h2 fun q hq => hw q (by
        simp only [DataW.weights, Try.underlying22, List.mem_cons, List.mem_append]
        exact .inr (.inl (weights_all (d := D i) (List.mem_map.2 ⟨i, List.mem_range.2 hi, rfl⟩) q hq)))
      exact ⟨y, by rw [h1, e], k⟩
    by_cases h0 : len = 0
    · subst h0
      exact ⟨[], rfl, .inl rfl, hl, hm, hlb, fun _ => rfl⟩
    · obtain ⟨b, off, spot⟩ := a'
      have hspot : spot = none := by
        obtain ⟨y, e, _⟩ := one 0 (by omega)
        simpa [Addr.add] using World.cell?_spot e
      subst hspot
      have two : ∀ i, i < len → ∃ y : IL, w.cell? ⟨b, off + i, none⟩ = some (.slice y.a y.l y.c) ∧ ILok w y := fun i hi => by
        obtain ⟨y, h1⟩ := one i hi
        rw [add_plain] at h1
        exact ⟨y, h1⟩
      refine ⟨(List.range len).map fun i => if hi : i < len then Classical.choose (two i hi) else default, by simp, .inr ⟨b, off, rfl, fun i hi => ?_⟩, hl, hm, hlb, by simp⟩
      have hi' : i < len := by simpa using hi
      rw [getD_map (fun i => if hi : i < len then Classical.choose (two i hi) else default) (List.range len) i 0 default (by simpa using hi')]
      rw [show (List.range len).getD i 0 = i by simp [List.getD, hi']]
      simp only [hi', dif_pos]
      exact Classical.choose_spec (two i hi')
end

theorem own_slice {w : World} {base : Nat} {v : Value} {n : Nat} {xs : List Value} {e : TypeId} {size : Nat} (h : w.ownsRow base e size v n xs) : ∃ a c, v = .slice a n c := by
  obtain ⟨h1, ⟨h2, h3⟩ | ⟨g, cap, cur, e1, e2, e3, e4⟩⟩ := h
  · exact ⟨none, 0, by rw [h2, h3]⟩
  · exact ⟨_, _, e1⟩
theorem own_at {w : World} {base : Nat} {v : Value} {n : Nat} {xs : List Value} {e : TypeId} (h : w.ownsRow base e 1 v n xs) (i : Nat) (hi : i < n) : ∃ g cap, v = .slice (some ⟨g, 0, none⟩) n cap ∧ w.cell? ⟨g, i, none⟩ = xs[i]? ∧ (∀ j, w.frozen? ⟨g, j, none⟩ = false) ∧ g < w.heap.size ∧ base ≤ g := by
  obtain ⟨h1, ⟨h2, h3⟩ | ⟨g, cap, cur, e1, e2, e3, e4, e5, e6, e7⟩⟩ := h
  · omega
  · refine ⟨g, cap, e1, ?_, fun j => by simp [World.frozen?, e3], (Array.getElem?_eq_some_iff.1 e3).1, e2⟩
    rw [← e7]
    simp only [World.cell?, e3]
    simp [List.getElem?_take, hi]
theorem heap_setCell_self (w : World) (x j : Nat) (cs : Array Value) (t : TypeId) (f : Nat × Nat) (v : Value) (h : w.heap[x]? = some (.cells cs t f)) : (w.setCell ⟨x, j, none⟩ v).heap[x]? = some (.cells (cs.setIfInBounds j v) t f) := by
  obtain ⟨hlt, he⟩ := Array.getElem?_eq_some_iff.1 h
  simp [World.setCell, Array.getElem?_modify, h]
theorem own_put {w : World} {base g cap n : Nat} {xs : List Value} {e : TypeId} (h : w.ownsRow base e 1 (.slice (some ⟨g, 0, none⟩) n cap) n xs) (i : Nat) (hi : i < n) (u : Value) : (w.setCell ⟨g, i, none⟩ u).ownsRow base e 1 (.slice (some ⟨g, 0, none⟩) n cap) n (xs.set i u) := by
  obtain ⟨h1, ⟨h2, h3⟩ | ⟨g', cap', cur, e1, e2, e3, e4, e5, e6, e7⟩⟩ := h
  · cases h2
  · cases e1
    refine ⟨by simpa using h1, .inr ⟨g, cap, _, rfl, e2, heap_setCell_self w g i cur e (0, 0) u e3, e4, e5, by simpa using e6, ?_⟩⟩
    rw [← e7]
    simp [List.take_set]
theorem own_set {w : World} {base : Nat} {v : Value} {n : Nat} {xs : List Value} {e : TypeId} {size : Nat} (h : w.ownsRow base e size v n xs) {p : Addr} (u : Value) (hne : v.ownBlock ≠ some p.block) : (w.setCell p u).ownsRow base e size v n xs := by
  obtain ⟨h1, h2 | ⟨g, cap, cur, e1, e2, e3, e4⟩⟩ := h
  · exact ⟨h1, .inl h2⟩
  · subst e1
    exact ⟨h1, .inr ⟨g, cap, cur, rfl, e2, (Below.heap_setCell _ _ _ _ (fun e => hne (by simp [Value.ownBlock, e]))).trans e3, e4⟩⟩
/-- Numbers, as they lie. -/
def iv (l : List Int) : List Value := l.map (.int .i64)
theorem iv_len (l : List Int) : (iv l).length = l.length := by simp [iv]
theorem own_path {w : World} {base : Nat} {a : Option Addr} {n c : Nat} {l : List Int} {e : TypeId} (h : w.ownsRow base e 1 (.slice a n c) n (iv l)) (hn : l.length = n) : PathAt w a l := by
  by_cases h0 : n = 0
  · subst h0
    exact .inl (List.length_eq_zero_iff.1 hn)
  · obtain ⟨g, cap, e1, _, _, _, _⟩ := own_at h 0 (by omega)
    cases e1
    refine .inr ⟨g, 0, rfl, fun i hi => ?_⟩
    obtain ⟨g', cap', e1, h1, _, _, _⟩ := own_at h i (by omega)
    cases e1
    rw [Nat.zero_add, h1]
    simp [iv, hi]
end Go.Proofs.Ythdeifjnfcjaaaa
