/-
  The IDs that are known: newSeen, has, take.
-/
import Derived.Test.YtmioohbailhppaaDoorIdx
import Derived.Laws.OwnMore
import Derived.Maps.OwnSet
import Derived.Maps.Keyed
import Derived.WalkMore
import Derived.Carry
namespace Go.Proofs.YtmioohbailhppaaDoor
open Go.RowKit Go.Maps
set_option linter.unusedSimpArgs false
set_option linter.unusedVariables false

/-- What may have turned: the blocks S, and new ones. -/
structure Only (S : Nat → Prop) (w w' : World) : Prop where
  os : w'.os = w.os
  tape : w'.tape = w.tape
  output : w'.output = w.output
  size : w.heap.size ≤ w'.heap.size
  block : ∀ k, k < w.heap.size → ¬ S k → w'.heap[k]? = w.heap[k]?
theorem Only.refl (S : Nat → Prop) (w : World) : Only S w w := ⟨rfl, rfl, rfl, Nat.le_refl _, fun _ _ _ => rfl⟩
theorem Only.below {S : Nat → Prop} {w w' : World} (h : Only S w w') {B : Nat} (hB : B ≤ w.heap.size) (hS : ∀ k, S k → B ≤ k) : Below B w w' :=
  ⟨h.os, h.tape, h.output, h.size, fun k hk => h.block k (by omega) (fun s => by have := hS k s; omega)⟩
theorem Below.only {w w' : World} (S : Nat → Prop) (h : Below w.heap.size w w') : Only S w w' := ⟨h.os, h.tape, h.output, h.size, fun k hk _ => h.block k hk⟩
theorem Only.trans {S S' : Nat → Prop} {a b c : World} (h : Only S a b) (k : Only S' b c) (hS : ∀ j, j < a.heap.size → S' j → S j) : Only S a c :=
  ⟨k.os.trans h.os, k.tape.trans h.tape, k.output.trans h.output, Nat.le_trans h.size k.size, fun i hi hn => (k.block i (Nat.lt_of_lt_of_le hi h.size) (fun s => hn (hS i hi s))).trans (h.block i hi hn)⟩
theorem Only.mono {S S' : Nat → Prop} {a b : World} (h : Only S a b) (hS : ∀ j, j < a.heap.size → S j → S' j) : Only S' a b :=
  ⟨h.os, h.tape, h.output, h.size, fun i hi hn => h.block i hi (fun s => hn (hS i hi s))⟩
theorem Only.alloc {S : Nat → Prop} {a w : World} (h : Only S a w) (o : Obj) : Only S a (w.alloc o) := h.trans (Below.only S (below_new w o)) (fun _ _ h => h)
theorem Only.drew {S : Nat → Prop} {a w : World} (h : Only S a w) : Only S a w.drew := ⟨h.os, h.tape, h.output, h.size, h.block⟩
theorem Only.setCell {S : Nat → Prop} {a w : World} (h : Only S a w) {p : Addr} (hp : p.block < a.heap.size → S p.block) (u : Value) : Only S a (w.setCell p u) :=
  h.trans (S' := fun k => k = p.block) ⟨rfl, rfl, rfl, by simp [World.setCell], fun k hk hn => Below.heap_setCell _ _ _ _ hn⟩ (fun j hj e => by subst e; exact hp hj)
theorem Only.grown {S : Nat → Prop} {a w w' : World} {row : Option Nat} (h : Only S a w) (hg : w.grownBy w' row) (hr : ∀ k, row = some k → k < a.heap.size → S k) : Only S a w' :=
  h.trans (S' := fun k => row = some k) ⟨hg.os, hg.tape, hg.output, hg.size, fun k hk hn => hg.block k hk (fun e => hn e.symm)⟩ (fun j hj e => hr j e hj)


/-- How an element of the map reads: it holds nothing. -/
def unitElem (v : Value) : Option (DataW Unit × List MemPlace) := match v with
  | .agg cs => if cs = #[] then some (.agg [], []) else none
  | _ => none
theorem unit_inv {v : Value} {y : DataW Unit × List MemPlace} (h : unitElem v = some y) : v = .agg #[] := by
  unfold unitElem at h
  split at h
  · split at h
    · rename_i e; rw [e]
    · cases h
  · cases h
/-- A map of IDs. -/
def SetAt (w : World) (m : Nat) (ids : List Int) : Prop :=
  ∃ D, w.ownsMap (H := Unit) Tryd.prog 2 unitElem m ids.length D ∧ ∀ z : Int, Maps.has D (.int .i64 z) = true ↔ z ∈ ids
theorem SetAt.of {w w' : World} {m : Nat} {ids : List Int} (h : SetAt w m ids) (e : w'.heap[m]? = w.heap[m]?) : SetAt w' m ids := by
  obtain ⟨D, ⟨es, clock, h1, h2⟩, h3⟩ := h
  exact ⟨D, ⟨es, clock, e.trans h1, h2⟩, h3⟩
theorem SetAt.lt {w : World} {m : Nat} {ids : List Int} (h : SetAt w m ids) : m < w.heap.size := by
  obtain ⟨D, h1, h3⟩ := h
  exact h1.lt
theorem SetAt.below {w w' : World} {m : Nat} {ids : List Int} (h : SetAt w m ids) (hb : Below w.heap.size w w') : SetAt w' m ids := h.of (hb.block m h.lt)
theorem SetAt.only {S : Nat → Prop} {w w' : World} {m : Nat} {ids : List Int} (h : SetAt w m ids) (hb : Only S w w') (hm : ¬ S m) : SetAt w' m ids := h.of (hb.block m h.lt hm)
theorem SetAt.made (w : World) : SetAt (w.alloc (.map #[] 0)) w.heap.size [] := ⟨.map [], World.ownsMap_made w _ _ _, fun z => by simp [Maps.has]⟩
theorem law2 : Keyed Tryd.prog 2 := int_keyed Tryd.underlying2
theorem wf64 {z : Int} (h : -9223372036854775808 ≤ z ∧ z ≤ 9223372036854775807) : (Lit.int .i64 z).wf = true := by
  simp [Lit.wf, IntKind.min, IntKind.max, IntKind.signed, IntKind.bits]
  omega
theorem zero109 (w : World) : (zeroValue 109).run Tryd.prog w = .ok (.agg #[]) w := by kernel_rfl
theorem look_set {w : World} {m : Nat} {ids : List Int} (h : SetAt w m ids) (z : Int) (hz : -9223372036854775808 ≤ z ∧ z ≤ 9223372036854775807) :
    (Instr.lookup 75 (.map (some m)) (.int .i64 z) true).run Tryd.prog w = .ok (.tuple #[.agg #[], .bool (decide (z ∈ ids))]) w := by
  obtain ⟨D, ho, h3⟩ := h
  obtain ⟨v, ps, hr, hv⟩ := ho.look_ok law2 Tryd.underlying75 (zero109 w) (zd := .agg []) (zp := []) rfl (keyOf_int_mk Tryd.underlying2 (wf64 hz))
  rw [hr, unit_inv hv]
  have : Maps.has D (.int .i64 z) = decide (z ∈ ids) := by
    rw [Bool.eq_iff_iff, h3]; simp
  rw [this]
theorem put_set {w : World} {m : Nat} {ids : List Int} (h : SetAt w m ids) (z : Int) (hz : -9223372036854775808 ≤ z ∧ z ≤ 9223372036854775807) (hn : ids.length < maxLen) :
    ∃ w', (Instr.mapUpdate 75 (.map (some m)) (.int .i64 z) (.agg #[])).run Tryd.prog w = .ok () w' ∧ SetAt w' m (z :: ids) ∧ Only (fun k => k = m) w w' := by
  obtain ⟨D, ho, h3⟩ := h
  obtain ⟨w', hr, ho', ht⟩ := ho.store law2 Tryd.underlying75 hn (keyOf_int_mk Tryd.underlying2 (wf64 hz)) (val := .agg #[]) (d := .agg []) (ps := []) rfl
  have hk : WideAt.IsKeyLit (Lit.int .i64 z) := by simp [WideAt.IsKeyLit]
  refine ⟨w', hr, ⟨_, by simpa using ho', fun y => ?_⟩, ?_⟩
  · by_cases e : y = z
    · subst e
      rw [Maps.has_put_same ho.isMap hk]
      simp
    · rw [Maps.has_put_other (by simpa using e)]
      simp [h3 y, e]
  · have g := World.mapTurned.grown ht
    exact ⟨g.os, g.tape, g.output, g.size, fun k hk hn => g.block k hk (fun e => hn (by simpa using e))⟩

/-- What is known of a part: its types, its IDs. -/
structure SeenAt (w : World) (s m : Nat) (a : Option Addr) (n c : Nat) (ids : List Int) : Prop where
  c0 : w.cell? ⟨s, 0, none⟩ = some (.slice a n c)
  c1 : w.cell? ⟨s, 1, none⟩ = some (.map (some m))
  set : SetAt w m ids
theorem SeenAt.lt {w : World} {s m : Nat} {a : Option Addr} {n c : Nat} {ids : List Int} (h : SeenAt w s m a n c ids) : s < w.heap.size := World.block_lt_of_cell? w _ h.c0
theorem cell_of_block {w w' : World} {a : Addr} (h : w'.heap[a.block]? = w.heap[a.block]?) : w'.cell? a = w.cell? a := by
  simp [World.cell?, h]
theorem SeenAt.only {S : Nat → Prop} {w w' : World} {s m : Nat} {a : Option Addr} {n c : Nat} {ids : List Int} (h : SeenAt w s m a n c ids) (hb : Only S w w') (h1 : ¬ S s) (h2 : ¬ S m) : SeenAt w' s m a n c ids :=
  ⟨(cell_of_block (a := ⟨s, 0, none⟩) (hb.block s h.lt h1)).trans h.c0, (cell_of_block (a := ⟨s, 1, none⟩) (hb.block s h.lt h1)).trans h.c1, h.set.only hb h2⟩
theorem SeenAt.below {w w' : World} {s m : Nat} {a : Option Addr} {n c : Nat} {ids : List Int} (h : SeenAt w s m a n c ids) (hb : Below w.heap.size w w') : SeenAt w' s m a n c ids :=
  ⟨(hb.cell h.lt).trans h.c0, (hb.cell h.lt).trans h.c1, h.set.below hb⟩
theorem SeenAt.with {S : Nat → Prop} {w w' : World} {s m : Nat} {a : Option Addr} {n c : Nat} {ids ids' : List Int} (h : SeenAt w s m a n c ids) (hb : Only S w w') (h1 : ¬ S s) (h2 : SetAt w' m ids') : SeenAt w' s m a n c ids' :=
  ⟨(cell_of_block (a := ⟨s, 0, none⟩) (hb.block s h.lt h1)).trans h.c0, (cell_of_block (a := ⟨s, 1, none⟩) (hb.block s h.lt h1)).trans h.c1, h2⟩

theorem newSeen_any (a : Option Addr) (n c : Nat) (w : World) : Calls Tryd.prog 21 #[.slice a n c] w fun e w' => e = .returned (.pointer (some ⟨w.heap.size + 1, 0, none⟩)) ∧ SeenAt w' (w.heap.size + 1) w.heap.size a n c [] ∧ Below w.heap.size w w' ∧ w'.heap.size = w.heap.size + 2 := by
  have hS : SeenAt ((w.alloc (.map #[] 0)).alloc (.cells #[.slice a n c, .map (some w.heap.size)] 77)) (w.heap.size + 1) w.heap.size a n c [] := by
    have e : (w.alloc (.map #[] 0)).heap.size = w.heap.size + 1 := by simp
    refine ⟨?_, ?_, (SetAt.made w).below (below_new _ _)⟩
    all_goals
      rw [← e]
      simp only [World.cell?, heap_alloc_new]
      simp
  have hB : Below w.heap.size w ((w.alloc (.map #[] 0)).alloc (.cells #[.slice a n c, .map (some w.heap.size)] 77)) := below_on (below_new _ _) (below_new _ _)
  have hmm := @run_makeMap Tryd.prog
  go_enter Tryd.func21, Tryd.ntmps21
  go_wp2_with fail
  go_returns
  exact ⟨by simp, hS, hB, by simp⟩

theorem has_any (s m : Nat) (a : Option Addr) (n c : Nat) (ids : List Int) (z : Int) (w : World) (h : SeenAt w s m a n c ids) (hz : -9223372036854775808 ≤ z ∧ z ≤ 9223372036854775807) :
    Calls Tryd.prog 42 #[.pointer (some ⟨s, 0, none⟩), .int .i64 z] w fun e w' => e = .returned (.bool (decide (z ∈ ids))) ∧ Below w.heap.size w w' := by
  have hl := look_set h.set z hz
  obtain ⟨c0, c1, -⟩ := h
  go_enter Tryd.func42, Tryd.ntmps42
  go_wp2_with fail
  go_returns
  exact ⟨by simp, by go_grown⟩

/-- What is wrong with a record ahead of its ends and properties; 0: nothing. -/
def takeErr (L : List TD) (ids : List Int) (z : Int) (lab : ByteArray) : Int :=
  if z < 0 ∨ 1099511627776 < z then 44 else if z ∈ ids then 42 else if firstAt (fun x => decide (x.n = lab)) L < 0 then 45 else 0

set_option maxRecDepth 100000 in
theorem take_any (s m : Nat) (a : Option Addr) (n c : Nat) (L : List TD) (ids : List Int) (z : Int) (lab : ByteArray) (w : World) (h : SeenAt w s m a n c ids) (hz : -9223372036854775808 ≤ z ∧ z ≤ 9223372036854775807) (hn : L.length = n) (hm : n ≤ maxLen) (hL : TDsAt w a L) (hi : ids.length < maxLen) :
    Calls Tryd.prog 39 #[.pointer (some ⟨s, 0, none⟩), .int .i64 z, .string lab] w fun e w' => e = .returned (.int .i64 (takeErr L ids z lab)) ∧ SetAt w' m (if takeErr L ids z lab = 0 then z :: ids else ids) ∧ Only (fun k => k = m) w w' := by
  by_cases h1 : z < 0 ∨ 1099511627776 < z
  · rw [show takeErr L ids z lab = 44 by simp [takeErr, h1]]
    rw [if_neg (by decide)]
    have hset := h.set
    go_enter Tryd.func39, Tryd.ntmps39
    go_wp2_with fail
    all_goals first | (exfalso; omega) | (go_returns; exact ⟨rfl, hset, Only.refl _ _⟩)
  have hH := fun w h => has_any s m a n c ids z w h hz
  by_cases h2 : z ∈ ids
  · rw [show takeErr L ids z lab = 42 by simp [takeErr, h1, h2]]
    rw [if_neg (by decide)]
    rw [decide_eq_true h2] at hH
    replace hH : Hid _ := hH
    go_enter Tryd.func39, Tryd.ntmps39
    go_wp2_with (go_at_call 42; refine Calls.mono (hH.out _ h) ?_; rintro e w1 ⟨rfl, hb1⟩)
    all_goals first | (exfalso; omega) | (go_returns; exact ⟨rfl, h.set.below hb1, Below.only _ hb1⟩)
  rw [decide_eq_false h2] at hH
  replace hH : Hid _ := hH
  have hT := fun w hL => typeAt_any a n c L lab w hn hm hL
  have hE : takeErr L ids z lab = if firstAt (fun x => decide (x.n = lab)) L < 0 then 45 else 0 := by simp [takeErr, h1, h2]
  generalize takeErr L ids z lab = E at hE ⊢
  generalize firstAt (fun x => decide (x.n = lab)) L = r at hE hT
  replace hT : Hid _ := hT
  by_cases h3 : r < 0
  · rw [if_pos h3] at hE
    subst hE
    rw [if_neg (by decide)]
    go_enter Tryd.func39, Tryd.ntmps39
    go_wp2_with (first
      | (go_at_call 42; refine Calls.mono (hH.out _ h) ?_; rintro e w1 ⟨rfl, hb1⟩; have hs1 := h.below hb1; have d0 := hs1.c0; have d1 := hs1.c1)
      | (go_at_call 36; refine Calls.mono (hT.out _ (hL.below hb1)) ?_; rintro e w2 ⟨rfl, hb2⟩))
    all_goals first | (exfalso; omega) | (go_returns; exact ⟨rfl, (hs1.below hb2).set, (Below.only _ hb1).trans (Below.only _ hb2) (fun _ _ h => h)⟩)
  rw [if_neg h3] at hE
  subst hE
  rw [if_pos rfl]
  go_enter Tryd.func39, Tryd.ntmps39
  go_wp2_with (first
    | (go_at_call 42; refine Calls.mono (hH.out _ h) ?_; rintro e w1 ⟨rfl, hb1⟩; have hs1 := h.below hb1; have d0 := hs1.c0; have d1 := hs1.c1)
    | (go_at_call 36; refine Calls.mono (hT.out _ (hL.below hb1)) ?_; rintro e w2 ⟨rfl, hb2⟩; have hs2 := hs1.below hb2; have f1 := hs2.c1; obtain ⟨w3, hr3, hs3, ho3⟩ := put_set hs2.set z hz hi))
  all_goals first | (exfalso; omega) | (go_returns; exact ⟨rfl, hs3, ((Below.only _ hb1).trans (Below.only _ hb2) (fun _ _ h => h)).trans ho3 (fun _ _ h => h)⟩)
end Go.Proofs.YtmioohbailhppaaDoor
