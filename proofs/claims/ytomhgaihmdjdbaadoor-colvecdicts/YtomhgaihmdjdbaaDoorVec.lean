/-
  A column in memory: its block; what may have turned; New, Len, has.
-/
import Derived.Test.YtomhgaihmdjdbaaDoorFlt
import Derived.Laws.OwnMore
namespace Go.Proofs.YtomhgaihmdjdbaaDoor
open Go.RowKit
set_option linter.unusedSimpArgs false
set_option linter.unusedVariables false

/-- What may have turned: the blocks S, and new ones. -/
structure Only (S : Nat → Prop) (w w' : World) : Prop where
  os : w'.os = w.os
  tape : w'.tape = w.tape
  output : w'.output = w.output
  size : w.heap.size ≤ w'.heap.size
  block : ∀ k, k < w.heap.size → ¬ S k → w'.heap[k]? = w.heap[k]?
theorem Only.refl (S : Nat → Prop) (w : World) : Only S w w := ⟨rfl, rfl, rfl, Nat.le_refl _, fun _ _ _ => rfl⟩
theorem Only.below {S : Nat → Prop} {w w' : World} (h : Only S w w') {B : Nat} (hB : B ≤ w.heap.size) (hS : ∀ k, S k → B ≤ k) : Below B w w' :=
  ⟨h.os, h.tape, h.output, h.size, fun k hk => h.block k (by omega) (fun s => by have := hS k s; omega)⟩
theorem Below.only {w w' : World} (S : Nat → Prop) (h : Below w.heap.size w w') : Only S w w' := ⟨h.os, h.tape, h.output, h.size, fun k hk _ => h.block k hk⟩
theorem Only.trans {S S' : Nat → Prop} {a b c : World} (h : Only S a b) (k : Only S' b c) (hS : ∀ j, j < a.heap.size → S' j → S j) : Only S a c :=
  ⟨k.os.trans h.os, k.tape.trans h.tape, k.output.trans h.output, Nat.le_trans h.size k.size, fun i hi hn => (k.block i (Nat.lt_of_lt_of_le hi h.size) (fun s => hn (hS i hi s))).trans (h.block i hi hn)⟩
theorem Only.mono {S S' : Nat → Prop} {a b : World} (h : Only S a b) (hS : ∀ j, j < a.heap.size → S j → S' j) : Only S' a b :=
  ⟨h.os, h.tape, h.output, h.size, fun i hi hn => h.block i hi (fun s => hn (hS i hi s))⟩
theorem Only.alloc {S : Nat → Prop} {a w : World} (h : Only S a w) (o : Obj) : Only S a (w.alloc o) := h.trans (Below.only S (below_new w o)) (fun _ _ h => h)
theorem Only.drew {S : Nat → Prop} {a w : World} (h : Only S a w) : Only S a w.drew := ⟨h.os, h.tape, h.output, h.size, h.block⟩
theorem Only.setCell {S : Nat → Prop} {a w : World} (h : Only S a w) {p : Addr} (hp : p.block < a.heap.size → S p.block) (u : Value) : Only S a (w.setCell p u) :=
  h.trans (S' := fun k => k = p.block) ⟨rfl, rfl, rfl, by simp [World.setCell], fun k hk hn => Below.heap_setCell _ _ _ _ hn⟩ (fun j hj e => by subst e; exact hp hj)
theorem Only.grown {S : Nat → Prop} {a w w' : World} {row : Option Nat} (h : Only S a w) (hg : w.grownBy w' row) (hr : ∀ k, row = some k → k < a.heap.size → S k) : Only S a w' :=
  h.trans (S' := fun k => row = some k) ⟨hg.os, hg.tape, hg.output, hg.size, fun k hk hn => hg.block k hk (fun e => hn e.symm)⟩ (fun j hj e => hr j e hj)

/-- A column's block. -/
def VB (w : World) (x : Nat) (k : Int) (nv mv tv pv hv : Value) : Prop := w.heap[x]? = some (.cells #[.int .i64 k, nv, mv, tv, pv, hv] 66 (0, 0))
section
variable {w w' : World} {x : Nat} {k : Int} {nv mv tv pv hv : Value}
theorem VB.lt (h : VB w x k nv mv tv pv hv) : x < w.heap.size := (Array.getElem?_eq_some_iff.1 h).1
theorem VB.of (h : VB w x k nv mv tv pv hv) (e : w'.heap[x]? = w.heap[x]?) : VB w' x k nv mv tv pv hv := e.trans h
theorem VB.c0 (h : VB w x k nv mv tv pv hv) : w.cell? ⟨x, 0, none⟩ = some (.int .i64 k) := by unfold VB at h; simp [World.cell?, h]
theorem VB.c1 (h : VB w x k nv mv tv pv hv) : w.cell? ⟨x, 1, none⟩ = some nv := by unfold VB at h; simp [World.cell?, h]
theorem VB.c2 (h : VB w x k nv mv tv pv hv) : w.cell? ⟨x, 2, none⟩ = some mv := by unfold VB at h; simp [World.cell?, h]
theorem VB.c3 (h : VB w x k nv mv tv pv hv) : w.cell? ⟨x, 3, none⟩ = some tv := by unfold VB at h; simp [World.cell?, h]
theorem VB.c4 (h : VB w x k nv mv tv pv hv) : w.cell? ⟨x, 4, none⟩ = some pv := by unfold VB at h; simp [World.cell?, h]
theorem VB.c5 (h : VB w x k nv mv tv pv hv) : w.cell? ⟨x, 5, none⟩ = some hv := by unfold VB at h; simp [World.cell?, h]
theorem VB.fr (h : VB w x k nv mv tv pv hv) (j : Nat) : w.frozen? ⟨x, j, none⟩ = false := by unfold VB at h; simp [World.frozen?, h]
theorem VB.below (h : VB w x k nv mv tv pv hv) (hb : Below w.heap.size w w') : VB w' x k nv mv tv pv hv := h.of (hb.block x h.lt)
theorem VB.only {S : Nat → Prop} (h : VB w x k nv mv tv pv hv) (hb : Only S w w') (hx : ¬ S x) : VB w' x k nv mv tv pv hv := h.of (hb.block x h.lt hx)
theorem VB.grown {row : Option Nat} (h : VB w x k nv mv tv pv hv) (hg : w.grownBy w' row) (hx : row ≠ some x) : VB w' x k nv mv tv pv hv := h.of (hg.block x h.lt (fun e => hx e.symm))
theorem heap_setCell_self (w : World) (x j : Nat) (cs : Array Value) (t : TypeId) (f : Nat × Nat) (v : Value) (h : w.heap[x]? = some (.cells cs t f)) : (w.setCell ⟨x, j, none⟩ v).heap[x]? = some (.cells (cs.setIfInBounds j v) t f) := by
  obtain ⟨hlt, he⟩ := Array.getElem?_eq_some_iff.1 h
  simp [World.setCell, Array.getElem?_modify, h]
theorem VB.set1 (h : VB w x k nv mv tv pv hv) (v : Value) : VB (w.setCell ⟨x, 1, none⟩ v) x k v mv tv pv hv := heap_setCell_self w x 1 _ _ _ v h
theorem VB.set2 (h : VB w x k nv mv tv pv hv) (v : Value) : VB (w.setCell ⟨x, 2, none⟩ v) x k nv v tv pv hv := heap_setCell_self w x 2 _ _ _ v h
theorem VB.set3 (h : VB w x k nv mv tv pv hv) (v : Value) : VB (w.setCell ⟨x, 3, none⟩ v) x k nv mv v pv hv := heap_setCell_self w x 3 _ _ _ v h
theorem VB.set4 (h : VB w x k nv mv tv pv hv) (v : Value) : VB (w.setCell ⟨x, 4, none⟩ v) x k nv mv tv v hv := heap_setCell_self w x 4 _ _ _ v h
theorem VB.set5 (h : VB w x k nv mv tv pv hv) (v : Value) : VB (w.setCell ⟨x, 5, none⟩ v) x k nv mv tv pv v := heap_setCell_self w x 5 _ _ _ v h
end

set_option maxRecDepth 100000 in
theorem New_no (k : Int) (w : World) (h : k < 1 ∨ k > 6) : Calls Tryd.prog 11 #[.int .i64 k] w fun e w' => e = .returned (.pointer none) ∧ w' = w := by
  by_cases h1 : k < 1
  · go_enter Tryd.func11, Tryd.ntmps11
    go_wp2
    go_returns
    exact ⟨rfl, rfl⟩
  · have h2 : k > 6 := by omega
    go_enter Tryd.func11, Tryd.ntmps11
    go_wp2
    go_returns
    exact ⟨rfl, rfl⟩
set_option maxRecDepth 100000 in
theorem New_yes (k : Int) (w : World) (h1 : 1 ≤ k) (h6 : k ≤ 6) : Calls Tryd.prog 11 #[.int .i64 k] w fun e w' => e = .returned (.pointer (some ⟨w.heap.size, 0, none⟩)) ∧ VB w' w.heap.size k (.slice none 0 0) (.slice none 0 0) (.slice none 0 0) (.map none) (.slice none 0 0) ∧ Below w.heap.size w w' ∧ w'.heap.size = w.heap.size + 1 := by
  have h1' : ¬ k < 1 := by omega
  have h2' : ¬ k > 6 := by omega
  go_enter Tryd.func11, Tryd.ntmps11
  go_wp2
  go_returns
  exact ⟨rfl, heap_alloc_new w _, below_new w _, by simp⟩
set_option maxRecDepth 100000 in
theorem Len_any (x : Nat) (a : Option Addr) (n c : Nat) (w : World) (h : w.cell? ⟨x, 2, none⟩ = some (.slice a n c)) : Calls Tryd.prog 26 #[.pointer (some ⟨x, 0, none⟩)] w fun e w' => e = .returned (.int .i64 n) ∧ w' = w := by
  go_enter Tryd.func26, Tryd.ntmps26
  go_wp2
  go_returns
  exact ⟨rfl, rfl⟩
set_option maxRecDepth 100000 in
theorem has_any (x : Nat) (a : Option Addr) (n c : Nat) (i : Int) (w : World) (h : w.cell? ⟨x, 2, none⟩ = some (.slice a n c)) : Calls Tryd.prog 40 #[.pointer (some ⟨x, 0, none⟩), .int .i64 i] w fun e w' => e = .returned (.bool (decide (0 ≤ i) && decide (i < n))) ∧ w' = w := by
  by_cases h0 : i ≥ 0
  · go_enter Tryd.func40, Tryd.ntmps40
    go_wp2_with (go_at_call 26; refine (Len_any x a n c _ h).mono ?_; rintro e w1 ⟨rfl, rfl⟩)
    go_returns
    exact ⟨by simp [show (0 : Int) ≤ i from h0], rfl⟩
  · go_enter Tryd.func40, Tryd.ntmps40
    go_wp2
    go_returns
    exact ⟨by simp [show ¬ (0 : Int) ≤ i by omega], rfl⟩
end Go.Proofs.YtomhgaihmdjdbaaDoor
