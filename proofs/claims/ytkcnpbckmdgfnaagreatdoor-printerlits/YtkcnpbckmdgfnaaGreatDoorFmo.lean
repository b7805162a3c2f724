/-
  How an Op stands in a text: the table in memory, and formOf.
-/
import Derived.Test.YtkcnpbckmdgfnaaGreatDoorWra
import Derived.BigQuiet
namespace Go.Proofs.YtkcnpbckmdgfnaaGreatDoor
open Go.ChangeShapes Go.WideShapes Go.ChangeAt Go.RowKit
set_option linter.unusedSimpArgs false
set_option linter.unusedVariables false

def fz : Fm := ⟨0, [], [], [], [], false⟩
/-- A row of the table. -/
def FormAt (w : World) (i : Nat) (f : Fm) : Prop :=
  w.cell? ⟨0, i * 6, none⟩ = some (.int .i64 f.lvl) ∧ (∃ p c, w.cell? ⟨0, i * 6 + 1, none⟩ = some (.slice p f.pl.length c) ∧ V2.PathAt w p f.pl) ∧ w.cell? ⟨0, i * 6 + 2, none⟩ = some (.string (txt f.ah)) ∧
  w.cell? ⟨0, i * 6 + 3, none⟩ = some (.string (txt f.bt)) ∧ w.cell? ⟨0, i * 6 + 4, none⟩ = some (.string (txt f.be)) ∧ w.cell? ⟨0, i * 6 + 5, none⟩ = some (.bool f.dp)
def FormsAt (w : World) : Prop := ∀ i, i < 27 → FormAt w i (formsL.getD i fz)
theorem cbelow {w w' : World} (hb : Below w.heap.size w w') {b o : Nat} {v : Value} (h : w.cell? ⟨b, o, none⟩ = some v) : w'.cell? ⟨b, o, none⟩ = some v :=
  (hb.cell (World.block_lt_of_cell? w _ h)).trans h
theorem FormsAt.below {w w' : World} (h : FormsAt w) (hb : Below w.heap.size w w') : FormsAt w' := by
  intro i hi
  obtain ⟨c0, ⟨p, c, c1, hp⟩, c2, c3, c4, c5⟩ := h i hi
  exact ⟨cbelow hb c0, ⟨p, c, cbelow hb c1, hp.below hb⟩, cbelow hb c2, cbelow hb c3, cbelow hb c4, cbelow hb c5⟩
theorem results_form {fn : Func} {q q1 : Tmp} (h : fn.results = #[.cell q 124, .tmp q1]) (tmps : Array Value) {w : World} {x : Nat} {v0 v1 v2 v3 v4 v5 u : Value}
    (hq : tmps.getD q undef = .pointer (some ⟨x, 0, none⟩)) (h1 : tmps.getD q1 undef = u) (c0 : w.cell? ⟨x, 0, none⟩ = some v0) (c1 : w.cell? ⟨x, 1, none⟩ = some v1) (c2 : w.cell? ⟨x, 2, none⟩ = some v2)
    (c3 : w.cell? ⟨x, 3, none⟩ = some v3) (c4 : w.cell? ⟨x, 4, none⟩ = some v4) (c5 : w.cell? ⟨x, 5, none⟩ = some v5) :
    (results fn tmps).run Tryz.prog w = .ok (.tuple #[.agg #[v0, v1, v2, v3, v4, v5], u]) w := by
  have hq' : tmps[q]?.getD undef = .pointer (some ⟨x, 0, none⟩) := by simpa using hq
  have h1' : tmps[q1]?.getD undef = u := by simpa using h1
  simp [results, h, hq', h1', go_sem, c0, c1, c2, c3, c4, c5]
/-- Six stores into a new block. -/
theorem put6 {w : World} {R : Nat} {cs : Array Value} {T : TypeId} {u0 u1 u2 u3 u4 u5 : Value} (h : w.heap[R]? = some (.cells #[u0, u1, u2, u3, u4, u5] T (0, 0))) (v0 v1 v2 v3 v4 v5 : Value) :
    ((((((w.setCell ⟨R, 0, none⟩ v0).setCell ⟨R, 1, none⟩ v1).setCell ⟨R, 2, none⟩ v2).setCell ⟨R, 3, none⟩ v3).setCell ⟨R, 4, none⟩ v4).setCell ⟨R, 5, none⟩ v5).heap[R]? = some (.cells #[v0, v1, v2, v3, v4, v5] T (0, 0)) := by
  simp [World.setCell, Array.getElem?_modify, h]
set_option maxRecDepth 100000 in
theorem formOf_any {w0 : World} (hF : FormsAt w0) (op : Int) (w : World) (hbw : Below w0.heap.size w0 w) :
    Calls Tryz.prog 66 #[.int .i64 op] w fun e w' => ∃ p c, e = .returned (.tuple #[.agg #[.int .i64 (fmOf op).lvl, .slice p (fmOf op).pl.length c, .string (txt (fmOf op).ah), .string (txt (fmOf op).bt), .string (txt (fmOf op).be), .bool (fmOf op).dp], .bool (isOp op)]) ∧ V2.PathAt w0 p (fmOf op).pl ∧ Below w.heap.size w w' := by
  have hb0 := below_new w (.cells #[.int .i64 0, .slice none 0 0, .string ⟨#[]⟩, .string ⟨#[]⟩, .string ⟨#[]⟩, .bool false] 124)
  have hn := heap_alloc_new w (.cells #[.int .i64 0, .slice none 0 0, .string ⟨#[]⟩, .string ⟨#[]⟩, .string ⟨#[]⟩, .bool false] 124)
  by_cases hop : 1 ≤ op ∧ op ≤ 26
  · obtain ⟨i, rfl⟩ : ∃ i : Nat, op = i := ⟨op.toNat, by omega⟩
    have hi : i < 27 := by omega
    have e1 : isOp (i : Int) = true := by simp [isOp]; omega
    have e2 : fmOf (i : Int) = formsL.getD i fz := by unfold fmOf; rw [e1]; rfl
    rw [e1, e2]
    obtain ⟨c0', ⟨p, c, c1', hq⟩, c2', c3', c4', c5'⟩ := hF i hi
    have c0 := cbelow hb0 (cbelow hbw c0')
    have c1 := cbelow hb0 (cbelow hbw c1')
    have c2 := cbelow hb0 (cbelow hbw c2')
    have c3 := cbelow hb0 (cbelow hbw c3')
    have c4 := cbelow hb0 (cbelow hbw c4')
    have c5 := cbelow hb0 (cbelow hbw c5')
    clear c0' c1' c2' c3' c4' c5' hn
    replace hq : Hid _ := hq
    have d1 : decide ((i : Int) < 1) = false := by simp; omega
    have d2 : decide ((i : Int) > 26) = false := by simp; omega
    have d3 : decide ((26 : Int) < i) = false := by simp; omega
    have d4 : decide ((i : Int) < 0) = false := by simp
    have hi2 : (i : Int) < 27 := by omega
    clear hF hop e1 e2
    generalize formsL.getD i fz = f at *
    go_enter Tryz.func66, Tryz.ntmps66
    go_wp2_with fail
    refine bodyPost_ret (results_form rfl _ rfl rfl (alloc_cell w rfl) (alloc_cell w rfl) (alloc_cell w rfl) (alloc_cell w rfl) (alloc_cell w rfl) (alloc_cell w rfl)) rfl ?_
    exact ⟨p, c, rfl, hq.out, below_new _ _⟩
  · have e1 : isOp op = false := by simp [isOp]; omega
    have e2 : fmOf op = fz := by unfold fmOf; rw [e1]; rfl
    rw [e1, e2]
    clear hF e1 e2 hn hb0
    have hn0 := below_new w
    by_cases h1 : op < 1
    · have d1 : decide (op < 1) = true := by simpa using h1
      go_enter Tryz.func66, Tryz.ntmps66
      go_wp2_with fail
      refine bodyPost_ret (results_form rfl _ rfl rfl (alloc_cell w rfl) (alloc_cell w rfl) (alloc_cell w rfl) (alloc_cell w rfl) (alloc_cell w rfl) (alloc_cell w rfl)) rfl ?_
      first | exact ⟨none, ⟨0, rfl⟩, .inl rfl, below_new _ _⟩ | exact ⟨none, 0, rfl, .inl rfl, below_new _ _⟩
    · have d1 : decide (op < 1) = false := by simpa using h1
      have d2 : decide (op > 26) = true := by simp; omega
      have d3 : decide ((26 : Int) < op) = true := by simp; omega
      go_enter Tryz.func66, Tryz.ntmps66
      go_wp2_with fail
      refine bodyPost_ret (results_form rfl _ rfl rfl (alloc_cell w rfl) (alloc_cell w rfl) (alloc_cell w rfl) (alloc_cell w rfl) (alloc_cell w rfl) (alloc_cell w rfl)) rfl ?_
      first | exact ⟨none, ⟨0, rfl⟩, .inl rfl, below_new _ _⟩ | exact ⟨none, 0, rfl, .inl rfl, below_new _ _⟩
end Go.Proofs.YtkcnpbckmdgfnaaGreatDoor
