/-
  The document's writer: its end; a name.
-/
import Derived.Test.YtkcnpbckmdgfnaaGreatDoorRff
import Derived.Laws.BytesArg
namespace Go.Proofs.YtkcnpbckmdgfnaaGreatDoor
open Go.ChangeShapes Go.WideShapes Go.ChangeAt Go.RowKit
set_option linter.unusedSimpArgs false
set_option linter.unusedVariables false

/-- Bytes that are owned, as a text. -/
theorem own_conv {w : World} {B n : Nat} {v : Value} {L : List UInt8} (h : w.ownsRow B 5 1 v n (Lib.byteCells L)) (hn : n = L.length) : (convert 54 9 v).run Tryz.prog w = .ok (.string (txt L)) w := by
  subst hn
  have hh := h
  obtain ⟨h1, ⟨e1, e2⟩ | ⟨g, cap, cur, e1, e2⟩⟩ := hh
  · subst e1
    have : L = [] := List.length_eq_zero_iff.1 e2
    subst this
    exact run_convert_bytes_nil w 54 5 Tryz.underlying54 Tryz.underlying5 0 0 9 Tryz.underlying9
  · subst e1
    have := run_convert_bytes_arg (P := Tryz.prog) w 54 5 Tryz.underlying54 Tryz.underlying5 g 0 L.length cap (L.map fun b => (b.toNat : Int)) (by simp) (fun i hi => by
      have hi' : i < L.length := by simpa using hi
      have := World.ownsRow.cellAt h i (by omega)
      rw [Nat.zero_add, this]
      simp [Lib.byteCells, List.getD, hi']) 9 Tryz.underlying9
    rw [this]
    have e : strOfNums (L.map fun b => (b.toNat : Int)) = txt L := by
      have : (strOfNums (L.map fun b => (b.toNat : Int))).data.toList = L := by
        rw [strOfNums_data, List.map_map]
        have : ((fun n : Int => UInt8.ofNat n.toNat) ∘ fun b : UInt8 => (b.toNat : Int)) = id := by
          funext b
          simp
        rw [this, List.map_id]
      rw [← txt_of (strOfNums _), this]
    rw [e]
def doneT (bad : Bool) (T : List UInt8) : List UInt8 := if bad then [] else if T.length ≤ 4096 then T else []
def doneE (bad : Bool) (T : List UInt8) : Int := if bad then 83 else if T.length ≤ 4096 then 0 else 2
set_option maxRecDepth 100000 in
/-- The end: the text, or why there is none. -/
theorem rdone_any {B b : Nat} {T : List UInt8} {dp : Int} {bad : Bool} (w : World) (h : WAt B b T dp bad w) :
    Calls Tryz.prog 25 #[.pointer (some ⟨b, 0, none⟩)] w fun e w' => e = .returned (.tuple #[.string (txt (doneT bad T)), .int .i64 (doneE bad T)]) ∧ Below w.heap.size w w' := by
  obtain ⟨hBb, v, bs, hbk, hW, hown⟩ := h
  obtain ⟨ao, cp, rfl⟩ := own_slice5 hown
  have hc := own_conv hown rfl
  have c0 : w.cell? ⟨b, 0, none⟩ = some (.slice ao bs.length cp) := box_cell hbk 0
  have c2 : w.cell? ⟨b, 2, none⟩ = some (.bool bad) := box_cell hbk 2
  have htop := hW.top
  cases bad
  case true =>
    rw [show doneT true T = [] from rfl, show doneE true T = 83 from rfl, txt_nil]
    go_enter Tryz.func25, Tryz.ntmps25
    go_wp2_with fail
    all_goals (go_returns; exact ⟨rfl, by go_grown⟩)
  case false =>
    by_cases hT : T.length ≤ 4096
    · have e := hW.le hT
      subst e
      rw [show doneT false bs = bs by simp [doneT, hT], show doneE false bs = 0 by simp [doneE, hT]]
      have h4 : decide ((bs.length : Int) > 4096) = false := by simp; omega
      clear hown hbk
      go_enter Tryz.func25, Tryz.ntmps25
      go_wp2_with fail
      all_goals first | (exfalso; omega) | (go_returns; exact ⟨rfl, by go_grown⟩)
    · have e := hW.gt (by omega)
      rw [show doneT false T = [] by simp [doneT, hT], show doneE false T = 2 by simp [doneE, hT], txt_nil]
      have h4 : decide ((bs.length : Int) > 4096) = true := by simp; omega
      clear hown hbk
      go_enter Tryz.func25, Tryz.ntmps25
      go_wp2_with fail
      all_goals first | (exfalso; omega) | (go_returns; exact ⟨rfl, by go_grown⟩)
/-- Whether something is not right, is set anew. -/
theorem WAt.flag {B b : Nat} {T : List UInt8} {dp : Int} {bad : Bool} {w : World} (h : WAt B b T dp bad w) (bad' : Bool) : WAt B b T dp bad' (w.setCell ⟨b, 2, none⟩ (.bool bad')) ∧ Kps B b w (w.setCell ⟨b, 2, none⟩ (.bool bad')) := by
  have hW := h
  obtain ⟨hBb, v, bs, hbk, _, _⟩ := h
  refine ⟨hW.put hbk (v := v) (cs := #[]) ?_ (by simp [World.setCell]) (fun k hk => ?_), ⟨(Below.refl B w).setCell (p := ⟨b, 2, none⟩) hBb _, (Lib.OthersKept.refl 5 (some b) w).setCell ⟨b, 2, none⟩ rfl _⟩⟩
  · simp [World.setCell, Array.getElem?_modify, hbk]
  · rw [Below.heap_setCell _ _ _ _ (fun e => hk (by simp [e]))]
theorem WAt.bad_cell {B b : Nat} {T : List UInt8} {dp : Int} {bad : Bool} {w : World} (h : WAt B b T dp bad w) : w.cell? ⟨b, 2, none⟩ = some (.bool bad) ∧ w.frozen? ⟨b, 2, none⟩ = false := by
  obtain ⟨hBb, v, bs, hbk, _, _⟩ := h
  exact ⟨box_cell hbk 2, Lib.frozen_of_heap hbk 2⟩
theorem WAt.lt {B b : Nat} {T : List UInt8} {dp : Int} {bad : Bool} {w : World} (h : WAt B b T dp bad w) : b < w.heap.size := by
  obtain ⟨hBb, v, bs, hbk, _, _⟩ := h
  exact (Array.getElem?_eq_some_iff.1 hbk).1
set_option maxRecDepth 100000 in
/-- A name. -/
theorem rnames_any {B b : Nat} {T : List UInt8} {dp : Int} {bad : Bool} (s : List UInt8) (w : World) (h : WAt B b T dp bad w) (hs : s.length ≤ 4194304) (hB : B ≤ w.heap.size) (hT : Tabs w) :
    Calls Tryz.prog 23 #[.pointer (some ⟨b, 0, none⟩), .string (txt s)] w fun e w' => e = .returned (.tuple #[]) ∧ WAt B b (T ++ s) dp (bad || !nmB s) w' ∧ Kps B b w w' := by
  have hN := rname_any s w (by unfold maxLen; omega) hT
  replace hT : Hid (Tabs w) := hT
  generalize nmB s = q at *
  have hG : ∀ w1, Below w.heap.size w w1 → WAt B b T dp bad w1 := fun w1 hb => h.below hb
  have hS : ∀ w2 bad', WAt B b T dp bad' w2 → B ≤ w2.heap.size → Calls Tryz.prog 20 #[.pointer (some ⟨b, 0, none⟩), .string (txt s)] w2 fun e w' => e = .returned (.tuple #[]) ∧ WAt B b (T ++ s) dp bad' w' ∧ Kps B b w2 w' := fun w2 bad' h2 h3 => rsay_any s w2 h2 hs h3
  replace hN : Hid (Calls Tryz.prog 50 #[.string (txt s)] w fun e w' => e = .returned (.bool q) ∧ Below w.heap.size w w') := hN
  replace hS : Hid (∀ w2 bad', WAt B b T dp bad' w2 → B ≤ w2.heap.size → Calls Tryz.prog 20 #[.pointer (some ⟨b, 0, none⟩), .string (txt s)] w2 fun e w' => e = .returned (.tuple #[]) ∧ WAt B b (T ++ s) dp bad' w' ∧ Kps B b w2 w') := hS
  replace hG : Hid (∀ w1, Below w.heap.size w w1 → WAt B b T dp bad w1) := hG
  have hfin : ∀ (w1 w2 : World) (bad' : Bool), Below w.heap.size w w1 → Kps B b (w1.setCell ⟨b, 2, none⟩ (.bool bad')) w2 → Kps B b w w2 := fun w1 w2 bad' hb hk => (Kps.of hb hB).trans ((((hG.out w1 hb).flag bad').2).trans hk)
  have hz : ∀ (w1 : World) (bad' : Bool), Below w.heap.size w w1 → B ≤ (w1.setCell ⟨b, 2, none⟩ (.bool bad')).heap.size := fun w1 bad' hb => by
    have := hb.size
    have e : (w1.setCell ⟨b, 2, none⟩ (.bool bad')).heap.size = w1.heap.size := by simp [World.setCell]
    omega
  cases bad <;> cases q
  all_goals
    go_enter Tryz.func23, Tryz.ntmps23
    go_wp2_with (first
      | (have hh := hN.out; go_at_call 50; (with_reducible refine Calls.mono hh ?_); clear hh; rintro e w1 ⟨rfl, hb1⟩; have g1 := (hG.out w1 hb1).bad_cell.1; have g2 := (hG.out w1 hb1).bad_cell.2)
      | (go_at_call 20; (with_reducible refine Calls.mono (hS.out _ _ ((hG.out w1 hb1).flag _).1 (hz w1 _ hb1)) ?_); rintro e w2 ⟨rfl, hw2, hk2⟩))
    exact bodyPost_end (results_none rfl _ _ _) rfl ⟨rfl, hw2, hfin w1 w2 _ hb1 hk2⟩
end Go.Proofs.YtkcnpbckmdgfnaaGreatDoor
