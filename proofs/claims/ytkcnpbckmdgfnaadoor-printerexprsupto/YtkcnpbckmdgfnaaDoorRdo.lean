/-
  Rdo: turned for the seat of the expressions.
-/
import Derived.Test.YtkcnpbckmdgfnaaDoorRpw
import Derived.Test.YtkcnpbckmdgfnaaDoorRfa
import Derived.Test.YtkcnpbckmdgfnaaDoorNmr
namespace Go.Proofs.YtkcnpbckmdgfnaaDoor
open Go.ChangeShapes Go.WideShapes Go.ChangeAt Go.RowKit
set_option linter.unusedSimpArgs false
set_option linter.unusedVariables false
/-- A word of a writer is set anew. -/
theorem WAt.put {B b : Nat} {T : List UInt8} {dp dp' : Int} {bad bad' : Bool} {w w' : World} (h : WAt B b T dp bad w) {v : Value} {cs : Array Value}
    (hbk : w.heap[b]? = some (.cells #[v, .int .i64 dp, .bool bad] 45 (0, 0))) (hb' : w'.heap[b]? = some (.cells #[v, .int .i64 dp', .bool bad'] 45 (0, 0)))
    (hz : w'.heap.size = w.heap.size) (ho : ∀ k, k ≠ b → w'.heap[k]? = w.heap[k]?) : WAt B b T dp' bad' w' := by
  obtain ⟨hB, v2, bs, h1, h2, h3⟩ := h
  rw [hbk] at h1
  injection h1 with h1
  injection h1 with h1
  have hv : v = v2 := by
    have := congrArg (fun a => a[0]?) h1
    simpa using this
  subst hv
  have hne := Lib.ownBlock_ne h3 hbk (by decide)
  refine ⟨hB, v, bs, hb', h2, h3.1, ?_⟩
  rcases h3.2 with e | ⟨g, cap, cur, e, hg, hc, h4⟩
  · exact .inl e
  · refine .inr ⟨g, cap, cur, e, hg, ?_, h4⟩
    rw [ho g (fun e2 => hne (by rw [e, e2]; rfl))]
    exact hc
set_option maxRecDepth 100000 in
/-- One deeper. -/
theorem rdown_any {B b : Nat} {T : List UInt8} {dp : Int} {bad : Bool} (w : World) (h : WAt B b T dp bad w) (h0 : 0 ≤ dp) (h1 : dp ≤ 1000000) :
    Calls Tryd.prog 24 #[.pointer (some ⟨b, 0, none⟩)] w fun e w' => e = .returned (.tuple #[]) ∧ WAt B b T (dp + 1) (bad || decide (50 < dp + 1)) w' ∧ Kps B b w w' := by
  have hW : Hid (WAt B b T dp bad w) := h
  obtain ⟨hBb, v, bs, hbk, _, _⟩ := h
  have c1 : w.cell? ⟨b, 1, none⟩ = some (.int .i64 dp) := box_cell hbk 1
  have c2 : w.cell? ⟨b, 2, none⟩ = some (.bool bad) := box_cell hbk 2
  have hf : ∀ j, w.frozen? ⟨b, j, none⟩ = false := fun j => Lib.frozen_of_heap hbk j
  have f1 := hf 1
  have f2 := hf 2
  have hb1 : (w.setCell ⟨b, 1, none⟩ (.int .i64 (dp + 1))).heap[b]? = some (.cells #[v, .int .i64 (dp + 1), .bool bad] 45 (0, 0)) := by
    simp [World.setCell, Array.getElem?_modify, hbk]
  have d1 : (w.setCell ⟨b, 1, none⟩ (.int .i64 (dp + 1))).cell? ⟨b, 1, none⟩ = some (.int .i64 (dp + 1)) := box_cell hb1 1
  have d2 : (w.setCell ⟨b, 1, none⟩ (.int .i64 (dp + 1))).cell? ⟨b, 2, none⟩ = some (.bool bad) := box_cell hb1 2
  have g2 : (w.setCell ⟨b, 1, none⟩ (.int .i64 (dp + 1))).frozen? ⟨b, 2, none⟩ = false := Lib.frozen_of_heap hb1 2
  have hfin : ∀ bad', WAt B b T (dp + 1) bad' ((w.setCell ⟨b, 1, none⟩ (.int .i64 (dp + 1))).setCell ⟨b, 2, none⟩ (.bool bad')) ∧ Kps B b w ((w.setCell ⟨b, 1, none⟩ (.int .i64 (dp + 1))).setCell ⟨b, 2, none⟩ (.bool bad')) := by
    intro bad'
    refine ⟨hW.out.put hbk (v := v) (cs := #[]) ?_ (by simp [World.setCell]) (fun k hk => ?_), ⟨((Below.refl B w).setCell (p := ⟨b, 1, none⟩) hBb _).setCell (p := ⟨b, 2, none⟩) hBb _, ((Lib.OthersKept.refl 5 (some b) w).setCell ⟨b, 1, none⟩ rfl _).setCell ⟨b, 2, none⟩ rfl _⟩⟩
    · generalize w.setCell ⟨b, 1, none⟩ (.int .i64 (dp + 1)) = W1 at hb1
      simp [World.setCell, Array.getElem?_modify, hb1]
    · rw [Below.heap_setCell _ _ _ _ (fun e => hk (by simp [e])), Below.heap_setCell _ _ _ _ (fun e => hk (by simp [e]))]
  replace hfin : Hid _ := hfin
  clear hf hbk hb1
  cases bad
  case true =>
    go_enter Tryd.func24, Tryd.ntmps24
    go_wp2_with fail
    exact bodyPost_end (results_none rfl _ _ _) rfl ⟨rfl, (hfin.out true).1, (hfin.out true).2⟩
  case false =>
    by_cases h5 : 50 < dp + 1
    · have h5d : decide (50 < dp + 1) = true := by simp [h5]
      rw [h5d]
      go_enter Tryd.func24, Tryd.ntmps24
      go_wp2_with fail
      exact bodyPost_end (results_none rfl _ _ _) rfl ⟨rfl, (hfin.out true).1, (hfin.out true).2⟩
    · have h5d : decide (50 < dp + 1) = false := by simp [h5]
      rw [h5d]
      go_enter Tryd.func24, Tryd.ntmps24
      go_wp2_with fail
      exact bodyPost_end (results_none rfl _ _ _) rfl ⟨rfl, (hfin.out false).1, (hfin.out false).2⟩
set_option maxRecDepth 100000 in
/-- The document's name: is it one that is read as one? -/
theorem rname_any (s : List UInt8) (w : World) (hs : s.length ≤ maxLen) (hT : Tabs w) :
    Calls Tryd.prog 34 #[.string (txt s)] w fun e w' => e = .returned (.bool (nmB s)) ∧ Below w.heap.size w w' := by
  have hz := txt_size s
  have hN := fun (_ : Unit) => V4.refName_any (txt s) w (by rw [hz]; exact hs) hT
  unfold nmB
  cases hn : V4.nameB (txt s)
  · rw [hn] at hN
    rw [Bool.false_and]
    replace hN : Hid _ := hN
    go_enter Tryd.func34, Tryd.ntmps34
    go_wp2_with ((have hh := hN.out (); go_at_call 46; (with_reducible refine Calls.mono hh ?_); clear hh; rintro e w1 ⟨rfl, hb1⟩))
    all_goals (go_returns; exact ⟨rfl, by go_grown⟩)
  · rw [hn] at hN
    rw [Bool.true_and]
    have hK := fun (w1 : World) => refKey_any (txt s) (by rw [hz]; exact hs) w1
    rw [txt_list] at hK
    by_cases hk : keyL s = []
    · rw [hk] at hK
      rw [show decide (keyL s = []) = true by simp [hk]]
      rw [txt_nil] at hK
      replace hN : Hid _ := hN
      replace hK : Hid _ := hK
      replace hT : Hid _ := hT
      clear hn hz
      go_enter Tryd.func34, Tryd.ntmps34
      go_wp2_with first
        | (have hh := hN.out (); go_at_call 46; (with_reducible refine Calls.mono hh ?_); clear hh; rintro e w1 ⟨rfl, hb1⟩)
        | (have hh := hK.out w1; go_at_call 47; (with_reducible refine Calls.mono hh ?_); clear hh; rintro e w2 ⟨rfl, hb2⟩)
      go_returns
      exact ⟨rfl, below_on hb1 hb2⟩
    · have hq := txt_eqb _ hk
      rw [show decide (keyL s = []) = false by simp [hk]]
      replace hN : Hid _ := hN
      replace hK : Hid _ := hK
      replace hT : Hid _ := hT
      clear hn hz
      go_enter Tryd.func34, Tryd.ntmps34
      go_wp2_with first
        | (have hh := hN.out (); go_at_call 46; (with_reducible refine Calls.mono hh ?_); clear hh; rintro e w1 ⟨rfl, hb1⟩)
        | (have hh := hK.out w1; go_at_call 47; (with_reducible refine Calls.mono hh ?_); clear hh; rintro e w2 ⟨rfl, hb2⟩)
      go_returns
      exact ⟨rfl, below_on hb1 hb2⟩
end Go.Proofs.YtkcnpbckmdgfnaaDoor
