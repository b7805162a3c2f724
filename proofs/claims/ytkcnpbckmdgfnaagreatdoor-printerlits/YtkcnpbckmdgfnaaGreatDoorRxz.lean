/-
  The document's expr, where something is not right; a name alone.
  The document's expr: a name alone; a name and a property.
-/
import Derived.Test.YtkcnpbckmdgfnaaGreatDoorRkz
namespace Go.Proofs.YtkcnpbckmdgfnaaGreatDoor
open Go.ChangeShapes Go.WideShapes Go.ChangeAt Go.RowKit
set_option linter.unusedSimpArgs false
set_option linter.unusedVariables false

set_option maxRecDepth 100000 in
set_option maxHeartbeats 2000000 in
theorem rexpr_shut {B b : Nat} {T : List UInt8} {dp : Int} {bad : Bool} (op : Int) (nm pr : List UInt8) (k : Int) (bb : Bool) (n : Int) (t : List UInt8) (kp : Option Addr) (kn kc : Nat) (pa : Option Addr) (pl pc : Nat) (w : World)
    (h : WAt B b T dp bad w) (hB : B ≤ w.heap.size) (f : Bool) (hf : ∀ w1, Below w.heap.size w w1 → Calls Tryz.prog 44 #[.agg #[.int .i64 op, .slice kp kn kc, .string (txt nm), .string (txt pr), .int .i64 k, .bool bb, .int .i64 n, .string (txt t), .slice pa pl pc]] w1 fun e w' => e = .returned (.bool f) ∧ Below w1.heap.size w1 w') (hs : bad = true ∨ f = false) :
    Calls Tryz.prog 22 #[.pointer (some ⟨b, 0, none⟩), .agg #[.int .i64 op, .slice kp kn kc, .string (txt nm), .string (txt pr), .int .i64 k, .bool bb, .int .i64 n, .string (txt t), .slice pa pl pc]] w fun e w' => e = .returned (.tuple #[]) ∧ WAt B b T dp true w' ∧ Kps B b w w' := by
  have hb0 := below_new w (.cells #[.int .i64 op, .slice kp kn kc, .string (txt nm), .string (txt pr), .int .i64 k, .bool bb, .int .i64 n, .string (txt t), .slice pa pl pc] 39)
  have hf0 := hf _ hb0
  replace hb0 : Hid _ := hb0
  replace hf0 : Hid _ := hf0
  replace h : Hid (WAt B b T dp bad w) := h
  clear hf
  cases bad
  case true =>
    cases f
    all_goals
      go_enter Tryz.func22, Tryz.ntmps22
      go_wp2_with fail
      go_at_call 44
      refine Calls.mono hf0.out ?_
      rintro e w1 ⟨rfl, hb1⟩
      have hb2 := below_on hb0.out hb1
      have hW := h.out.below hb2
      have hF := hW.flag true
      have g1 := hW.bad_cell.1
      have g2 := hW.bad_cell.2
      replace hb2 : Hid _ := hb2
      replace hW : Hid (WAt B b T dp true w1) := hW
      replace hF : Hid _ := hF
      go_wp2_with fail
      exact bodyPost_ret (v := .tuple #[]) (results_none rfl _ _ _) rfl ⟨rfl, hF.out.1, (Kps.of hb2.out hB).trans hF.out.2⟩
  case false =>
    cases f
    case true => simp at hs
    case false =>
      go_enter Tryz.func22, Tryz.ntmps22
      go_wp2_with fail
      go_at_call 44
      refine Calls.mono hf0.out ?_
      rintro e w1 ⟨rfl, hb1⟩
      have hb2 := below_on hb0.out hb1
      have hW := h.out.below hb2
      have hF := hW.flag true
      have g1 := hW.bad_cell.1
      have g2 := hW.bad_cell.2
      replace hb2 : Hid _ := hb2
      replace hW : Hid (WAt B b T dp false w1) := hW
      replace hF : Hid _ := hF
      go_wp2_with fail
      exact bodyPost_ret (v := .tuple #[]) (results_none rfl _ _ _) rfl ⟨rfl, hF.out.1, (Kps.of hb2.out hB).trans hF.out.2⟩
end Go.Proofs.YtkcnpbckmdgfnaaGreatDoor
namespace Go.Proofs.YtkcnpbckmdgfnaaGreatDoor
open Go.ChangeShapes Go.WideShapes Go.ChangeAt Go.RowKit
set_option linter.unusedSimpArgs false
set_option linter.unusedVariables false

set_option maxRecDepth 100000 in
set_option maxHeartbeats 2000000 in
theorem rexpr_var {B b : Nat} {T : List UInt8} {dp : Int} (nm pr : List UInt8) (k : Int) (bb : Bool) (n : Int) (t : List UInt8) (kp : Option Addr) (kn kc : Nat) (pa : Option Addr) (pl pc : Nat) (w : World)
    (h : WAt B b T dp false w) (hB : B ≤ w.heap.size) (hT : ∀ w1, Kps B b w w1 → Tabs w1) (hf : ∀ w1, Below w.heap.size w w1 → Calls Tryz.prog 44 #[.agg #[.int .i64 2, .slice kp kn kc, .string (txt nm), .string (txt pr), .int .i64 k, .bool bb, .int .i64 n, .string (txt t), .slice pa pl pc]] w1 fun e w' => e = .returned (.bool true) ∧ Below w1.heap.size w1 w') (hs : nm.length ≤ 1048576) :
    Calls Tryz.prog 22 #[.pointer (some ⟨b, 0, none⟩), .agg #[.int .i64 2, .slice kp kn kc, .string (txt nm), .string (txt pr), .int .i64 k, .bool bb, .int .i64 n, .string (txt t), .slice pa pl pc]] w fun e w' => e = .returned (.tuple #[]) ∧ WAt B b (T ++ nm) dp (!nmB nm) w' ∧ Kps B b w w' := by
  have hN1 := fun (w1 : World) (h2 : WAt B b T dp false w1) (h3 : B ≤ w1.heap.size) (h4 : Tabs w1) => rnames_any nm w1 h2 (by omega) h3 h4
  have hb0 := below_new w (.cells #[.int .i64 2, .slice kp kn kc, .string (txt nm), .string (txt pr), .int .i64 k, .bool bb, .int .i64 n, .string (txt t), .slice pa pl pc] 39)
  have hf0 := hf _ hb0
  replace hb0 : Hid _ := hb0
  replace hf0 : Hid _ := hf0
  replace h : Hid (WAt B b T dp false w) := h
  replace hT : Hid (∀ w1, Kps B b w w1 → Tabs w1) := hT
  replace hN1 : Hid _ := hN1
  clear hf
  go_enter Tryz.func22, Tryz.ntmps22
  go_wp2_with fail
  go_at_call 44
  refine Calls.mono hf0.out ?_
  rintro e w1 ⟨rfl, hb1⟩
  have hb2 := below_on hb0.out hb1
  have hW := h.out.below hb2
  have hTb := hT.out w1 (Kps.of hb2 hB)
  have g1 := hW.bad_cell.1
  have g2 := hW.bad_cell.2
  have hz := hb2.size
  have hx0 := cbelow hb1 (alloc_cell (cs := #[.int .i64 2, .slice kp kn kc, .string (txt nm), .string (txt pr), .int .i64 k, .bool bb, .int .i64 n, .string (txt t), .slice pa pl pc]) (t := 39) (i := 0) w rfl)
  have hx2 := cbelow hb1 (alloc_cell (cs := #[.int .i64 2, .slice kp kn kc, .string (txt nm), .string (txt pr), .int .i64 k, .bool bb, .int .i64 n, .string (txt t), .slice pa pl pc]) (t := 39) (i := 2) w rfl)
  have hx3 := cbelow hb1 (alloc_cell (cs := #[.int .i64 2, .slice kp kn kc, .string (txt nm), .string (txt pr), .int .i64 k, .bool bb, .int .i64 n, .string (txt t), .slice pa pl pc]) (t := 39) (i := 3) w rfl)
  have hbk := (hb1.block w.heap.size (by simp)).trans (heap_alloc_new w (.cells #[.int .i64 2, .slice kp kn kc, .string (txt nm), .string (txt pr), .int .i64 k, .bool bb, .int .i64 n, .string (txt t), .slice pa pl pc] 39))
  replace hbk : Hid _ := hbk
  replace hb2 : Hid _ := hb2
  replace hW : Hid (WAt B b T dp false w1) := hW
  replace hTb : Hid (Tabs w1) := hTb
  have hlt : Hid _ := h.out.lt
  go_wp2_with fail
  go_at_call 23
  refine Calls.mono (hN1.out w1 hW.out (Nat.le_trans hB hz) hTb.out) ?_
  rintro e w2 ⟨rfl, hW2, hK2⟩
  go_wp2_with fail
  exact bodyPost_end (results_none rfl _ _ _) rfl ⟨rfl, hW2, (Kps.of hb2.out hB).trans hK2⟩
set_option maxRecDepth 100000 in
set_option maxHeartbeats 2000000 in
theorem rexpr_prop {B b : Nat} {T : List UInt8} {dp : Int} (nm pr : List UInt8) (k : Int) (bb : Bool) (n : Int) (t : List UInt8) (kp : Option Addr) (kn kc : Nat) (pa : Option Addr) (pl pc : Nat) (w : World)
    (h : WAt B b T dp false w) (hB : B ≤ w.heap.size) (hT : ∀ w1, Kps B b w w1 → Tabs w1) (hf : ∀ w1, Below w.heap.size w w1 → Calls Tryz.prog 44 #[.agg #[.int .i64 3, .slice kp kn kc, .string (txt nm), .string (txt pr), .int .i64 k, .bool bb, .int .i64 n, .string (txt t), .slice pa pl pc]] w1 fun e w' => e = .returned (.bool true) ∧ Below w1.heap.size w1 w') (hs : nm.length ≤ 1048576) (hs2 : pr.length ≤ 1048576) :
    Calls Tryz.prog 22 #[.pointer (some ⟨b, 0, none⟩), .agg #[.int .i64 3, .slice kp kn kc, .string (txt nm), .string (txt pr), .int .i64 k, .bool bb, .int .i64 n, .string (txt t), .slice pa pl pc]] w fun e w' => e = .returned (.tuple #[]) ∧ WAt B b (T ++ nm ++ [46] ++ pr) dp (!nmB nm || !nmB pr) w' ∧ Kps B b w w' := by
  have hN1 := fun (w1 : World) (h2 : WAt B b T dp false w1) (h3 : B ≤ w1.heap.size) (h4 : Tabs w1) => rnames_any nm w1 h2 (by omega) h3 h4
  have hN2 := fun (w1 : World) (h2 : WAt B b (T ++ nm) dp (!nmB nm) w1) (h3 : B ≤ w1.heap.size) => rsay_any [46] w1 h2 (by decide) h3
  rw [show txt [46] = ⟨#[46]⟩ from rfl] at hN2
  have hN3 := fun (w1 : World) (h2 : WAt B b (T ++ nm ++ [46]) dp (!nmB nm) w1) (h3 : B ≤ w1.heap.size) (h4 : Tabs w1) => rnames_any pr w1 h2 (by omega) h3 h4
  have hb0 := below_new w (.cells #[.int .i64 3, .slice kp kn kc, .string (txt nm), .string (txt pr), .int .i64 k, .bool bb, .int .i64 n, .string (txt t), .slice pa pl pc] 39)
  have hf0 := hf _ hb0
  replace hb0 : Hid _ := hb0
  replace hf0 : Hid _ := hf0
  replace h : Hid (WAt B b T dp false w) := h
  replace hT : Hid (∀ w1, Kps B b w w1 → Tabs w1) := hT
  replace hN1 : Hid _ := hN1
  replace hN2 : Hid _ := hN2
  replace hN3 : Hid _ := hN3
  clear hf
  go_enter Tryz.func22, Tryz.ntmps22
  go_wp2_with fail
  go_at_call 44
  refine Calls.mono hf0.out ?_
  rintro e w1 ⟨rfl, hb1⟩
  have hb2 := below_on hb0.out hb1
  have hW := h.out.below hb2
  have hTb := hT.out w1 (Kps.of hb2 hB)
  have g1 := hW.bad_cell.1
  have g2 := hW.bad_cell.2
  have hz := hb2.size
  have hx0 := cbelow hb1 (alloc_cell (cs := #[.int .i64 3, .slice kp kn kc, .string (txt nm), .string (txt pr), .int .i64 k, .bool bb, .int .i64 n, .string (txt t), .slice pa pl pc]) (t := 39) (i := 0) w rfl)
  have hx2 := cbelow hb1 (alloc_cell (cs := #[.int .i64 3, .slice kp kn kc, .string (txt nm), .string (txt pr), .int .i64 k, .bool bb, .int .i64 n, .string (txt t), .slice pa pl pc]) (t := 39) (i := 2) w rfl)
  have hx3 := cbelow hb1 (alloc_cell (cs := #[.int .i64 3, .slice kp kn kc, .string (txt nm), .string (txt pr), .int .i64 k, .bool bb, .int .i64 n, .string (txt t), .slice pa pl pc]) (t := 39) (i := 3) w rfl)
  have hbk := (hb1.block w.heap.size (by simp)).trans (heap_alloc_new w (.cells #[.int .i64 3, .slice kp kn kc, .string (txt nm), .string (txt pr), .int .i64 k, .bool bb, .int .i64 n, .string (txt t), .slice pa pl pc] 39))
  replace hbk : Hid _ := hbk
  replace hb2 : Hid _ := hb2
  replace hW : Hid (WAt B b T dp false w1) := hW
  replace hTb : Hid (Tabs w1) := hTb
  have hlt : Hid _ := h.out.lt
  go_wp2_with fail
  go_at_call 23
  refine Calls.mono (hN1.out w1 hW.out (Nat.le_trans hB hz) hTb.out) ?_
  rintro e w2 ⟨rfl, hW2, hK2⟩
  have hz2 := hK2.size
  have hK := hK2
  have hbk2 := hK2.box hbk.out (by decide) (by have := hlt.out; omega)
  have y3 := box_cell hbk2 3
  simp only [List.getElem?_toArray, List.getElem?_cons_zero, List.getElem?_cons_succ] at y3
  have hT2 : Hid (Tabs w2) := hT.out w2 ((Kps.of hb2.out hB).trans hK2)
  replace hbk2 : Hid _ := hbk2
  replace hK2 : Hid (Kps B b w w2) := (Kps.of hb2.out hB).trans hK2
  replace hW2 : Hid _ := hW2
  go_wp2_with fail
  go_at_call 20
  refine Calls.mono (hN2.out w2 hW2.out (by omega)) ?_
  rintro e w3 ⟨rfl, hW3, hK3⟩
  have hz3 := hK3.size
  have hbk3 := hK3.box hbk2.out (by decide) (by have := hlt.out; omega)
  have u3 := box_cell hbk3 3
  simp only [List.getElem?_toArray, List.getElem?_cons_zero, List.getElem?_cons_succ] at u3
  have hT3 : Hid (Tabs w3) := hT.out w3 (hK2.out.trans hK3)
  replace hbk3 : Hid _ := hbk3
  replace hK3 : Hid (Kps B b w w3) := hK2.out.trans hK3
  replace hW3 : Hid _ := hW3
  go_wp2_with fail
  go_at_call 23
  refine Calls.mono (hN3.out w3 hW3.out (by omega) hT3.out) ?_
  rintro e w4 ⟨rfl, hW4, hK4⟩
  replace hK4 : Hid (Kps B b w w4) := hK3.out.trans hK4
  go_wp2_with fail
  exact bodyPost_end (results_none rfl _ _ _) rfl ⟨rfl, hW4, hK4.out⟩
end Go.Proofs.YtkcnpbckmdgfnaaGreatDoor
