/-
  Rxs: turned for the seat of the expressions.
-/
import Derived.Test.YtkcnpbckmdgfnaaDoorRki
namespace Go.Proofs.YtkcnpbckmdgfnaaDoor
open Go.ChangeShapes Go.WideShapes Go.ChangeAt Go.RowKit
set_option linter.unusedSimpArgs false
set_option linter.unusedVariables false
set_option maxRecDepth 100000 in
set_option maxHeartbeats 2000000 in
theorem rexpr_shut {B b : Nat} {T : List UInt8} {dp : Int} {bad : Bool} (op : Int) (nm pr : List UInt8) (k : Int) (bb : Bool) (n : Int) (t : List UInt8) (kp : Option Addr) (kn kc : Nat) (pa : Option Addr) (pl pc : Nat) (w : World)
    (h : WAt B b T dp bad w) (hB : B ≤ w.heap.size) (f : Bool) (hf : ∀ w1, Below w.heap.size w w1 → Calls Tryd.prog 18 #[.agg #[.int .i64 op, .slice kp kn kc, .string (txt nm), .string (txt pr), .int .i64 k, .bool bb, .int .i64 n, .string (txt t), .slice pa pl pc]] w1 fun e w' => e = .returned (.bool f) ∧ Below w1.heap.size w1 w') (hs : bad = true ∨ f = false) :
    Calls Tryd.prog 9 #[.pointer (some ⟨b, 0, none⟩), .agg #[.int .i64 op, .slice kp kn kc, .string (txt nm), .string (txt pr), .int .i64 k, .bool bb, .int .i64 n, .string (txt t), .slice pa pl pc]] w fun e w' => e = .returned (.tuple #[]) ∧ WAt B b T dp true w' ∧ Kps B b w w' := by
  have hb0 := below_new w (.cells #[.int .i64 op, .slice kp kn kc, .string (txt nm), .string (txt pr), .int .i64 k, .bool bb, .int .i64 n, .string (txt t), .slice pa pl pc] 29)
  have hf0 := hf _ hb0
  replace hb0 : Hid _ := hb0
  replace hf0 : Hid _ := hf0
  replace h : Hid (WAt B b T dp bad w) := h
  clear hf
  cases bad
  case true =>
    cases f
    all_goals
      go_enter Tryd.func9, Tryd.ntmps9
      go_wp2_with fail
      go_at_call 18
      refine Calls.mono hf0.out ?_
      rintro e w1 ⟨rfl, hb1⟩
      have hb2 := below_on hb0.out hb1
      have hW := h.out.below hb2
      have hF := hW.flag true
      have g1 := hW.bad_cell.1
      have g2 := hW.bad_cell.2
      replace hb2 : Hid _ := hb2
      replace hW : Hid (WAt B b T dp true w1) := hW
      replace hF : Hid _ := hF
      go_wp2_with fail
      exact bodyPost_ret (v := .tuple #[]) (results_none rfl _ _ _) rfl ⟨rfl, hF.out.1, (Kps.of hb2.out hB).trans hF.out.2⟩
  case false =>
    cases f
    case true => simp at hs
    case false =>
      go_enter Tryd.func9, Tryd.ntmps9
      go_wp2_with fail
      go_at_call 18
      refine Calls.mono hf0.out ?_
      rintro e w1 ⟨rfl, hb1⟩
      have hb2 := below_on hb0.out hb1
      have hW := h.out.below hb2
      have hF := hW.flag true
      have g1 := hW.bad_cell.1
      have g2 := hW.bad_cell.2
      replace hb2 : Hid _ := hb2
      replace hW : Hid (WAt B b T dp false w1) := hW
      replace hF : Hid _ := hF
      go_wp2_with fail
      exact bodyPost_ret (v := .tuple #[]) (results_none rfl _ _ _) rfl ⟨rfl, hF.out.1, (Kps.of hb2.out hB).trans hF.out.2⟩
end Go.Proofs.YtkcnpbckmdgfnaaDoor
