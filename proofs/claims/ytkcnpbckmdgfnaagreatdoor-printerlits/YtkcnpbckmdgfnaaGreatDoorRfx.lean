/-
  The document's fields, of any expression.
-/
import Derived.Test.YtkcnpbckmdgfnaaGreatDoorRwd
namespace Go.Proofs.YtkcnpbckmdgfnaaGreatDoor
open Go.ChangeShapes Go.WideShapes Go.ChangeAt Go.RowKit
set_option linter.unusedSimpArgs false
set_option linter.unusedVariables false

def fldD (op : Int) (nm pr : List UInt8) (k : Int) (b : Bool) (n : Int) (t : List UInt8) (ph : List Int) : Bool :=
  if op = 1 then decide (nm = []) && decide (pr = []) && litB k b n t ph
  else if op = 2 then decide (pr = []) && zerB k b n t ph
  else if op = 3 then zerB k b n t ph
  else decide (nm = []) && decide (pr = []) && zerB k b n t ph
/-- The names that an Op asks for are read as names. -/
def nmsB (op : Int) (nm pr : List UInt8) : Bool := if op = 2 then nmB nm else if op = 3 then nmB nm && nmB pr else true
theorem fldB_is (op : Int) (nm pr : List UInt8) (k : Int) (b : Bool) (n : Int) (t : List UInt8) (ph : List Int) : fldB op nm pr k b n t ph = (nmsB op nm pr && fldD op nm pr k b n t ph) := by
  unfold fldB nmsB fldD
  by_cases h1 : op = 1
  · subst h1
    simp
  · by_cases h2 : op = 2
    · subst h2
      simp [Bool.and_assoc]
    · by_cases h3 : op = 3
      · subst h3
        simp
      · simp [h1, h2, h3]
theorem rfields_any (op : Int) (nm pr : List UInt8) (k : Int) (b : Bool) (n : Int) (t : List UInt8) (pa : Option Addr) (ph : List Int) (c : Nat) (kp : Option Addr) (kn kc : Nat) (w : World) (hT : Tabs w) (hp : V2.PathAt w pa ph) (ht : t.length ≤ maxLen) :
    Calls Tryz.prog 44 #[.agg #[.int .i64 op, .slice kp kn kc, .string (txt nm), .string (txt pr), .int .i64 k, .bool b, .int .i64 n, .string (txt t), .slice pa ph.length c]] w fun e w' => e = .returned (.bool (isOp op && decide (kn = (fmOf op).pl.length) && fldD op nm pr k b n t ph)) ∧ Below w.heap.size w w' := by
  cases ho : isOp op
  · rw [Bool.false_and, Bool.false_and]
    exact rf_out op nm pr k b n t pa ph c kp kn kc w ho
  rw [Bool.true_and, kidN_is op ho]
  by_cases hk : kn = kidN op
  case neg =>
    rw [show decide (kn = kidN op) = false by simp [hk], Bool.false_and]
    exact rf_kids op nm pr k b n t pa ph c kp kn kc w ho hk
  rw [show decide (kn = kidN op) = true by simp [hk], Bool.true_and]
  have ho2 := ho
  unfold isOp at ho2
  rw [Bool.and_eq_true, decide_eq_true_iff, decide_eq_true_iff] at ho2
  unfold fldD
  by_cases h1 : op = 1
  · subst h1
    rw [if_pos rfl]
    rw [show kn = 0 from hk]
    exact rf_one nm pr k b n t pa ph c kp kc w hT hp ht
  rw [if_neg h1]
  by_cases h2 : op = 2
  · subst h2
    rw [if_pos rfl]
    rw [show kn = 0 from hk]
    exact rf_two nm pr k b n t pa ph c kp kc w hT hp ht
  rw [if_neg h2]
  by_cases h3 : op = 3
  · subst h3
    rw [if_pos rfl]
    rw [show kn = 0 from hk]
    exact rf_three nm pr k b n t pa ph c kp kc w hT hp ht
  rw [if_neg h3]
  exact rf_rest nm pr k b n t pa ph c kp kc w hT hp ht op kn (by omega) ho2.2 (by rw [hk]; exact kids_any op)
/-- A tree has a text just where its fields are as its Op asks, its names are names, it is not too deep, and all in it has one. -/
theorem okT_is (place deep : Int) (op : Int) (nm pr : List UInt8) (k : Int) (b : Bool) (n : Int) (t : List UInt8) (ph : List Int) (ks : List Tr) :
    okT place deep (.mk op nm pr k b n t ph ks) = ((isOp op && decide (ks.length = (fmOf op).pl.length) && fldD op nm pr k b n t ph) && nmsB op nm pr && decide (dpN op place deep ≤ 50) && okK (fmOf op).pl (dpN op place deep) ks) := by
  rw [okT]
  unfold selfB
  rw [fldB_is]
  generalize isOp op = a, decide (ks.length = (fmOf op).pl.length) = b, fldD op nm pr k _ n t ph = c, nmsB op nm pr = d, decide (dpN op place deep ≤ 50) = e, okK (fmOf op).pl (dpN op place deep) ks = f
  cases a <;> cases b <;> cases c <;> cases d <;> cases e <;> cases f <;> rfl
end Go.Proofs.YtkcnpbckmdgfnaaGreatDoor
