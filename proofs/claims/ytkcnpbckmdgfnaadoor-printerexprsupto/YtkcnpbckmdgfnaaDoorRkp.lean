/-
  Rkp: turned for the seat of the expressions.
-/
import Derived.Test.YtkcnpbckmdgfnaaDoorRsg
namespace Go.Proofs.YtkcnpbckmdgfnaaDoor
open Go.ChangeShapes Go.WideShapes Go.ChangeAt Go.RowKit
set_option linter.unusedSimpArgs false
set_option linter.unusedVariables false
theorem lvl_pos (op : Int) (h : isOp op = true) : 1 ≤ (fmOf op).lvl := by
  have h2 := h
  unfold isOp at h2
  rw [Bool.and_eq_true, decide_eq_true_iff, decide_eq_true_iff] at h2
  have e : op = ((op.toNat : Nat) : Int) := by omega
  have hn : op.toNat < 27 := by omega
  have h1 : 1 ≤ op.toNat := by omega
  rw [e]
  generalize op.toNat = m at hn h1
  have : ∀ m : Nat, m < 27 → 1 ≤ m → 1 ≤ (fmOf (m : Int)).lvl := by decide
  exact this m hn h1
theorem okT_none (p d : Int) (op : Int) (nm pr : List UInt8) (k : Int) (b : Bool) (n : Int) (t : List UInt8) (ph : List Int) (ks : List Tr) (h : isOp op = false) : okT p d (.mk op nm pr k b n t ph ks) = false := by
  rw [okT]
  unfold selfB
  simp [h]
theorem okT_plain (p d : Int) (op : Int) (nm pr : List UInt8) (k : Int) (b : Bool) (n : Int) (t : List UInt8) (ph : List Int) (ks : List Tr) (ho : isOp op = true) (h : p ≤ (fmOf op).lvl) : okT p d (.mk op nm pr k b n t ph ks) = okT 1 d (.mk op nm pr k b n t ph ks) ∧ txT p (.mk op nm pr k b n t ph ks) = txT 1 (.mk op nm pr k b n t ph ks) := by
  have hl := lvl_pos op ho
  have b1 : brB op p = false := by unfold brB; simp; omega
  have b2 : brB op 1 = false := by unfold brB; simp; omega
  have e : dpN op p d = dpN op 1 d := by unfold dpN; rw [b1, b2]
  refine ⟨?_, ?_⟩
  · rw [okT, okT]
    unfold selfB
    rw [e]
  · rw [txT, txT]
    unfold ahT beT
    rw [b1, b2]
theorem okT_in (p d : Int) (op : Int) (nm pr : List UInt8) (k : Int) (b : Bool) (n : Int) (t : List UInt8) (ph : List Int) (ks : List Tr) (ho : isOp op = true) (h : (fmOf op).lvl < p) : okT p d (.mk op nm pr k b n t ph ks) = okT 1 (d + 1) (.mk op nm pr k b n t ph ks) ∧ txT p (.mk op nm pr k b n t ph ks) = [40] ++ (txT 1 (.mk op nm pr k b n t ph ks) ++ [41]) := by
  have hl := lvl_pos op ho
  have b1 : brB op p = true := by unfold brB; simp; omega
  have b2 : brB op 1 = false := by unfold brB; simp; omega
  have e : dpN op p d = dpN op 1 (d + 1) := by unfold dpN; rw [b1, b2]; simp
  refine ⟨?_, ?_⟩
  · rw [okT, okT]
    unfold selfB
    rw [e]
  · rw [txT, txT]
    unfold ahT beT
    rw [b1, b2]
    simp
/-- What has a text is not too deep. -/
theorem okT_deep (p d : Int) (op : Int) (nm pr : List UInt8) (k : Int) (b : Bool) (n : Int) (t : List UInt8) (ph : List Int) (ks : List Tr) (h : okT p d (.mk op nm pr k b n t ph ks) = true) : d ≤ 50 := by
  rw [okT] at h
  unfold selfB at h
  simp only [Bool.and_eq_true, decide_eq_true_iff] at h
  have h1 := h.1.1.1.2
  unfold dpN at h1
  have h2 : (0 : Int) ≤ (if brB op p = true then 1 else 0) := by split <;> omega
  have h3 : (0 : Int) ≤ (if (fmOf op).dp = true then 1 else 0) := by split <;> omega
  omega
end Go.Proofs.YtkcnpbckmdgfnaaDoor
