/-
  Nma: turned for the seats of values.
-/
import Derived.Test.YtokkmjcpjjiaaaaDoorZVal
import Derived.Test.YtokkmjcpjjiaaaaDoorZLxa
import Derived.Lib.OthersKept
import Derived.WalkSmall
namespace Go.Proofs.YtokkmjcpjjiaaaaDoor.S9
open Go.RowKit
set_option linter.unusedSimpArgs false
set_option linter.unusedVariables false
end Go.Proofs.YtokkmjcpjjiaaaaDoor.S9
namespace Go.Proofs.YtokkmjcpjjiaaaaDoor.S9
open Go.RowKit
set_option linter.unusedSimpArgs false
set_option linter.unusedVariables false
theorem wid (s : ByteArray) (pos : Nat) (h : pos < s.size) : 1 ≤ (Utf8.decode s pos).2 := by
  by_cases ha : (s[pos]'h).toNat < 128
  · rw [decode_ascii s pos h ha]
    exact Nat.le_refl _
  · exact (decode_high s pos h (by omega)).2
end Go.Proofs.YtokkmjcpjjiaaaaDoor.S9
namespace Go.Proofs.YtokkmjcpjjiaaaaDoor.S9
open Go.RowKit
set_option linter.unusedSimpArgs false
set_option linter.unusedVariables false
theorem scalar_at (s : ByteArray) (pos : Nat) : 0 ≤ ((Utf8.decode s pos).1 : Int) ∧ (((Utf8.decode s pos).1 : Int) < 55296 ∨ 57344 ≤ ((Utf8.decode s pos).1 : Int) ∧ ((Utf8.decode s pos).1 : Int) ≤ 1114111) := by
  have := decodeL_scalar (s.data.toList.drop pos)
  rw [Lib.decodeL_drop] at this
  omega
theorem decode_le (s : ByteArray) (pos : Nat) (h : pos < s.size) : pos + (Utf8.decode s pos).2 ≤ s.size := by
  have hl : s.data.toList.length = s.size := Array.length_toList
  have hne : s.data.toList.drop pos ≠ [] := by
    intro e
    have := congrArg List.length e
    simp only [List.length_drop, List.length_nil] at this
    omega
  have := Lib.decodeL_le _ hne
  rw [Lib.decodeL_drop, List.length_drop] at this
  omega
end Go.Proofs.YtokkmjcpjjiaaaaDoor.S9
