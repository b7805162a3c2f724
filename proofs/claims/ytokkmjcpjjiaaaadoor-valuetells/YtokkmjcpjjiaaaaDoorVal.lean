/-
  Values as the program holds them; what And, Or and Not of two things answer, in the program and in the document.
-/
import Derived.Test.YtokkmjcpjjiaaaaDoorProg
import Derived.WalkKit
import Derived.WalkMore
import Derived.Handy
namespace Go.Proofs.YtokkmjcpjjiaaaaDoor
open Go.RowKit
set_option linter.unusedSimpArgs false
set_option linter.unusedVariables false

/-- A value, field by field. -/
def vv (k : Int) (b : Bool) (n : Int) (s : ByteArray) (p : Option Addr) (l c : Nat) : Value := .agg #[.int .i64 k, .bool b, .int .i64 n, .string s, .slice p l c]
/-- A truth: a Bool, Null or a Fault, all other fields zero. -/
def tv (k : Int) (b : Bool) : Value := vv k b 0 ⟨#[]⟩ none 0 0

/-- Not, of a kind and a bool. -/
def notT (k : Int) (b : Bool) : Value := if k = 1 then tv 1 (!b) else if k = 0 then tv 0 false else tv 7 false
/-- And where 'd' is false, Or where it is true. -/
def decT (d : Bool) (k1 : Int) (b1 : Bool) (k2 : Int) (b2 : Bool) : Value :=
  if (k1 = 1 ∧ b1 = d) ∨ (k2 = 1 ∧ b2 = d) then tv 1 d else if k1 = 0 ∨ k2 = 0 then tv 0 false else if k1 ≠ 1 ∨ k2 ≠ 1 then tv 7 false else tv 1 (!d)

theorem Not_any (k : Int) (b : Bool) (n : Int) (s : ByteArray) (p : Option Addr) (l c : Nat) (w : World) :
    Calls Tryd.prog 31 #[vv k b n s p l c] w fun e w' => e = .returned (notT k b) ∧ Below w.heap.size w w' := by
  unfold vv notT
  by_cases h1 : k = 1
  · subst h1
    go_enter Tryd.func31, Tryd.ntmps31
    go_wp2
    go_returns
    refine ⟨rfl, ?_⟩
    go_grown
  · by_cases h0 : k = 0
    · subst h0
      go_enter Tryd.func31, Tryd.ntmps31
      go_wp2
      go_returns
      refine ⟨rfl, ?_⟩
      go_grown
    · go_enter Tryd.func31, Tryd.ntmps31
      go_wp2
      go_returns
      refine ⟨?_, ?_⟩
      · simp [h1, h0]
        rfl
      go_grown

theorem refNot_any (k : Int) (b : Bool) (n : Int) (s : ByteArray) (p : Option Addr) (l c : Nat) (w : World) :
    Calls Tryd.prog 32 #[vv k b n s p l c] w fun e w' => e = .returned (notT k b) ∧ Below w.heap.size w w' := by
  unfold vv notT
  by_cases h1 : k = 1
  · subst h1
    go_enter Tryd.func32, Tryd.ntmps32
    go_wp2
    go_returns
    refine ⟨rfl, ?_⟩
    go_grown
  · by_cases h0 : k = 0
    · subst h0
      go_enter Tryd.func32, Tryd.ntmps32
      go_wp2
      go_returns
      refine ⟨rfl, ?_⟩
      go_grown
    · go_enter Tryd.func32, Tryd.ntmps32
      go_wp2
      go_returns
      refine ⟨?_, ?_⟩
      · simp [h1, h0]
        rfl
      go_grown

theorem decides_any (d : Bool) (x : Nat) (k : Int) (b : Bool) (n : Int) (s : ByteArray) (p : Option Addr) (l c : Nat) (w : World) (hc : w.cell? ⟨x, 0, none⟩ = some (.bool d)) :
    Calls Tryd.prog 75 #[vv k b n s p l c, .pointer (some ⟨x, 0, none⟩)] w fun e w' => e = .returned (.bool (decide (k = 1) && (b == d))) ∧ Below w.heap.size w w' := by
  unfold vv
  have hx := World.block_lt_of_cell? w _ hc
  by_cases h1 : k = 1
  · subst h1
    go_enter Tryd.func75, Tryd.ntmps75
    go_wp2
    go_returns
    refine ⟨by simp, ?_⟩
    go_grown
  · go_enter Tryd.func75, Tryd.ntmps75
    go_wp2
    go_returns
    refine ⟨by simp [h1], ?_⟩
    go_grown
end Go.Proofs.YtokkmjcpjjiaaaaDoor
