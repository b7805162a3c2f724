/-
  Two lists of words that are alike.
-/
import Derived.Test.YtdnlnghgjjiajaaDoorMoves
import Derived.Deep.QuietTactic
import Derived.BigQuiet
namespace Go.Proofs.YtdnlnghgjjiajaaDoor
open Go.RowKit
set_option linter.unusedSimpArgs false
set_option linter.unusedVariables false

set_option maxRecDepth 100000 in
set_option maxHeartbeats 2000000 in
theorem Same_yes (A : List Tk) (hA : A.length ≤ 1048576) (p1 p2 : Option Addr) (c1 c2 : Nat) (w : World) (h1 : Tks2 w p1 A) (h2 : Tks2 w p2 A) :
    Calls Tryd.prog 12 #[.slice p1 A.length c1, .slice p2 A.length c2] w fun e w' => e = .returned (.bool true) ∧ Below w.heap.size w w' := by
  replace h1 : Hid _ := h1
  replace h2 : Hid _ := h2
  go_enter Tryd.func12, Tryd.ntmps12
  go_wp2_with fail
  go_loopw [5] (fun v wr => ∃ i : Nat, i ≤ A.length ∧ v = .int .i64 i ∧ Below w.heap.size w wr) (fun v _ => A.length - (intOf v).toNat)
  case atStart => exact ⟨0, by omega, rfl, Below.refl _ _⟩
  case round =>
    obtain ⟨i, hi, rfl, hb⟩ := hrel
    have hd1 := Tks2.below (p := p1) (L := A) h1.out hb
    have hd2 := Tks2.below (p := p2) (L := A) h2.out hb
    by_cases hlt : i < A.length
    · have hne : A ≠ [] := fun e => by rw [e] at hlt; simp at hlt
      rcases hd1 with h | ⟨g1, rfl, hd1⟩
      · exact absurd h hne
      rcases hd2 with h | ⟨g2, rfl, hd2⟩
      · exact absurd h hne
      obtain ⟨x0, x1, x2, x3⟩ := hd1 i hlt
      obtain ⟨z0, z1, z2, z3⟩ := hd2 i hlt
      generalize A.getD i default = x at *
      obtain ⟨xk, xt, xn, xa⟩ := x
      dsimp only at x0 x1 x2 x3 z0 z1 z2 z3
      clear hd1 hd2
      go_wp2_with fail
      go_quiet (fail)
      have hbq : Below w.heap.size w (wr.drewN nq) := belowN hb nq
      generalize wr.drewN nq = W2 at *
      go_wp2_with fail
      exact ⟨⟨i + 1, by omega, rfl, hbq⟩, by show A.length - ((i : Int) + 1).toNat < A.length - (i : Int).toNat; omega⟩
    · clear hd1 hd2
      go_wp2_with fail
      go_returns
      exact ⟨rfl, hb⟩
end Go.Proofs.YtdnlnghgjjiajaaDoor
