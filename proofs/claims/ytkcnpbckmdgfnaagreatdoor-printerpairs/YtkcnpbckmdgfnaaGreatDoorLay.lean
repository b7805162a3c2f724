/-
  The readers of expressions, all of them.
-/
import Derived.Test.YtkcnpbckmdgfnaaGreatDoorEx4
namespace Go.Proofs.YtkcnpbckmdgfnaaGreatDoor
open Go.RowKit
set_option linter.unusedVariables false

theorem lay_reads (B E : Nat) : ∀ n, Reads B E 179 (lay E n).1 n ∧ Reads B E 99 (lay E n).2.1 n ∧ Reads B E 31 (lay E n).2.2 n
  | 0 => ⟨fun w d L hl _ => absurd hl (by omega), fun w d L hl _ => absurd hl (by omega), fun w d L hl _ => absurd hl (by omega)⟩
  | n + 1 => by
    obtain ⟨h1, h2, h3⟩ := lay_reads B E n
    obtain ⟨s1, s2, s3⟩ := sh_lay E n
    have hm := minus_any h1 (plain_any h3)
    have sm : Sh (minusP E (lay E n).1 (lay E n).2.2) := s1.minus s3
    have hs := sum_any (prod_any hm sm) sm.prod
    have hd := deny_any (e := minusP E (lay E n).1 (lay E n).2.2) h2 (test_any hs sm.sum)
    have sd : Sh (denyP E (lay E n).2.1 (minusP E (lay E n).1 (lay E n).2.2)) := s2.deny sm
    exact ⟨hm, hd, expr_any (both_any hd sd) sd.both⟩
end Go.Proofs.YtkcnpbckmdgfnaaGreatDoor
