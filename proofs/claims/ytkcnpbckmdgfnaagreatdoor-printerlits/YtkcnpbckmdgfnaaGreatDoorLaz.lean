/-
  The readers of expressions, all of them.
  An expression stays where its blocks do.
-/
import Derived.Test.YtkcnpbckmdgfnaaGreatDoorExa
import Derived.Test.YtkcnpbckmdgfnaaGreatDoorExz
namespace Go.Proofs.YtkcnpbckmdgfnaaGreatDoor
open Go.RowKit
set_option linter.unusedVariables false

theorem lay_reads (B E : Nat) : ∀ n, Reads B E 179 (lay E n).1 n ∧ Reads B E 99 (lay E n).2.1 n ∧ Reads B E 31 (lay E n).2.2 n
  | 0 => ⟨fun w d L hl _ => absurd hl (by omega), fun w d L hl _ => absurd hl (by omega), fun w d L hl _ => absurd hl (by omega)⟩
  | n + 1 => by
    obtain ⟨h1, h2, h3⟩ := lay_reads B E n
    obtain ⟨s1, s2, s3⟩ := sh_lay E n
    have hm := minus_any h1 (plain_any h3)
    have sm : Sh (minusP E (lay E n).1 (lay E n).2.2) := s1.minus s3
    have hs := sum_any (prod_any hm sm) sm.prod
    have hd := deny_any (e := minusP E (lay E n).1 (lay E n).2.2) h2 (test_any hs sm.sum)
    have sd : Sh (denyP E (lay E n).2.1 (minusP E (lay E n).1 (lay E n).2.2)) := s2.deny sm
    exact ⟨hm, hd, expr_any (both_any hd sd) sd.both⟩
end Go.Proofs.YtkcnpbckmdgfnaaGreatDoor
namespace Go.Proofs.YtkcnpbckmdgfnaaGreatDoor
open Go.ChangeShapes Go.WideShapes Go.ChangeAt Go.RowKit
set_option linter.unusedSimpArgs false
set_option linter.unusedVariables false

theorem Row9.same {w w' : World} {g o : Nat} {x : Ex} {ks : Value} (h : Row9 w g o x ks) (hb : w'.heap[g]? = w.heap[g]?) : Row9 w' g o x ks := by
  obtain ⟨c0, c1, c2, c3, c4, c5, c6, c7, c8⟩ := h
  have hc : ∀ i, w'.cell? ⟨g, i, none⟩ = w.cell? ⟨g, i, none⟩ := fun i => by simp only [World.cell?, hb]
  exact ⟨(hc _).trans c0, (hc _).trans c1, (hc _).trans c2, (hc _).trans c3, (hc _).trans c4, (hc _).trans c5, (hc _).trans c6, (hc _).trans c7, (hc _).trans c8⟩
theorem ExAt.same {w w' : World} {S : Nat → Prop} (h : ∀ g, S g → g < w.heap.size → w'.heap[g]? = w.heap[g]?) : ∀ (x : Ex) (ks : Value), ExAt w S x ks → ExAt w' S x ks
  | .leaf _ _ _ _ _ _ _, ks, k => k
  | .one _ a, ks, ⟨g, k1, e, hg, hr, hx⟩ => ⟨g, k1, e, hg, hr.same (h g hg (World.block_lt_of_cell? w _ hr.1)), ExAt.same h a k1 hx⟩
  | .two _ a b', ks, ⟨g, k1, k2, e, hg, hr, hr2, hx, hx2⟩ => ⟨g, k1, k2, e, hg, hr.same (h g hg (World.block_lt_of_cell? w _ hr.1)), hr2.same (h g hg (World.block_lt_of_cell? w _ hr.1)), ExAt.same h a k1 hx, ExAt.same h b' k2 hx2⟩

end Go.Proofs.YtkcnpbckmdgfnaaGreatDoor
