/-
  Counting a call: the contract of the function that counts and says whether this call is to fail.
-/
import Derived.Test.YtgkijokgkaihoaaFs2
import Derived.Test.YtgkijokgkaihoaaShelf
import Derived.Deep.QuietTactic
import Derived.BigQuiet
import Derived.Deep.RegionHeld3
namespace Go.Proofs.Ytgkijokgkaihoaa
open Go.RowKit Go.Maps
section
variable {w : World} {base p mb : Nat} {fv : Value} {S : St}

/-- Whether a number stands among the faults. -/
def hit (fs : List Int) (x : Int) : Bool := fs.contains x
def posOf (fs : List Int) (x : Int) : Int := ((fs.countP (· < x) : Nat) : Int)

/-- The search among the faults. -/
theorem search_any {fs : List Int} (x : Int) (w : World) (h : w.ownsRow base 3 1 fv fs.length (fs.map (Value.int .i64))) (hs : fs.Pairwise (· ≤ ·)) (hb : fs.length < 4611686018427387904) :
    Calls Try.prog 40 #[fv, .int .i64 x] w fun e w' => e = .returned (.tuple #[.int .i64 (posOf fs x), .bool (hit fs x)]) ∧ ∃ q, w' = w.drewN q := by
  rcases h.2 with ⟨rfl, h0⟩ | ⟨g, cap, cur, rfl, _, _⟩
  · have : fs = [] := List.eq_nil_of_length_eq_zero h0
    subst this
    refine (Try.slices_BinarySearch_int_empty _ _ _ _).mono ?_
    rintro e w' ⟨rfl, rfl⟩
    exact ⟨rfl, 0, rfl⟩
  · refine (Try.slices_BinarySearch_int g 0 fs.length cap fs x w (Nat.le_refl _) hb (fun j hj => ?_) (by simpa using hs)).mono ?_
    · rw [Nat.zero_add, h.cellAt j (by simpa using hj)]
      simp [List.getD, List.getElem?_eq_getElem hj]
    · rintro e w' ⟨rfl, q, rfl⟩
      exact ⟨by simp [posOf, hit], q, rfl⟩

set_option maxRecDepth 100000 in
theorem countFails_any (h : FsAt w base p mb fv S) (hc : S.calls < 4611686018427387904) :
    Calls Try.prog 28 #[.pointer (some ⟨p, 0, none⟩)] w fun e w' => e = .returned (.bool (hit S.fs (S.calls + 1))) ∧
      FsAt w' base p mb fv { S with size := S.size, calls := S.calls + 1, failed := S.failed || hit S.fs (S.calls + 1) } ∧ OnlyP p w w' := by
  cases hfl : S.failed
  all_goals
    have c3 : w.cell? ⟨p, 3, none⟩ = some (.int .i64 S.calls) := h.cell 3
    have c4 : w.cell? ⟨p, 4, none⟩ = some fv := h.cell 4
    have c5 : w.cell? ⟨p, 5, none⟩ = some (.bool S.failed) := h.cell 5
    have f3 := h.free 3
    have f5 := h.free 5
    rw [hfl] at c5
    have k0 := h.c0
    clear hfl
    go_enter Try.func28, Try.ntmps28
    go_wp2_with fail
    have hrow : ∀ n, ((w.setCell ⟨p, 3, none⟩ (.int .i64 (S.calls + 1))).drewN n).ownsRow base 3 1 fv S.fs.length (S.fs.map (Value.int .i64)) := fun n =>
      row_same h.fal (fun k hk => Below.heap_setCell w _ _ k (fun e => h.p_ne_fv (by subst e; exact hk)))
    have s1 := h.srt
    have s2 := h.fbig
    go_quiet ((go_at_call 40; exact Calls.quiet_of (search_any _ _ (hrow _) s1 s2)))
    clear hrow s1 s2
    go_wp2_with fail
    go_ret
    refine ⟨rfl, h.turn (((OnlyP.refl p w).setCell 3 _).drewN nq |>.setCell 5 _) _ _ _ ?_ h.tot (by have := h.s1; omega) (by omega), ((OnlyP.refl p w).setCell 3 _).drewN nq |>.setCell 5 _⟩
    exact setCell_blk (w := (w.setCell ⟨p, 3, none⟩ _).drewN nq) (setCell_blk h.blk 3 _) 5 _
end
end Go.Proofs.Ytgkijokgkaihoaa
