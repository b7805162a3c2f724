/-
  A new file system with faults: the contract of New at any list of numbers.
-/
import Derived.Test.YtgkijokgkaihoaaHead
import Derived.Sort.OwnSortedInts
namespace Go.Proofs.Ytgkijokgkaihoaa
open Go.RowKit Go.WideMaps Go.Maps Go.Sort

/-- The numbers of calls that fail, rising. -/
def rise (zs : List Int) : List Int := zs.mergeSort fun x y => decide (x ≤ y)

theorem rise_srt (zs : List Int) : (rise zs).Pairwise (· ≤ ·) := by
  have := List.pairwise_mergeSort (le := fun x y : Int => decide (x ≤ y)) (fun a b c h1 h2 => by simp at h1 h2 ⊢; omega) (fun a b => by simp; omega) zs
  exact this.imp (fun h => by simpa using h)
theorem rise_len (zs : List Int) : (rise zs).length = zs.length := by simp [rise]
theorem rise_hit (zs : List Int) (x : Int) : hit (rise zs) x = hit zs x := by
  unfold hit rise
  rw [Bool.eq_iff_iff]
  simp [List.mem_mergeSort]

theorem cloneI_any (x : Addr) (c : Nat) (zs : List Int) (w : World) (hn : zs.length * 8 ≤ 140737488355328)
    (hrow : zs = [] ∨ ∃ b off, some x = some (⟨b, off, none⟩ : Addr) ∧ ∀ i, i < zs.length → w.cell? ⟨b, off + i, none⟩ = some (.int .i64 (zs.getD i 0))) :
    Calls Try.prog 25 #[.slice (some x) zs.length c] w fun e w' => ∃ g cap, e = .returned (.slice (some ⟨g, 0, none⟩) zs.length cap) ∧ w'.ownsRow w.heap.size 3 1 (.slice (some ⟨g, 0, none⟩) zs.length cap) zs.length (zs.map (Value.int .i64)) ∧ Below w.heap.size w w' := by
  have fin : ∀ (e : Ending) (w' : World), (∃ v', e = .returned v' ∧ w'.ownsRow w.heap.size 3 1 v' zs.length (zs.map (Value.int .i64)) ∧ v' ≠ .slice none 0 0 ∧ Below w.heap.size w w') →
      ∃ g cap, e = .returned (.slice (some ⟨g, 0, none⟩) zs.length cap) ∧ w'.ownsRow w.heap.size 3 1 (.slice (some ⟨g, 0, none⟩) zs.length cap) zs.length (zs.map (Value.int .i64)) ∧ Below w.heap.size w w' := by
    rintro e w' ⟨v', rfl, hr, hnn, hb⟩
    rcases hr.2 with ⟨hv, _⟩ | ⟨g, cap, cur, rfl, _⟩
    · exact absurd hv hnn
    · exact ⟨g, cap, rfl, hr, hb⟩
  rcases hrow with rfl | ⟨b, off, h, hc⟩
  · exact (Try.slices_Clone_int_zero x c w).mono fin
  · cases h
    refine (Try.slices_Clone_int b off zs.length c zs w (Nat.le_refl _) hn hc).mono ?_
    rw [List.take_length]
    exact fin

theorem sortI_any {base g cap : Nat} {zs : List Int} {w : World} (hr : w.ownsRow base 3 1 (.slice (some ⟨g, 0, none⟩) zs.length cap) zs.length (zs.map (Value.int .i64))) (hn : zs.length < 4611686018427387904) :
    Calls Try.prog 26 #[.slice (some ⟨g, 0, none⟩) zs.length cap] w fun e w' => e = .returned (.tuple #[]) ∧ w'.ownsRow base 3 1 (.slice (some ⟨g, 0, none⟩) zs.length cap) zs.length ((rise zs).map (Value.int .i64)) ∧ w.grownBy w' (some g) := by
  have hgl := hr.lt g rfl
  rcases hr.2 with ⟨hv, _⟩ | ⟨g', cap', cur, hv, _, hg, a1, a2, a3, a4⟩
  · cases hv
  · cases hv
    refine (Try.slices_Sort_int g 0 cap zs _ (holds_of_blockI hg (by simpa using a4)) hgl.2 hn).mono ?_
    rintro e w2 ⟨rfl, n, os, rfl⟩
    exact ⟨rfl, ownsRow_sortedI (n := n) (os := os) (e := 3) (ts := rise zs) (ss := zs) (rise_len zs) hgl.1 hg a1 a2 a3, grownBy_sortedI _⟩

set_option maxRecDepth 100000 in
theorem New_any (quota : Int) (fa : Option Addr) (c : Nat) (zs : List Int) (w : World) (h1 : -9223372036854775808 ≤ quota) (h2 : quota ≤ 9223372036854775807) (hn : zs.length * 8 ≤ 140737488355328)
    (hrow : zs = [] ∨ ∃ b off, fa = some ⟨b, off, none⟩ ∧ ∀ i, i < zs.length → w.cell? ⟨b, off + i, none⟩ = some (.int .i64 (zs.getD i 0))) :
    Calls Try.prog 10 #[.int .i64 quota, .slice fa zs.length c] w fun e w' => ∃ p mb fv, e = .returned (.pointer (some ⟨p, 0, none⟩)) ∧ FsAt w' w.heap.size p mb fv (newSt quota (rise zs)) ∧ Below w.heap.size w w' := by
  have hmm := @run_makeMap Try.prog
  cases fa with
  | none =>
    have hz : zs = [] := by
      rcases hrow with h | ⟨b, off, h, _⟩
      · exact h
      · cases h
    subst hz
    have hr : rise [] = [] := by simp [rise]
    rw [hr]
    go_enter Try.func10, Try.ntmps10
    go_wp2_with (first
      | (go_at_call 25; refine (Try.slices_Clone_int_nil _ _ _).mono ?_; rintro e w' ⟨rfl, rfl⟩)
      | (go_at_call 26; refine (Try.slices_Sort_int_none _ _ _).mono ?_; rintro e w' ⟨rfl, rfl⟩))
    go_ret
    exact ⟨_, _, _, rfl, new_step quota (World.ownsRow_nil _ _ _ _) (by simp) (by simp) (Nat.le_refl _) h1 h2, ((Below.refl _ _).alloc (Nat.le_refl _) _).alloc (by simp) _⟩
  | some x =>
    go_enter Try.func10, Try.ntmps10
    go_wp2_with (go_at_call 25; refine (cloneI_any x c zs w hn hrow).mono ?_; rintro e w1 ⟨g, cap, rfl, hr, hb⟩)
    have hgl := hr.lt g rfl
    go_wp2_with (go_at_call 26; refine (sortI_any hr (by omega)).mono ?_; rintro e w2 ⟨rfl, hs2, hg2⟩)
    go_ret
    have hb2 := hb.grown hg2 hb.size (fun k hk => by cases hk; exact hgl.1)
    refine ⟨_, _, _, rfl, new_step quota (fs := rise zs) (by rw [rise_len]; exact hs2) (rise_srt zs) (by rw [rise_len]; omega) hb2.size h1 h2, (hb2.alloc hb2.size _).alloc ?_ _⟩
    have := hb2.size
    simp
    omega
end Go.Proofs.Ytgkijokgkaihoaa
