/-
  Meet of the program, whatever it is handed.
-/
import Derived.Test.YthdeifjnfcjaaaaCom
namespace Go.Proofs.Ythdeifjnfcjaaaa
open Go.RowKit
set_option linter.unusedSimpArgs false
set_option linter.unusedVariables false

/-- Do all lists rise? -/
def allRis (L : List IL) : Prop := ∀ j, j < L.length → Ris (L.getD j default).z
open Classical in
/-- What Meet answers beside the numbers. -/
noncomputable def metE (L : List IL) : Int := if L = [] then 1 else if allRis L then 0 else 61
theorem metE_nil : metE [] = 1 := by simp [metE]
theorem metE_ok {L : List IL} (h : L ≠ []) (k : allRis L) : metE L = 0 := by simp [metE, h, k]
theorem metE_bad {L : List IL} (h : L ≠ []) (k : ¬ allRis L) : metE L = 61 := by simp [metE, h, k]
theorem metE_zero {L : List IL} (h : metE L = 0) : L ≠ [] ∧ allRis L := by
  unfold metE at h
  split at h
  · omega
  · split at h
    · exact ⟨‹_›, ‹_›⟩
    · omega
/-- What Meet hands back. -/
def MetAns (w w' : World) (L : List IL) (e : Ending) : Prop := ∃ (p : Option Addr) (c : Nat) (M : List Int), e = .returned (.tuple #[.slice p M.length c, .int .i64 (metE L)]) ∧ PathAt w' p M ∧ M.length ≤ (L.getD 0 default).l ∧ (metE L = 0 → IsMet (zl L) M) ∧ (metE L ≠ 0 → M = []) ∧ Below w.heap.size w w'

set_option maxRecDepth 100000 in
set_option maxHeartbeats 2000000 in
theorem Meet_any (a : Option Addr) (n c : Nat) (L : List IL) (w : World) (hn : L.length = n) (hL : ILsAt w a L) (hX : n * 24 ≤ 140737488355328) :
    Calls Try.prog 7 #[.slice a n c] w fun e w' => MetAns w w' L e := by
  by_cases h0 : n = 0
  · subst h0
    obtain rfl : L = [] := List.length_eq_zero_iff.1 hn
    have hE := metE_nil
    replace hE : Hid _ := hE
    clear hL
    go_enter Try.func7, Try.ntmps7
    go_wp2_with fail
    go_returns
    exact ⟨none, 0, [], by rw [hE.out]; rfl, .inl rfl, Nat.zero_le _, fun h => by rw [hE.out] at h; omega, fun _ => rfl, Below.refl _ _⟩
  have hne : L ≠ [] := fun e => h0 (by rw [← hn, e]; rfl)
  obtain ⟨g0, off0, rfl, -, -⟩ := hL.at 0 (by omega)
  have hC := fun w' (hb : Below w.heap.size w w') (hs : allRis L) => common_any ⟨g0, off0, none⟩ n c L w' hn (by omega) (hL.below hb) hX (fun j hj => hs j (by omega))
  have hR := fun j (hj : j < n) w' (hb : Below w.heap.size w w') => rises_any (L.getD j default).a (L.getD j default).l (L.getD j default).c (L.getD j default).z w' (hL.oks j (by omega)).ln (by have := (hL.oks j (by omega)).lb; unfold maxLen; omega) ((hL.oks j (by omega)).pt.below hb)
  have hcell := fun j (hj : j < n) => (show w.cell? ⟨g0, off0 + j, none⟩ = some (.slice (L.getD j default).a (L.getD j default).l (L.getD j default).c) by
    obtain ⟨g, off, e, h1, _⟩ := hL.at j (by omega)
    cases e
    exact h1)
  have hn0 : ((n : Int) == 0) = false := by simpa using h0
  replace hC : Hid _ := hC
  replace hR : Hid _ := hR
  replace hcell : Hid _ := hcell
  replace hn : Hid _ := hn
  clear hL
  go_enter Try.func7, Try.ntmps7
  go_wp2_with fail
  go_loopw [11] (fun i wr => ∃ j : Nat, j ≤ n ∧ i = .int .i64 j ∧ Below w.heap.size w wr ∧ ∀ t, t < j → Ris (L.getD t default).z) (fun i _ => n - (intOf i).toNat)
  case atStart => exact ⟨0, by omega, rfl, Below.refl _ _, by simp⟩
  case round =>
    obtain ⟨j, j1, rfl, hb, hu⟩ := hrel
    replace hu : Hid _ := hu
    by_cases hj : j < n
    · have cx := (hb.cell (World.block_lt_of_cell? _ _ (hcell.out j hj))).trans (hcell.out j hj)
      have hRj := hR.out j hj
      generalize hX : L.getD j default = X at cx hRj
      replace hX : Hid _ := hX
      by_cases hr : Ris X.z
      · rw [risB_yes hr] at hRj
        replace hRj : Hid _ := hRj
        replace hr : Hid _ := hr
        go_wp2_with (go_at_call 12; refine Calls.mono (hRj.out _ hb) ?_; rintro e w1 ⟨rfl, hb1⟩)
        refine ⟨⟨j + 1, by omega, by first | rfl | go_num | (congr 1; omega), below_on hb hb1, fun t ht => ?_⟩, by simp [intOf]; omega⟩
        rcases Nat.lt_succ_iff_lt_or_eq.1 ht with h | rfl
        · exact hu.out t h
        · rw [hX.out]; exact hr.out
      · rw [risB_no hr] at hRj
        have hE : metE L = 61 := metE_bad hne fun h => hr (by rw [← hX.out]; exact h j (by rw [hn.out]; exact hj))
        replace hRj : Hid _ := hRj
        replace hE : Hid _ := hE
        clear hr
        go_wp2_with (go_at_call 12; refine Calls.mono (hRj.out _ hb) ?_; rintro e w1 ⟨rfl, hb1⟩)
        go_returns
        exact ⟨none, 0, [], by rw [hE.out]; rfl, .inl rfl, Nat.zero_le _, fun h => by rw [hE.out] at h; omega, fun _ => rfl, below_on hb hb1⟩
    · have hall : allRis L := fun t ht => hu.out t (by rw [hn.out] at ht; omega)
      have hE : metE L = 0 := metE_ok hne hall
      replace hE : Hid _ := hE
      replace hall : Hid _ := hall
      clear hcell hR
      go_wp2_with (go_at_call 13; refine Calls.mono (hC.out _ hb hall.out) ?_; rintro e w1 ⟨u, M, rfl, hM, hMl, ho, hb1⟩; obtain ⟨ma, mc, rfl⟩ := own_slice ho; replace ho : Hid _ := ho; replace hM : Hid _ := hM)
      go_returns
      exact ⟨ma, mc, M, by rw [hE.out]; rfl, own_path ho.out rfl, hMl, fun _ => hM.out, fun h => absurd hE.out h, below_on hb hb1⟩
end Go.Proofs.Ythdeifjnfcjaaaa
