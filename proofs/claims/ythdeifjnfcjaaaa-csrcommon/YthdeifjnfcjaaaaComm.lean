/-
  CsrCommon: its own walk.
-/
import Derived.Test.YthdeifjnfcjaaaaTim
namespace Go.Proofs.Ythdeifjnfcjaaaa
open Go.RowKit
set_option linter.unusedSimpArgs false
set_option linter.unusedVariables false

/-- How many of the first k stand in each list. -/
def cntD (L : List IL) (k : Nat) : Nat := (((L.getD 0 default).z.take k).filter (inAllB (zl L))).length
theorem cntD_zero (L : List IL) : cntD L 0 = 0 := by simp [cntD]
theorem cntD_le (L : List IL) (k : Nat) : cntD L k ≤ k := by
  unfold cntD
  have h1 := List.length_filter_le (inAllB (zl L)) ((L.getD 0 default).z.take k)
  have h2 : ((L.getD 0 default).z.take k).length ≤ k := List.length_take_le _ _
  omega
theorem cntD_next (L : List IL) (k : Nat) (hk : k < (L.getD 0 default).z.length) : cntD L (k + 1) = cntD L k + if inAllB (zl L) ((L.getD 0 default).z.getD k 0) then 1 else 0 := count_filter _ _ k hk
theorem cntD_all {L : List IL} {A : List Int} {k : Nat} (h0 : 0 < L.length) (hr : Ris (L.getD 0 default).z) (hA : IsMet (zl L) A) (hk : (L.getD 0 default).z.length ≤ k) : cntD L k = A.length := by
  have := met_len (L := zl L) (by rw [zl_len]; exact h0) (by rw [zl_at L 0 h0]; exact hr) hA
  rw [zl_at L 0 h0] at this
  unfold cntD
  rw [List.take_of_length_le hk, ← this]
theorem times_in {L : List IL} {A : List Int} {z : Int} (hA : IsMet (zl L) A) (hz : z ∈ A) : timesN (zl L) z = L.length := by
  rw [(times_all (zl L) z).2 (inAllB_iff.2 ((hA.2 z).1 hz)), zl_len]
theorem times_eq (L : List IL) (z : Int) (n : Nat) (hn : L.length = n) : (((timesN (zl L) z : Nat) : Int) == (n : Int)) = inAllB (zl L) z := by
  have h := times_all (zl L) z
  rw [zl_len, hn] at h
  cases hb : inAllB (zl L) z with
  | true => rw [h.2 hb]; simp
  | false =>
    rw [hb] at h
    have : timesN (zl L) z ≠ n := fun e => by have := h.1 e; simp at this
    simpa using fun e => this (by omega)

set_option maxRecDepth 100000 in
set_option maxHeartbeats 8000000 in
theorem Common_walk (a : Option Addr) (n c : Nat) (L : List IL) (w : World) (hn : L.length = n) (hL : ILsAt w a L) (hX : n * 24 ≤ 140737488351232) :
    Calls Try.prog 5 #[.slice a n c] w fun e w' => e = .returned (.bool true) ∧ Below w.heap.size w w' := by
  have hH := head_any w
  have hM := fun w' (hb : Below w.heap.size w w') => Meet_any a n c L w' hn (hL.below hb) (by omega)
  have hT := fun z w' (hb : Below w.heap.size w w') => times_any a n c L z w' hn (hL.below hb) hX
  replace hH : Hid _ := hH
  replace hM : Hid _ := hM
  replace hT : Hid _ := hT
  by_cases hE : metE L = 0
  case neg =>
    have hEb : (metE L != 0) = true := by simpa using hE
    have hE' : (metE L == 0) = false := by simpa using hE
    replace hE : Hid _ := hE
    clear hL
    go_enter Try.func5, Try.ntmps5
    go_wp2_with (first
      | (go_at_call 6; refine Calls.mono hH.out ?_; rintro e w1 ⟨rfl, hb1⟩)
      | (go_at_call 7; refine Calls.mono (hM.out _ hb1) ?_; rintro e w2 ⟨p, c2, A, rfl, -, -, -, hA2, hb2⟩; obtain rfl := hA2 hE.out; replace hb2 := below_on hb1 hb2; clear hA2))
    go_returns
    exact ⟨by simp, hb2⟩
  obtain ⟨hne, hris⟩ := metE_zero hE
  have h0 : 0 < L.length := List.length_pos_iff.2 hne
  obtain ⟨g, off, rfl, c00, hX0⟩ := hL.at 0 h0
  have hcn := fun k hk => cntD_next L k hk
  have hca := fun A k (hA : IsMet (zl L) A) hk => cntD_all (A := A) (k := k) h0 (hris 0 h0) hA hk
  have hti := fun A z (hA : IsMet (zl L) A) (hz : z ∈ A) => times_in hA hz
  generalize hXe : L.getD 0 default = X at c00 hX0 hcn hca
  rw [Nat.add_zero] at c00
  have hXl := hX0.ln
  have hXb := hX0.lb
  rw [hXl] at hcn hca
  rw [hn] at hti
  replace hX0 : Hid _ := hX0
  replace hXl : Hid _ := hXl
  replace hcn : Hid _ := hcn
  replace hca : Hid _ := hca
  replace hti : Hid _ := hti
  replace hn : Hid _ := hn
  replace hXe : Hid _ := hXe
  clear hL hris hne
  have hnI : (0 : Int) < (n : Int) := by have := hn.out; omega
  go_enter Try.func5, Try.ntmps5
  go_wp2_with (first
    | (go_at_call 6; refine Calls.mono hH.out ?_; rintro e w1 ⟨rfl, hb1⟩)
    | (go_at_call 7; refine Calls.mono (hM.out _ hb1) ?_; rintro e w2 ⟨p, c2, A, rfl, hp, hAl, hA1, -, hb2⟩; rw [hE]; replace hA1 := hA1 hE; replace hb2 := below_on hb1 hb2; replace hp : Hid _ := hp; replace hA1 : Hid _ := hA1; rw [hXe.out] at hAl))
  go_loopw [6] (fun v6 wr => ∃ i : Nat, i ≤ A.length ∧ v6 = .int .i64 i ∧ Below w2.heap.size w2 wr) (fun v6 _ => A.length - (intOf v6).toNat)
  case atStart => exact ⟨0, by omega, rfl, Below.refl _ _⟩
  case round =>
    obtain ⟨i, i1, rfl, hb⟩ := hrel
    have hbw := below_on hb2 hb
    by_cases hi : i < A.length
    · have hTi := hT.out (A.getD i 0)
      rw [hti.out A (A.getD i 0) hA1.out (by simp [List.getD, hi])] at hTi
      by_cases hi0 : i = 0
      · subst hi0
        obtain ⟨b, o, rfl, cz⟩ := PathAt.num (PathAt.below hp.out hb) 0 hi
        rw [Nat.add_zero] at cz
        generalize A.getD 0 0 = z at cz hTi
        replace hTi : Hid _ := hTi
        clear hT
        go_wp2_with fail
        go_quiet ((go_at_call 10; exact Calls.quiet_of_same (hTi.out _ (below_drewN hbw _))))
        have hbq := below_drewN hb nq
        generalize wr.drewN nq = wq at hbq ⊢
        go_wp2_with fail
        exact ⟨⟨0 + 1, by omega, by first | rfl | go_num | (congr 1; omega), hbq⟩, by simp [intOf]; omega⟩
      · obtain ⟨b, o, rfl, cy, cz⟩ := PathAt.two (PathAt.below hp.out hb) (i - 1) i (by omega) hi
        have hyz := ris_at hA1.out.1 (i := i - 1) (j := i) (by omega) hi
        have ei : ((i : Int) - 1) = ((i - 1 : Nat) : Int) := by omega
        have ei0 : decide (0 < i) = true := by simp; omega
        generalize A.getD (i - 1) 0 = y at cy hyz
        generalize A.getD i 0 = z at cz hyz hTi
        have e1 : decide (z ≤ y) = false := by simp; omega
        replace hTi : Hid _ := hTi
        clear hT
        go_wp2_with fail
        go_quiet ((go_at_call 10; exact Calls.quiet_of_same (hTi.out _ (below_drewN hbw _))))
        have hbq := below_drewN hb nq
        generalize wr.drewN nq = wq at hbq ⊢
        go_wp2_with fail
        exact ⟨⟨i + 1, by omega, by first | rfl | go_num | (congr 1; omega), hbq⟩, by simp [intOf]; omega⟩
    · clear hp
      go_wp2_with fail
      go_loopw [7, 8] (fun v7 v8 wx => ∃ k : Nat, k ≤ X.l ∧ v8 = .int .i64 k ∧ v7 = .int .i64 (cntD L k : Nat) ∧ Below w.heap.size w wx) (fun _ v8 _ => X.l - (intOf v8).toNat)
      case atStart => exact ⟨0, by omega, rfl, by rw [cntD_zero]; rfl, hbw⟩
      case round =>
        obtain ⟨k, k1, rfl, rfl, hbx⟩ := hrel
        have cx := (hbx.cell (World.block_lt_of_cell? _ _ c00)).trans c00
        have hcl := cntD_le L k
        by_cases hk : k < X.l
        · obtain ⟨b, o, ea, cz⟩ := PathAt.num (PathAt.below hX0.out.pt hbx) k (by rw [hXl.out]; exact hk)
          have hnx := hcn.out k hk
          rw [ea] at cx
          replace ea : Hid _ := ea
          generalize X.z.getD k 0 = z at cz hnx
          have hTz := hT.out z
          have hte := times_eq L z n hn.out
          generalize timesN (zl L) z = T at hTz hte
          cases hU : inAllB (zl L) z with
          | true =>
            rw [hU] at hnx hte
            replace hTz : Hid _ := hTz
            replace hnx : Hid _ := hnx
            clear hU hT
            go_wp2_with (go_at_call 10; refine Calls.mono (hTz.out _ hbx) ?_; rintro e w5 ⟨rfl, rfl⟩)
            exact ⟨⟨k + 1, by omega, by first | rfl | go_num | (congr 1; omega), by rw [hnx.out]; rfl, hbx⟩, by simp [intOf]; omega⟩
          | false =>
            rw [hU] at hnx hte
            replace hTz : Hid _ := hTz
            replace hnx : Hid _ := hnx
            clear hU hT
            go_wp2_with (go_at_call 10; refine Calls.mono (hTz.out _ hbx) ?_; rintro e w5 ⟨rfl, rfl⟩)
            exact ⟨⟨k + 1, by omega, by first | rfl | go_num | (congr 1; omega), by rw [hnx.out]; rfl, hbx⟩, by simp [intOf]; omega⟩
        · have hfin := hca.out A k hA1.out (by omega)
          rw [hfin]
          clear hfin hcl
          go_wp2_with fail
          go_returns
          exact ⟨by simp, hbx⟩
end Go.Proofs.Ythdeifjnfcjaaaa
