/-
  The document's Meet, whatever it is handed.
-/
import Derived.Test.YthdeifjnfcjaaaaMet
namespace Go.Proofs.Ythdeifjnfcjaaaa
open Go.RowKit
set_option linter.unusedSimpArgs false
set_option linter.unusedVariables false

theorem below_drewN {B : Nat} {a w : World} (h : Below B a w) : ∀ n, Below B a (w.drewN n)
  | 0 => h
  | n + 1 => by
    have := (below_drewN h n).drew
    exact this
/-- What the document's way has met among the first k of the first list. -/
def metD (L : List IL) (k : Nat) : List Int := ((L.getD 0 default).z.take k).filter (restB (zl L))
theorem metD_zero (L : List IL) : metD L 0 = [] := by simp [metD]
theorem filter_next (Z : List Int) (p : Int → Bool) (k : Nat) (hk : k < Z.length) : (Z.take (k + 1)).filter p = (Z.take k).filter p ++ if p (Z.getD k 0) then [Z.getD k 0] else [] := by
  rw [List.take_succ_eq_append_getElem hk, List.filter_append]
  have : Z.getD k 0 = Z[k] := by simp [List.getD, hk]
  rw [this]
  by_cases h : p Z[k] <;> simp [h]
theorem metD_next (L : List IL) (k : Nat) (hk : k < (L.getD 0 default).z.length) : metD L (k + 1) = metD L k ++ if restB (zl L) ((L.getD 0 default).z.getD k 0) then [(L.getD 0 default).z.getD k 0] else [] :=
  filter_next _ _ k hk
theorem metD_len (L : List IL) (k : Nat) : (metD L k).length ≤ k := by
  unfold metD
  have h1 := List.length_filter_le (restB (zl L)) ((L.getD 0 default).z.take k)
  have h2 : ((L.getD 0 default).z.take k).length ≤ k := List.length_take_le _ _
  omega
theorem metD_end {L : List IL} {k : Nat} (h0 : 0 < L.length) (hr : Ris (L.getD 0 default).z) (hk : (L.getD 0 default).z.length ≤ k) : IsMet (zl L) (metD L k) := by
  unfold metD
  rw [List.take_of_length_le hk]
  have := met_rest (L := zl L) (by rw [zl_len]; exact h0) (by rw [zl_at L 0 h0]; exact hr)
  rwa [zl_at L 0 h0] at this
/-- Do the lists from 1 up to i have it? -/
def upB (L : List IL) (i : Nat) (z : Int) : Bool := ((zl L).take i |>.drop 1).all fun l => l.contains z
theorem upB_one (L : List IL) (z : Int) : upB L 1 z = true := by
  unfold upB
  rw [List.drop_eq_nil_of_le (by simp; omega)]
  rfl
theorem upB_next (L : List IL) (i : Nat) (hi : i < L.length) (h1 : 1 ≤ i) (z : Int) : upB L (i + 1) z = (upB L i z && hasB (L.getD i default).z z) := by
  unfold upB hasB
  have hi' : i < (zl L).length := by rw [zl_len]; exact hi
  rw [List.take_succ_eq_append_getElem hi', List.drop_append_of_le_length (by simp; omega), List.all_append]
  have : (zl L)[i] = (L.getD i default).z := by
    rw [← zl_at L i hi]
    simp [List.getD, hi']
  rw [this]
  simp
theorem upB_all (L : List IL) (i : Nat) (hi : L.length ≤ i) (z : Int) : upB L i z = restB (zl L) z := by
  unfold upB restB
  rw [List.take_of_length_le (by rw [zl_len]; exact hi)]
theorem upB_no {L : List IL} {i : Nat} {z : Int} (h : upB L i z = false) : restB (zl L) z = false := by
  rw [Bool.eq_false_iff]
  intro hr
  rw [restB, List.all_eq_true] at hr
  rw [Bool.eq_false_iff] at h
  refine h ?_
  unfold upB
  rw [List.all_eq_true]
  intro l hl
  refine hr l ?_
  rw [List.drop_take] at hl
  exact List.mem_of_mem_take hl

set_option maxRecDepth 100000 in
set_option maxHeartbeats 4000000 in
theorem refMeet_any (a : Option Addr) (n c : Nat) (L : List IL) (w : World) (hn : L.length = n) (hL : ILsAt w a L) (hX : n * 24 ≤ 140737488355328) :
    Calls Try.prog 8 #[.slice a n c] w fun e w' => MetAns w w' L e := by
  by_cases h0 : n = 0
  · subst h0
    obtain rfl : L = [] := List.length_eq_zero_iff.1 hn
    have hE := metE_nil
    replace hE : Hid _ := hE
    clear hL
    go_enter Try.func8, Try.ntmps8
    go_wp2_with fail
    go_returns
    exact ⟨none, 0, [], by rw [hE.out]; rfl, .inl rfl, Nat.zero_le _, fun h => by rw [hE.out] at h; omega, fun _ => rfl, Below.refl _ _⟩
  have hne : L ≠ [] := fun e => h0 (by rw [← hn, e]; rfl)
  obtain ⟨g0, off0, rfl, -, -⟩ := hL.at 0 (by omega)
  have hcell := fun j (hj : j < n) => (show w.cell? ⟨g0, off0 + j, none⟩ = some (.slice (L.getD j default).a (L.getD j default).l (L.getD j default).c) by
    obtain ⟨g, off, e, h1, _⟩ := hL.at j (by omega)
    cases e
    exact h1)
  have hok := fun j (hj : j < n) => hL.oks j (by rw [hn]; exact hj)
  have hn0 : ((n : Int) == 0) = false := by simpa using h0
  obtain ⟨i0, hi0, hz0, hz1, hz2⟩ := info_parts info3
  replace hcell : Hid _ := hcell
  replace hok : Hid _ := hok
  replace hn : Hid _ := hn
  clear hL
  go_enter Try.func8, Try.ntmps8
  go_wp2_with fail
  go_loopw [4] (fun i wr => ∃ j : Nat, j ≤ n ∧ i = .int .i64 j ∧ Below w.heap.size w wr ∧ ∀ t, t < j → Ris (L.getD t default).z) (fun i _ => n - (intOf i).toNat)
  case atStart => exact ⟨0, by omega, rfl, Below.refl _ _, by simp⟩
  case round =>
    obtain ⟨j, j1, rfl, hb, hu⟩ := hrel
    replace hu : Hid _ := hu
    by_cases hj : j < n
    · have cx0 := hcell.out j hj
      have hX := hok.out j hj
      generalize hXe : L.getD j default = X at cx0 hX
      replace hXe : Hid _ := hXe
      have hXl := hX.ln
      have hXm : X.l < 4611686018427387904 := by have := hX.lb; omega
      replace hX : Hid _ := hX
      replace hXl : Hid _ := hXl
      go_wp2_with fail
      go_loopw [5] (fun i wr => ∃ k : Nat, 1 ≤ k ∧ (k = 1 ∨ k ≤ X.l) ∧ i = .int .i64 k ∧ Below w.heap.size w wr ∧ ∀ t, t + 1 < k → X.z.getD t 0 < X.z.getD (t + 1) 0) (fun i _ => X.l + 1 - (intOf i).toNat)
      case atStart => exact ⟨1, by omega, .inl rfl, rfl, hb, by intro t ht; omega⟩
      case round =>
        obtain ⟨k, k1, k2, rfl, hb, hv⟩ := hrel
        replace hv : Hid _ := hv
        have cx := (hb.cell (World.block_lt_of_cell? _ _ cx0)).trans cx0
        by_cases hk : k < X.l
        · obtain ⟨b, off, ea, cy, cz⟩ := PathAt.two (PathAt.below hX.out.pt hb) (k - 1) k (by rw [hXl.out]; omega) (by rw [hXl.out]; omega)
          rw [ea] at cx
          have ek : ((k : Int) - 1) = ((k - 1 : Nat) : Int) := by omega
          generalize hy : X.z.getD (k - 1) 0 = y at cy
          generalize hz : X.z.getD k 0 = z at cz
          replace hy : Hid _ := hy
          replace hz : Hid _ := hz
          replace ea : Hid _ := ea
          by_cases hyz : y < z
          · have e1 : ¬ (z ≤ y) := by omega
            go_wp2_with fail
            go_quiet (fail)
            have hbq : Below w.heap.size w (wr.drewN nq) := below_drewN hb nq
            generalize wr.drewN nq = wq at hbq ⊢
            go_wp2_with fail
            refine ⟨⟨k + 1, by omega, .inr (by omega), by first | rfl | go_num | (congr 1; omega), hbq, fun t ht => ?_⟩, by simp [intOf]; omega⟩
            by_cases e : t + 1 = k
            · have : t = k - 1 := by omega
              rw [e, this, hy.out, hz.out]; exact hyz
            · exact hv.out t (by omega)
          · have e1 : z ≤ y := by omega
            have hE : metE L = 61 := metE_bad hne fun h => by
              have h1 := h j (by rw [hn.out]; exact hj)
              rw [hXe.out] at h1
              exact not_ris (i := k - 1) (by rw [hXl.out]; omega) (by rw [show k - 1 + 1 = k by omega, hy.out, hz.out]; exact e1) h1
            replace hE : Hid _ := hE
            go_wp2_with fail
            go_quiet (fail)
            have hbq : Below w.heap.size w (wr.drewN nq) := below_drewN hb nq
            generalize wr.drewN nq = wq at hbq ⊢
            go_wp2_with fail
            go_returns
            exact ⟨none, 0, [], by rw [hE.out]; rfl, .inl rfl, Nat.zero_le _, fun h => by rw [hE.out] at h; omega, fun _ => rfl, hbq⟩
        · have hris : Ris X.z := ris_of_next fun t ht => hv.out t (by rw [hXl.out] at ht; omega)
          replace hris : Hid _ := hris
          go_wp2_with fail
          refine ⟨⟨j + 1, by omega, by first | rfl | go_num | (congr 1; omega), hb, fun t ht => ?_⟩, by simp [intOf]; omega⟩
          rcases Nat.lt_succ_iff_lt_or_eq.1 ht with h | rfl
          · exact hu.out t h
          · rw [hXe.out]; exact hris.out
    · have hall : allRis L := fun t ht => hu.out t (by rw [hn.out] at ht; omega)
      have hE : metE L = 0 := metE_ok hne hall
      have cx0 := hcell.out 0 (by omega)
      have hX := hok.out 0 (by omega)
      have hXr := hall 0 (by rw [hn.out]; omega)
      have hnx := fun k hk => metD_next L k hk
      have hend := fun k hk => metD_end (L := L) (k := k) (by rw [hn.out]; omega) hXr hk
      generalize hXe : L.getD 0 default = X at cx0 hX hXr hnx hend
      have hXl := hX.ln
      have hXb := hX.lb
      replace hX : Hid _ := hX
      rw [hXl] at hnx hend
      replace hE : Hid _ := hE
      replace hnx : Hid _ := hnx
      replace hend : Hid _ := hend
      replace hXe : Hid _ := hXe
      replace hXl : Hid _ := hXl
      clear hu hall
      rw [Nat.add_zero] at cx0
      have hnI : (0 : Int) < (n : Int) := by omega
      go_wp2_with fail
      go_loopw [6, 7] (fun v6 v7 wr => ∃ k : Nat, k ≤ X.l ∧ v7 = .int .i64 k ∧ wr.ownsRow w.heap.size 3 1 v6 (metD L k).length (iv (metD L k)) ∧ Below w.heap.size w wr) (fun _ v7 _ => X.l - (intOf v7).toNat)
      case atStart => exact ⟨0, by omega, rfl, by rw [metD_zero]; exact World.ownsRow_nil _ _ _ _, hb⟩
      case round =>
        obtain ⟨k, k1, rfl, ho, hb⟩ := hrel
        obtain ⟨ma, mc, rfl⟩ := own_slice ho
        have cx := (hb.cell (World.block_lt_of_cell? _ _ cx0)).trans cx0
        have hml := metD_len L k
        by_cases hk : k < X.l
        · obtain ⟨b, off, ea, cz⟩ := PathAt.num (PathAt.below hX.out.pt hb) k (by rw [hXl.out]; omega)
          have hnk := hnx.out k hk
          generalize hz : X.z.getD k 0 = z at cz hnk
          rw [ea] at cx
          replace ea : Hid _ := ea
          replace hz : Hid _ := hz
          replace hnk : Hid _ := hnk
          replace ho : Hid _ := ho
          go_wp2_with fail
          go_loopw [8, 9] (fun v8 v9 wx => ∃ i : Nat, 1 ≤ i ∧ i ≤ n ∧ v9 = .int .i64 i ∧ v8 = .bool (upB L i z) ∧ Below wr.heap.size wr wx) (fun _ v9 _ => n - (intOf v9).toNat)
          case atStart => exact ⟨1, by omega, by omega, rfl, by rw [upB_one], Below.refl _ _⟩
          case round =>
            obtain ⟨i, i1, i2, rfl, rfl, hbx⟩ := hrel
            have cx2 := (hbx.cell (World.block_lt_of_cell? _ _ cx)).trans cx
            have cz2 := (hbx.cell (World.block_lt_of_cell? _ _ cz)).trans cz
            by_cases hi : i < n
            · cases hU : upB L i z with
              | true =>
                have cy0 := hcell.out i hi
                have hY := hok.out i hi
                have hun := upB_next L i (by rw [hn.out]; exact hi) i1 z
                rw [hU, Bool.true_and] at hun
                generalize L.getD i default = Y at cy0 hY hun
                have cy := ((below_on hb hbx).cell (World.block_lt_of_cell? _ _ cy0)).trans cy0
                have hH := fun w' (hb' : Below wr.heap.size wr w') => has_any Y.a Y.l Y.c Y.z z w' hY.ln (by have := hY.lb; unfold maxLen; omega) (hY.pt.below (below_on (below_on hb hbx) hb'))
                replace hH : Hid _ := hH
                replace hun : Hid _ := hun
                clear hU hY cy0 cx cz
                generalize hasB Y.z z = B at hH hun
                go_wp2_with fail
                go_quiet ((go_at_call 14; exact Calls.quiet_of_same (hH.out _ (below_drewN (Below.refl _ _) _))))
                have hbq := below_drewN hbx nq
                generalize wr.drewN nq = wq at hbq ⊢
                go_wp2_with fail
                exact ⟨⟨i + 1, by omega, by omega, by first | rfl | go_num | (congr 1; omega), by rw [hun.out], hbq⟩, by simp [intOf]; omega⟩
              | false =>
                have hR := upB_no hU
                replace hR : Hid _ := hR
                clear hU cx cz
                go_wp2_with fail
                refine ⟨⟨k + 1, by omega, by first | rfl | go_num | (congr 1; omega), ?_, below_on hb hbx⟩, by simp [intOf]; omega⟩
                rw [hnk.out, hR.out]
                simp only [Bool.false_eq_true, if_false, List.append_nil]
                exact own_below ho.out hbx

            · obtain rfl : i = n := by omega
              have hUa := upB_all L i (by rw [hn.out]; exact Nat.le_refl _) z
              cases hU : upB L i z with
              | true =>
                rw [hU] at hUa
                have hR : restB (zl L) z = true := hUa.symm
                replace hR : Hid _ := hR
                clear hU hUa cx cz
                go_wp2_with (at_builtin; refine wpList_append_own_at _ rfl _ _ 24 rfl w.heap.size 3 i0 (.int .i64 0) 1 8 Try.underlying24 hi0 hz0 hz1 hz2 rfl (by decide) _ _ _ rfl ((own_below ho.out hbx).alloc _) ⟨wr.heap.size, 0, none⟩ 1 1 [.int .i64 z] rfl rfl (cell_one_new _ _ _) (by simp [Value.oneCell']) (by unfold maxLen; omega) (by omega) (by have := (below_on hb hbx).size; simp; omega) ?_; intro v4 w4 ho4 hg4 hnil4 hloc4)
                have h4 : Below w.heap.size w w4 := grown_below ((below_on hb hbx).alloc (below_on hb hbx).size _) hg4 (fun k hk => ((own_below ho.out hbx).lt k hk).1) (Nat.le_refl _)
                refine ⟨⟨k + 1, by omega, by first | rfl | go_num | (congr 1; omega), ?_, h4⟩, by simp [intOf]; omega⟩
                rw [hnk.out, hR.out]
                simp only [if_true, List.length_append]
                simpa [iv] using ho4
              | false =>
                rw [hU] at hUa
                have hR : restB (zl L) z = false := hUa.symm
                replace hR : Hid _ := hR
                clear hU hUa cx cz
                go_wp2_with fail
                refine ⟨⟨k + 1, by omega, by first | rfl | go_num | (congr 1; omega), ?_, below_on hb hbx⟩, by simp [intOf]; omega⟩
                rw [hnk.out, hR.out]
                simp only [Bool.false_eq_true, if_false, List.append_nil]
                exact own_below ho.out hbx

        · obtain rfl : k = X.l := by omega
          have hM := hend.out X.l (Nat.le_refl _)
          replace hM : Hid _ := hM
          replace ho : Hid _ := ho
          go_wp2_with fail
          go_returns
          exact ⟨ma, mc, metD L X.l, by rw [hE.out]; rfl, own_path ho.out rfl, by rw [hXe.out]; exact hml, fun _ => hM.out, fun h => absurd hE.out h, hb⟩
end Go.Proofs.Ythdeifjnfcjaaaa
