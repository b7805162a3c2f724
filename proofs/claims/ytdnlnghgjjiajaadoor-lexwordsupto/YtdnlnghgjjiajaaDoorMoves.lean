/-
  LexMoves: its own walk.
-/
import Derived.Test.YtdnlnghgjjiajaaDoorMvp
import Derived.Deep.QuietTactic
import Derived.BigQuiet
namespace Go.Proofs.YtdnlnghgjjiajaaDoor
open Go.RowKit
set_option linter.unusedSimpArgs false
set_option linter.unusedVariables false

theorem belowN {B : Nat} {a w : World} (h : Below B a w) (n : Nat) : Below B a (w.drewN n) := ⟨h.os, h.tape, h.output, h.size, h.block⟩
set_option maxRecDepth 100000 in
set_option maxHeartbeats 4000000 in
theorem Moves_walk (s : ByteArray) (n : Int) (tab : Bool) (hs : s.size ≤ maxLen) (n0 : 0 ≤ n) (n1 : n ≤ 255) (w : World) (hT : Tabs w) :
    Calls Tryd.prog 4 #[.string s, .int .u8 n, .bool tab] w fun e w' => e = .returned (.bool true) ∧ Below w.heap.size w w' := by
  have hH := head_any w hT
  have hz : s.data.toList.length = s.size := Array.length_toList
  unfold maxLen at hs
  replace hH : Hid _ := hH
  by_cases hbig : s.size ≤ 4076
  · have hL1 := fun w hT => Lex_two s (by unfold maxLen; omega) w hT
    have hL2 := fun j hj b hb w hT => Lex_ahead s hbig j hj b hb w hT
    have hL3 := fun b hb w hT => Lex_behind s hbig b hb w hT
    have hgood := lex_good s.data.toList
    have hplace := lex_place s.data.toList
    have hnone := lex_none s.data.toList
    have hcnt := lex_count s.data.toList
    generalize lexL s.data.toList = X at *
    obtain ⟨A, a, f⟩ := X
    dsimp only at *
    have hgl := hgood.2
    rw [hz] at hgl hplace hcnt
    have hgp := hgood.1
    clear hgood hz
    replace hgl : Hid _ := hgl
    replace hgp : Hid _ := hgp
    replace hL1 : Hid _ := hL1
    replace hL2 : Hid _ := hL2
    replace hL3 : Hid _ := hL3
    go_enter Tryd.func4, Tryd.ntmps4
    cases tab
    · go_wp2_with (go_at_call 9; refine Calls.mono hH.out ?_; rintro e w1 ⟨rfl, hb1⟩)
      have hT1 := hT.below hb1
      go_loop [10, 11] (fun v10 v11 => ∃ j : Nat, (j : Int) ≤ n % 9 ∧ v10 = .string (txt (List.replicate j 32)) ∧ v11 = .int .i64 j) (fun _ v11 => 9 - (intOf v11).toNat)
      case atStart => exact ⟨0, by omega, rfl, rfl⟩
      case round =>
        obtain ⟨j, hj, rfl, rfl⟩ := hrel
        have hzr : (txt (List.replicate j 32)).size ≤ 9 := by
          rw [txt_size, List.length_replicate]
          omega
        by_cases hlt : (j : Int) < n % 9
        · have hnx := more_blanks j 32
          generalize txt (List.replicate j 32) = Y at *
          replace hnx : Hid _ := hnx
          go_wp2_with fail
          refine ⟨⟨j + 1, by omega, by rw [hnx.out], rfl⟩, by show 9 - ((j : Int) + 1).toNat < 9 - (j : Int).toNat; omega⟩
        · have hM2 := fun w hT => hL2.out j (by omega) 32 (by decide) w hT
          have hM3 := fun w hT => hL3.out 32 (by decide) w hT
          clear hL2 hL3
          generalize txt (List.replicate j 32) = Y at *
          have hnj : n % 9 = j := by omega
          replace hM2 : Hid _ := hM2
          replace hM3 : Hid _ := hM3
          by_cases hf : f = 0
          · subst hf
            rw [if_pos (rfl : (0 : Int) = 0)] at hM2
            clear hnone
            go_wp2_with (first
              | (have hq := hM3.out _ (hT1.below (below_on hb3 hb4)); (go_at_call 10); refine Calls.mono hq ?_; clear hq; rintro e w5 ⟨⟨p5, n5, cap5, a5, f5, rfl, h5⟩, hb5⟩; (obtain ⟨rfl, rfl, hc5⟩ := h5 (by first | trivial | rfl)); replace hc5 : Hid _ := hc5)
              | (have hq := hM2.out _ (hT1.below hb3); (go_at_call 10); refine Calls.mono hq ?_; clear hq; rintro e w4 ⟨p4, cap4, rfl, hc4, hb4⟩; replace hc4 : Hid _ := hc4)
              | (have hq := hL1.out _ hT1; (go_at_call 10); refine Calls.mono hq ?_; clear hq; rintro e w3 ⟨p3, cap3, rfl, hc3, hb3⟩; replace hc3 : Hid _ := hc3))
            go_loopw [21] (fun v wr => ∃ i : Nat, i ≤ A.length ∧ v = .int .i64 i ∧ Below w5.heap.size w5 wr) (fun v _ => A.length - (intOf v).toNat)
            case atStart => exact ⟨0, by omega, rfl, Below.refl _ _⟩
            case round =>
              obtain ⟨i, hi, rfl, hb6⟩ := hrel
              have hbb := below_on (below_on (below_on hb1 hb3) hb4) hb5
              have hd3 := Tks2.below (Tks2.below (Tks2.below (p := p3) (L := A) hc3.out hb4) hb5) hb6
              have hd4 := Tks2.below (Tks2.below (p := p4) (L := A.map (mvK j)) hc4.out hb5) hb6
              have hd5 := Tks2.below (p := p5) (L := A) hc5.out hb6
              clear hc3 hc4 hc5
              by_cases hlt2 : i < A.length
              · have hne : A ≠ [] := fun e => by rw [e] at hlt2; simp at hlt2
                rcases hd3 with h | ⟨g3, rfl, hd3⟩
                · exact absurd h hne
                rcases hd4 with h | ⟨g4, rfl, hd4⟩
                · exact absurd (List.map_eq_nil_iff.1 h) hne
                rcases hd5 with h | ⟨g5, rfl, hd5⟩
                · exact absurd h hne
                obtain ⟨x0, x1, x2, x3⟩ := hd3 i hlt2
                obtain ⟨z0, z1, z2, z3⟩ := hd5 i hlt2
                obtain ⟨y0, y1, y2, y3⟩ := hd4 i (by rw [List.length_map]; exact hlt2)
                have hmv : (A.map (mvK j)).getD i default = mvK j (A.getD i default) := by
                  simp [List.getD, hlt2]
                rw [hmv] at y0 y1 y2 y3
                dsimp only [mvK] at y0 y1 y2 y3
                have hx : (A.getD i default).at' < s.size := hgl.out _ (by rw [show A.getD i default = A[i] by simp [List.getD, hlt2]]; exact List.getElem_mem _)
                have hprev : 0 < i → (A.getD (i - 1) default).at' < (A.getD i default).at' := fun h0 => by
                  have := List.pairwise_iff_getElem.1 hgp.out (i - 1) i (by omega) hlt2 (by omega)
                  rw [show A.getD i default = A[i] by simp [List.getD, hlt2], show A.getD (i - 1) default = A[i - 1]'(by omega) by rw [List.getD, List.getElem?_eq_getElem (by omega)]; rfl]
                  exact this
                by_cases hi0 : 0 < i
                · obtain ⟨p, hpi⟩ : ∃ p, i - 1 = p := ⟨_, rfl⟩
                  rw [hpi] at hprev
                  have hprev2 := hprev hi0
                  clear hprev
                  have hp3 := (hd3 p (by omega)).2.2.2
                  have ek : ((i : Int) - 1) = (p : Int) := by omega
                  have hpl : p < A.length := by omega
                  generalize (A.getD p default).at' = q' at *
                  generalize A.getD i default = x at *
                  obtain ⟨xk, xt, xn, xa⟩ := x
                  dsimp only at x0 x1 x2 x3 y0 y1 y2 y3 z0 z1 z2 z3 hx hprev2
                  have hnn : decide ((xa : Int) < 0) = false := by simp
                  clear hd3 hd4 hd5
                  go_wp2_with fail
                  have hbx := BoxAt.new wr xk (txt xt) xn xa rfl
                  have hbl : Below wr.heap.size wr (wr.alloc (.cells #[.int .i64 xk, .string (txt xt), .int .i64 xn, .int .i64 (xa : Int)] 32)) := (Below.refl _ _).alloc (Nat.le_refl _) _
                  replace x0 := (hbl.cell (World.block_lt_of_cell? _ _ x0)).trans x0
                  replace x1 := (hbl.cell (World.block_lt_of_cell? _ _ x1)).trans x1
                  replace x2 := (hbl.cell (World.block_lt_of_cell? _ _ x2)).trans x2
                  replace x3 := (hbl.cell (World.block_lt_of_cell? _ _ x3)).trans x3
                  replace z0 := (hbl.cell (World.block_lt_of_cell? _ _ z0)).trans z0
                  replace z1 := (hbl.cell (World.block_lt_of_cell? _ _ z1)).trans z1
                  replace z2 := (hbl.cell (World.block_lt_of_cell? _ _ z2)).trans z2
                  replace z3 := (hbl.cell (World.block_lt_of_cell? _ _ z3)).trans z3
                  have hg4 : g4 < wr.heap.size := World.block_lt_of_cell? _ _ y0
                  replace y0 := (hbl.cell (World.block_lt_of_cell? _ _ y0)).trans y0
                  replace y1 := (hbl.cell (World.block_lt_of_cell? _ _ y1)).trans y1
                  replace y2 := (hbl.cell (World.block_lt_of_cell? _ _ y2)).trans y2
                  replace y3 := (hbl.cell (World.block_lt_of_cell? _ _ y3)).trans y3
                  have hbW := below_on hb6 hbl
                  have hge := hb6.size
                  replace hp3 := (hbl.cell (World.block_lt_of_cell? _ _ hp3)).trans hp3
                  generalize wr.alloc (.cells #[.int .i64 xk, .string (txt xt), .int .i64 xn, .int .i64 (xa : Int)] 32) = W1 at *
                  generalize wr.heap.size = bx at *
                  have hbx2 := hbx
                  replace hbx2 : Hid _ := hbx2
                  obtain ⟨c0, c1, c2, c3, hfr⟩ := hbx
                  clear hbl hb6
                  have hge1 : decide (xa ≤ q') = false := by simp; omega
                  have hge2 : decide (s.size ≤ xa) = false := by simp; omega
                  go_quiet (fail)
                  have hq1 := belowN (Below.refl W1.heap.size W1) nq
                  clear c0 c1 c2 c3 hfr x0 x1 x2 x3 z0 z1 z2 z3
                  replace hbx2 := BoxAt.below hbx2.out hq1
                  replace y0 := (hq1.cell (World.block_lt_of_cell? _ _ y0)).trans y0
                  replace y1 := (hq1.cell (World.block_lt_of_cell? _ _ y1)).trans y1
                  replace y2 := (hq1.cell (World.block_lt_of_cell? _ _ y2)).trans y2
                  replace y3 := (hq1.cell (World.block_lt_of_cell? _ _ y3)).trans y3
                  rw [Int.natCast_add] at y3
                  replace hbW := below_on hbW hq1
                  clear hq1
                  generalize W1.drewN nq = W2 at *
                  obtain ⟨c0, c1, c2, c3, hfr⟩ := hbx2
                  have hng : ¬ bx = g4 := by omega
                  go_wp2_with fail
                  have hbW3 := hbW.setCell (p := ⟨bx, 3, none⟩) (Nat.le_trans hge (Nat.le_refl _)) (.int .i64 ((xa : Int) + (j : Int)))
                  replace c3 := World.cell?_setCell_same W2 ⟨bx, 3, none⟩ (.int .i64 ((xa : Int) + (j : Int))) c3
                  replace c0 := (World.cell?_setCell_other W2 ⟨bx, 3, none⟩ ⟨bx, 0, none⟩ (.int .i64 ((xa : Int) + (j : Int))) (by simp)).trans c0
                  replace c1 := (World.cell?_setCell_other W2 ⟨bx, 3, none⟩ ⟨bx, 1, none⟩ (.int .i64 ((xa : Int) + (j : Int))) (by simp)).trans c1
                  replace c2 := (World.cell?_setCell_other W2 ⟨bx, 3, none⟩ ⟨bx, 2, none⟩ (.int .i64 ((xa : Int) + (j : Int))) (by simp)).trans c2
                  replace y0 := (World.cell?_setCell_other W2 ⟨bx, 3, none⟩ _ (.int .i64 ((xa : Int) + (j : Int))) (by simp [hng, Ne.symm hng])).trans y0
                  replace y1 := (World.cell?_setCell_other W2 ⟨bx, 3, none⟩ _ (.int .i64 ((xa : Int) + (j : Int))) (by simp [hng, Ne.symm hng])).trans y1
                  replace y2 := (World.cell?_setCell_other W2 ⟨bx, 3, none⟩ _ (.int .i64 ((xa : Int) + (j : Int))) (by simp [hng, Ne.symm hng])).trans y2
                  replace y3 := (World.cell?_setCell_other W2 ⟨bx, 3, none⟩ _ (.int .i64 ((xa : Int) + (j : Int))) (by simp [hng, Ne.symm hng])).trans y3
                  clear hfr
                  generalize W2.setCell ⟨bx, 3, none⟩ (.int .i64 ((xa : Int) + (j : Int))) = W3 at *
                  go_quiet (fail)
                  have hq2 := belowN (Below.refl W3.heap.size W3) nq
                  have hbW4 := below_on hbW3 hq2
                  generalize W3.drewN nq = W4 at *
                  go_wp2_with fail
                  exact ⟨⟨i + 1, by omega, rfl, hbW4⟩, by show A.length - ((i : Int) + 1).toNat < A.length - (i : Int).toNat; omega⟩
                · obtain rfl : i = 0 := by omega
                  generalize A.getD 0 default = x at *
                  obtain ⟨xk, xt, xn, xa⟩ := x
                  dsimp only at x0 x1 x2 x3 y0 y1 y2 y3 z0 z1 z2 z3 hx
                  have hnn : decide ((xa : Int) < 0) = false := by simp
                  clear hd3 hd4 hd5 hprev
                  go_wp2_with fail
                  have hbx := BoxAt.new wr xk (txt xt) xn xa rfl
                  have hbl : Below wr.heap.size wr (wr.alloc (.cells #[.int .i64 xk, .string (txt xt), .int .i64 xn, .int .i64 (xa : Int)] 32)) := (Below.refl _ _).alloc (Nat.le_refl _) _
                  replace x0 := (hbl.cell (World.block_lt_of_cell? _ _ x0)).trans x0
                  replace x1 := (hbl.cell (World.block_lt_of_cell? _ _ x1)).trans x1
                  replace x2 := (hbl.cell (World.block_lt_of_cell? _ _ x2)).trans x2
                  replace x3 := (hbl.cell (World.block_lt_of_cell? _ _ x3)).trans x3
                  replace z0 := (hbl.cell (World.block_lt_of_cell? _ _ z0)).trans z0
                  replace z1 := (hbl.cell (World.block_lt_of_cell? _ _ z1)).trans z1
                  replace z2 := (hbl.cell (World.block_lt_of_cell? _ _ z2)).trans z2
                  replace z3 := (hbl.cell (World.block_lt_of_cell? _ _ z3)).trans z3
                  have hg4 : g4 < wr.heap.size := World.block_lt_of_cell? _ _ y0
                  replace y0 := (hbl.cell (World.block_lt_of_cell? _ _ y0)).trans y0
                  replace y1 := (hbl.cell (World.block_lt_of_cell? _ _ y1)).trans y1
                  replace y2 := (hbl.cell (World.block_lt_of_cell? _ _ y2)).trans y2
                  replace y3 := (hbl.cell (World.block_lt_of_cell? _ _ y3)).trans y3
                  have hbW := below_on hb6 hbl
                  have hge := hb6.size
                  generalize wr.alloc (.cells #[.int .i64 xk, .string (txt xt), .int .i64 xn, .int .i64 (xa : Int)] 32) = W1 at *
                  generalize wr.heap.size = bx at *
                  have hbx2 := hbx
                  replace hbx2 : Hid _ := hbx2
                  obtain ⟨c0, c1, c2, c3, hfr⟩ := hbx
                  clear hbl hb6
                  have hge2 : decide (s.size ≤ xa) = false := by simp; omega
                  go_quiet (fail)
                  have hq1 := belowN (Below.refl W1.heap.size W1) nq
                  clear c0 c1 c2 c3 hfr x0 x1 x2 x3 z0 z1 z2 z3
                  replace hbx2 := BoxAt.below hbx2.out hq1
                  replace y0 := (hq1.cell (World.block_lt_of_cell? _ _ y0)).trans y0
                  replace y1 := (hq1.cell (World.block_lt_of_cell? _ _ y1)).trans y1
                  replace y2 := (hq1.cell (World.block_lt_of_cell? _ _ y2)).trans y2
                  replace y3 := (hq1.cell (World.block_lt_of_cell? _ _ y3)).trans y3
                  rw [Int.natCast_add] at y3
                  replace hbW := below_on hbW hq1
                  clear hq1
                  generalize W1.drewN nq = W2 at *
                  obtain ⟨c0, c1, c2, c3, hfr⟩ := hbx2
                  have hng : ¬ bx = g4 := by omega
                  go_wp2_with fail
                  have hbW3 := hbW.setCell (p := ⟨bx, 3, none⟩) (Nat.le_trans hge (Nat.le_refl _)) (.int .i64 ((xa : Int) + (j : Int)))
                  replace c3 := World.cell?_setCell_same W2 ⟨bx, 3, none⟩ (.int .i64 ((xa : Int) + (j : Int))) c3
                  replace c0 := (World.cell?_setCell_other W2 ⟨bx, 3, none⟩ ⟨bx, 0, none⟩ (.int .i64 ((xa : Int) + (j : Int))) (by simp)).trans c0
                  replace c1 := (World.cell?_setCell_other W2 ⟨bx, 3, none⟩ ⟨bx, 1, none⟩ (.int .i64 ((xa : Int) + (j : Int))) (by simp)).trans c1
                  replace c2 := (World.cell?_setCell_other W2 ⟨bx, 3, none⟩ ⟨bx, 2, none⟩ (.int .i64 ((xa : Int) + (j : Int))) (by simp)).trans c2
                  replace y0 := (World.cell?_setCell_other W2 ⟨bx, 3, none⟩ _ (.int .i64 ((xa : Int) + (j : Int))) (by simp [hng, Ne.symm hng])).trans y0
                  replace y1 := (World.cell?_setCell_other W2 ⟨bx, 3, none⟩ _ (.int .i64 ((xa : Int) + (j : Int))) (by simp [hng, Ne.symm hng])).trans y1
                  replace y2 := (World.cell?_setCell_other W2 ⟨bx, 3, none⟩ _ (.int .i64 ((xa : Int) + (j : Int))) (by simp [hng, Ne.symm hng])).trans y2
                  replace y3 := (World.cell?_setCell_other W2 ⟨bx, 3, none⟩ _ (.int .i64 ((xa : Int) + (j : Int))) (by simp [hng, Ne.symm hng])).trans y3
                  clear hfr
                  generalize W2.setCell ⟨bx, 3, none⟩ (.int .i64 ((xa : Int) + (j : Int))) = W3 at *
                  go_quiet (fail)
                  have hq2 := belowN (Below.refl W3.heap.size W3) nq
                  have hbW4 := below_on hbW3 hq2
                  generalize W3.drewN nq = W4 at *
                  go_wp2_with fail
                  exact ⟨⟨1, by omega, rfl, hbW4⟩, by show A.length - (1 : Int).toNat < A.length - (0 : Int).toNat; omega⟩
              · clear hd3 hd4 hd5
                go_wp2_with fail
                go_returns
                exact ⟨rfl, below_on hbb hb6⟩
          · have hA : A = [] := hnone hf
            subst hA
            rw [if_neg hf] at hM2
            clear hgl hgp hnone
            go_wp2_with (first
              | (have hq := hM3.out _ (hT1.below (below_on hb3 hb4)); (go_at_call 10); refine Calls.mono hq ?_; clear hq; rintro e w5 ⟨⟨p5, n5, cap5, a5, f5, rfl, _⟩, hb5⟩)
              | (have hq := hM2.out _ (hT1.below hb3); (go_at_call 10); refine Calls.mono hq ?_; clear hq; rintro e w4 ⟨p4, cap4, rfl, _, hb4⟩)
              | (have hq := hL1.out _ hT1; (go_at_call 10); refine Calls.mono hq ?_; clear hq; rintro e w3 ⟨p3, cap3, rfl, _, hb3⟩))
            go_loopw [21] (fun v wr => v = .int .i64 0 ∧ wr = w5) (fun _ _ => 0)
            case atStart => exact ⟨rfl, rfl⟩
            case round =>
              obtain ⟨rfl, rfl⟩ := hrel
              go_wp2_with fail
              go_returns
              exact ⟨rfl, below_on (below_on (below_on hb1 hb3) hb4) hb5⟩
    · go_wp2_with (go_at_call 9; refine Calls.mono hH.out ?_; rintro e w1 ⟨rfl, hb1⟩)
      have hT1 := hT.below hb1
      go_loop [10, 11] (fun v10 v11 => ∃ j : Nat, (j : Int) ≤ n % 9 ∧ v10 = .string (txt (List.replicate j 9)) ∧ v11 = .int .i64 j) (fun _ v11 => 9 - (intOf v11).toNat)
      case atStart => exact ⟨0, by omega, rfl, rfl⟩
      case round =>
        obtain ⟨j, hj, rfl, rfl⟩ := hrel
        have hzr : (txt (List.replicate j 9)).size ≤ 9 := by
          rw [txt_size, List.length_replicate]
          omega
        by_cases hlt : (j : Int) < n % 9
        · have hnx := more_blanks j 9
          generalize txt (List.replicate j 9) = Y at *
          replace hnx : Hid _ := hnx
          go_wp2_with fail
          refine ⟨⟨j + 1, by omega, by rw [hnx.out], rfl⟩, by show 9 - ((j : Int) + 1).toNat < 9 - (j : Int).toNat; omega⟩
        · have hM2 := fun w hT => hL2.out j (by omega) 9 (by decide) w hT
          have hM3 := fun w hT => hL3.out 9 (by decide) w hT
          clear hL2 hL3
          generalize txt (List.replicate j 9) = Y at *
          have hnj : n % 9 = j := by omega
          replace hM2 : Hid _ := hM2
          replace hM3 : Hid _ := hM3
          by_cases hf : f = 0
          · subst hf
            rw [if_pos (rfl : (0 : Int) = 0)] at hM2
            clear hnone
            go_wp2_with (first
              | (have hq := hM3.out _ (hT1.below (below_on hb3 hb4)); (go_at_call 10); refine Calls.mono hq ?_; clear hq; rintro e w5 ⟨⟨p5, n5, cap5, a5, f5, rfl, h5⟩, hb5⟩; (obtain ⟨rfl, rfl, hc5⟩ := h5 (by first | trivial | rfl)); replace hc5 : Hid _ := hc5)
              | (have hq := hM2.out _ (hT1.below hb3); (go_at_call 10); refine Calls.mono hq ?_; clear hq; rintro e w4 ⟨p4, cap4, rfl, hc4, hb4⟩; replace hc4 : Hid _ := hc4)
              | (have hq := hL1.out _ hT1; (go_at_call 10); refine Calls.mono hq ?_; clear hq; rintro e w3 ⟨p3, cap3, rfl, hc3, hb3⟩; replace hc3 : Hid _ := hc3))
            go_loopw [21] (fun v wr => ∃ i : Nat, i ≤ A.length ∧ v = .int .i64 i ∧ Below w5.heap.size w5 wr) (fun v _ => A.length - (intOf v).toNat)
            case atStart => exact ⟨0, by omega, rfl, Below.refl _ _⟩
            case round =>
              obtain ⟨i, hi, rfl, hb6⟩ := hrel
              have hbb := below_on (below_on (below_on hb1 hb3) hb4) hb5
              have hd3 := Tks2.below (Tks2.below (Tks2.below (p := p3) (L := A) hc3.out hb4) hb5) hb6
              have hd4 := Tks2.below (Tks2.below (p := p4) (L := A.map (mvK j)) hc4.out hb5) hb6
              have hd5 := Tks2.below (p := p5) (L := A) hc5.out hb6
              clear hc3 hc4 hc5
              by_cases hlt2 : i < A.length
              · have hne : A ≠ [] := fun e => by rw [e] at hlt2; simp at hlt2
                rcases hd3 with h | ⟨g3, rfl, hd3⟩
                · exact absurd h hne
                rcases hd4 with h | ⟨g4, rfl, hd4⟩
                · exact absurd (List.map_eq_nil_iff.1 h) hne
                rcases hd5 with h | ⟨g5, rfl, hd5⟩
                · exact absurd h hne
                obtain ⟨x0, x1, x2, x3⟩ := hd3 i hlt2
                obtain ⟨z0, z1, z2, z3⟩ := hd5 i hlt2
                obtain ⟨y0, y1, y2, y3⟩ := hd4 i (by rw [List.length_map]; exact hlt2)
                have hmv : (A.map (mvK j)).getD i default = mvK j (A.getD i default) := by
                  simp [List.getD, hlt2]
                rw [hmv] at y0 y1 y2 y3
                dsimp only [mvK] at y0 y1 y2 y3
                have hx : (A.getD i default).at' < s.size := hgl.out _ (by rw [show A.getD i default = A[i] by simp [List.getD, hlt2]]; exact List.getElem_mem _)
                have hprev : 0 < i → (A.getD (i - 1) default).at' < (A.getD i default).at' := fun h0 => by
                  have := List.pairwise_iff_getElem.1 hgp.out (i - 1) i (by omega) hlt2 (by omega)
                  rw [show A.getD i default = A[i] by simp [List.getD, hlt2], show A.getD (i - 1) default = A[i - 1]'(by omega) by rw [List.getD, List.getElem?_eq_getElem (by omega)]; rfl]
                  exact this
                by_cases hi0 : 0 < i
                · obtain ⟨p, hpi⟩ : ∃ p, i - 1 = p := ⟨_, rfl⟩
                  rw [hpi] at hprev
                  have hprev2 := hprev hi0
                  clear hprev
                  have hp3 := (hd3 p (by omega)).2.2.2
                  have ek : ((i : Int) - 1) = (p : Int) := by omega
                  have hpl : p < A.length := by omega
                  generalize (A.getD p default).at' = q' at *
                  generalize A.getD i default = x at *
                  obtain ⟨xk, xt, xn, xa⟩ := x
                  dsimp only at x0 x1 x2 x3 y0 y1 y2 y3 z0 z1 z2 z3 hx hprev2
                  have hnn : decide ((xa : Int) < 0) = false := by simp
                  clear hd3 hd4 hd5
                  go_wp2_with fail
                  have hbx := BoxAt.new wr xk (txt xt) xn xa rfl
                  have hbl : Below wr.heap.size wr (wr.alloc (.cells #[.int .i64 xk, .string (txt xt), .int .i64 xn, .int .i64 (xa : Int)] 32)) := (Below.refl _ _).alloc (Nat.le_refl _) _
                  replace x0 := (hbl.cell (World.block_lt_of_cell? _ _ x0)).trans x0
                  replace x1 := (hbl.cell (World.block_lt_of_cell? _ _ x1)).trans x1
                  replace x2 := (hbl.cell (World.block_lt_of_cell? _ _ x2)).trans x2
                  replace x3 := (hbl.cell (World.block_lt_of_cell? _ _ x3)).trans x3
                  replace z0 := (hbl.cell (World.block_lt_of_cell? _ _ z0)).trans z0
                  replace z1 := (hbl.cell (World.block_lt_of_cell? _ _ z1)).trans z1
                  replace z2 := (hbl.cell (World.block_lt_of_cell? _ _ z2)).trans z2
                  replace z3 := (hbl.cell (World.block_lt_of_cell? _ _ z3)).trans z3
                  have hg4 : g4 < wr.heap.size := World.block_lt_of_cell? _ _ y0
                  replace y0 := (hbl.cell (World.block_lt_of_cell? _ _ y0)).trans y0
                  replace y1 := (hbl.cell (World.block_lt_of_cell? _ _ y1)).trans y1
                  replace y2 := (hbl.cell (World.block_lt_of_cell? _ _ y2)).trans y2
                  replace y3 := (hbl.cell (World.block_lt_of_cell? _ _ y3)).trans y3
                  have hbW := below_on hb6 hbl
                  have hge := hb6.size
                  replace hp3 := (hbl.cell (World.block_lt_of_cell? _ _ hp3)).trans hp3
                  generalize wr.alloc (.cells #[.int .i64 xk, .string (txt xt), .int .i64 xn, .int .i64 (xa : Int)] 32) = W1 at *
                  generalize wr.heap.size = bx at *
                  have hbx2 := hbx
                  replace hbx2 : Hid _ := hbx2
                  obtain ⟨c0, c1, c2, c3, hfr⟩ := hbx
                  clear hbl hb6
                  have hge1 : decide (xa ≤ q') = false := by simp; omega
                  have hge2 : decide (s.size ≤ xa) = false := by simp; omega
                  go_quiet (fail)
                  have hq1 := belowN (Below.refl W1.heap.size W1) nq
                  clear c0 c1 c2 c3 hfr x0 x1 x2 x3 z0 z1 z2 z3
                  replace hbx2 := BoxAt.below hbx2.out hq1
                  replace y0 := (hq1.cell (World.block_lt_of_cell? _ _ y0)).trans y0
                  replace y1 := (hq1.cell (World.block_lt_of_cell? _ _ y1)).trans y1
                  replace y2 := (hq1.cell (World.block_lt_of_cell? _ _ y2)).trans y2
                  replace y3 := (hq1.cell (World.block_lt_of_cell? _ _ y3)).trans y3
                  rw [Int.natCast_add] at y3
                  replace hbW := below_on hbW hq1
                  clear hq1
                  generalize W1.drewN nq = W2 at *
                  obtain ⟨c0, c1, c2, c3, hfr⟩ := hbx2
                  have hng : ¬ bx = g4 := by omega
                  go_wp2_with fail
                  have hbW3 := hbW.setCell (p := ⟨bx, 3, none⟩) (Nat.le_trans hge (Nat.le_refl _)) (.int .i64 ((xa : Int) + (j : Int)))
                  replace c3 := World.cell?_setCell_same W2 ⟨bx, 3, none⟩ (.int .i64 ((xa : Int) + (j : Int))) c3
                  replace c0 := (World.cell?_setCell_other W2 ⟨bx, 3, none⟩ ⟨bx, 0, none⟩ (.int .i64 ((xa : Int) + (j : Int))) (by simp)).trans c0
                  replace c1 := (World.cell?_setCell_other W2 ⟨bx, 3, none⟩ ⟨bx, 1, none⟩ (.int .i64 ((xa : Int) + (j : Int))) (by simp)).trans c1
                  replace c2 := (World.cell?_setCell_other W2 ⟨bx, 3, none⟩ ⟨bx, 2, none⟩ (.int .i64 ((xa : Int) + (j : Int))) (by simp)).trans c2
                  replace y0 := (World.cell?_setCell_other W2 ⟨bx, 3, none⟩ _ (.int .i64 ((xa : Int) + (j : Int))) (by simp [hng, Ne.symm hng])).trans y0
                  replace y1 := (World.cell?_setCell_other W2 ⟨bx, 3, none⟩ _ (.int .i64 ((xa : Int) + (j : Int))) (by simp [hng, Ne.symm hng])).trans y1
                  replace y2 := (World.cell?_setCell_other W2 ⟨bx, 3, none⟩ _ (.int .i64 ((xa : Int) + (j : Int))) (by simp [hng, Ne.symm hng])).trans y2
                  replace y3 := (World.cell?_setCell_other W2 ⟨bx, 3, none⟩ _ (.int .i64 ((xa : Int) + (j : Int))) (by simp [hng, Ne.symm hng])).trans y3
                  clear hfr
                  generalize W2.setCell ⟨bx, 3, none⟩ (.int .i64 ((xa : Int) + (j : Int))) = W3 at *
                  go_quiet (fail)
                  have hq2 := belowN (Below.refl W3.heap.size W3) nq
                  have hbW4 := below_on hbW3 hq2
                  generalize W3.drewN nq = W4 at *
                  go_wp2_with fail
                  exact ⟨⟨i + 1, by omega, rfl, hbW4⟩, by show A.length - ((i : Int) + 1).toNat < A.length - (i : Int).toNat; omega⟩
                · obtain rfl : i = 0 := by omega
                  generalize A.getD 0 default = x at *
                  obtain ⟨xk, xt, xn, xa⟩ := x
                  dsimp only at x0 x1 x2 x3 y0 y1 y2 y3 z0 z1 z2 z3 hx
                  have hnn : decide ((xa : Int) < 0) = false := by simp
                  clear hd3 hd4 hd5 hprev
                  go_wp2_with fail
                  have hbx := BoxAt.new wr xk (txt xt) xn xa rfl
                  have hbl : Below wr.heap.size wr (wr.alloc (.cells #[.int .i64 xk, .string (txt xt), .int .i64 xn, .int .i64 (xa : Int)] 32)) := (Below.refl _ _).alloc (Nat.le_refl _) _
                  replace x0 := (hbl.cell (World.block_lt_of_cell? _ _ x0)).trans x0
                  replace x1 := (hbl.cell (World.block_lt_of_cell? _ _ x1)).trans x1
                  replace x2 := (hbl.cell (World.block_lt_of_cell? _ _ x2)).trans x2
                  replace x3 := (hbl.cell (World.block_lt_of_cell? _ _ x3)).trans x3
                  replace z0 := (hbl.cell (World.block_lt_of_cell? _ _ z0)).trans z0
                  replace z1 := (hbl.cell (World.block_lt_of_cell? _ _ z1)).trans z1
                  replace z2 := (hbl.cell (World.block_lt_of_cell? _ _ z2)).trans z2
                  replace z3 := (hbl.cell (World.block_lt_of_cell? _ _ z3)).trans z3
                  have hg4 : g4 < wr.heap.size := World.block_lt_of_cell? _ _ y0
                  replace y0 := (hbl.cell (World.block_lt_of_cell? _ _ y0)).trans y0
                  replace y1 := (hbl.cell (World.block_lt_of_cell? _ _ y1)).trans y1
                  replace y2 := (hbl.cell (World.block_lt_of_cell? _ _ y2)).trans y2
                  replace y3 := (hbl.cell (World.block_lt_of_cell? _ _ y3)).trans y3
                  have hbW := below_on hb6 hbl
                  have hge := hb6.size
                  generalize wr.alloc (.cells #[.int .i64 xk, .string (txt xt), .int .i64 xn, .int .i64 (xa : Int)] 32) = W1 at *
                  generalize wr.heap.size = bx at *
                  have hbx2 := hbx
                  replace hbx2 : Hid _ := hbx2
                  obtain ⟨c0, c1, c2, c3, hfr⟩ := hbx
                  clear hbl hb6
                  have hge2 : decide (s.size ≤ xa) = false := by simp; omega
                  go_quiet (fail)
                  have hq1 := belowN (Below.refl W1.heap.size W1) nq
                  clear c0 c1 c2 c3 hfr x0 x1 x2 x3 z0 z1 z2 z3
                  replace hbx2 := BoxAt.below hbx2.out hq1
                  replace y0 := (hq1.cell (World.block_lt_of_cell? _ _ y0)).trans y0
                  replace y1 := (hq1.cell (World.block_lt_of_cell? _ _ y1)).trans y1
                  replace y2 := (hq1.cell (World.block_lt_of_cell? _ _ y2)).trans y2
                  replace y3 := (hq1.cell (World.block_lt_of_cell? _ _ y3)).trans y3
                  rw [Int.natCast_add] at y3
                  replace hbW := below_on hbW hq1
                  clear hq1
                  generalize W1.drewN nq = W2 at *
                  obtain ⟨c0, c1, c2, c3, hfr⟩ := hbx2
                  have hng : ¬ bx = g4 := by omega
                  go_wp2_with fail
                  have hbW3 := hbW.setCell (p := ⟨bx, 3, none⟩) (Nat.le_trans hge (Nat.le_refl _)) (.int .i64 ((xa : Int) + (j : Int)))
                  replace c3 := World.cell?_setCell_same W2 ⟨bx, 3, none⟩ (.int .i64 ((xa : Int) + (j : Int))) c3
                  replace c0 := (World.cell?_setCell_other W2 ⟨bx, 3, none⟩ ⟨bx, 0, none⟩ (.int .i64 ((xa : Int) + (j : Int))) (by simp)).trans c0
                  replace c1 := (World.cell?_setCell_other W2 ⟨bx, 3, none⟩ ⟨bx, 1, none⟩ (.int .i64 ((xa : Int) + (j : Int))) (by simp)).trans c1
                  replace c2 := (World.cell?_setCell_other W2 ⟨bx, 3, none⟩ ⟨bx, 2, none⟩ (.int .i64 ((xa : Int) + (j : Int))) (by simp)).trans c2
                  replace y0 := (World.cell?_setCell_other W2 ⟨bx, 3, none⟩ _ (.int .i64 ((xa : Int) + (j : Int))) (by simp [hng, Ne.symm hng])).trans y0
                  replace y1 := (World.cell?_setCell_other W2 ⟨bx, 3, none⟩ _ (.int .i64 ((xa : Int) + (j : Int))) (by simp [hng, Ne.symm hng])).trans y1
                  replace y2 := (World.cell?_setCell_other W2 ⟨bx, 3, none⟩ _ (.int .i64 ((xa : Int) + (j : Int))) (by simp [hng, Ne.symm hng])).trans y2
                  replace y3 := (World.cell?_setCell_other W2 ⟨bx, 3, none⟩ _ (.int .i64 ((xa : Int) + (j : Int))) (by simp [hng, Ne.symm hng])).trans y3
                  clear hfr
                  generalize W2.setCell ⟨bx, 3, none⟩ (.int .i64 ((xa : Int) + (j : Int))) = W3 at *
                  go_quiet (fail)
                  have hq2 := belowN (Below.refl W3.heap.size W3) nq
                  have hbW4 := below_on hbW3 hq2
                  generalize W3.drewN nq = W4 at *
                  go_wp2_with fail
                  exact ⟨⟨1, by omega, rfl, hbW4⟩, by show A.length - (1 : Int).toNat < A.length - (0 : Int).toNat; omega⟩
              · clear hd3 hd4 hd5
                go_wp2_with fail
                go_returns
                exact ⟨rfl, below_on hbb hb6⟩
          · have hA : A = [] := hnone hf
            subst hA
            rw [if_neg hf] at hM2
            clear hgl hgp hnone
            go_wp2_with (first
              | (have hq := hM3.out _ (hT1.below (below_on hb3 hb4)); (go_at_call 10); refine Calls.mono hq ?_; clear hq; rintro e w5 ⟨⟨p5, n5, cap5, a5, f5, rfl, _⟩, hb5⟩)
              | (have hq := hM2.out _ (hT1.below hb3); (go_at_call 10); refine Calls.mono hq ?_; clear hq; rintro e w4 ⟨p4, cap4, rfl, _, hb4⟩)
              | (have hq := hL1.out _ hT1; (go_at_call 10); refine Calls.mono hq ?_; clear hq; rintro e w3 ⟨p3, cap3, rfl, _, hb3⟩))
            go_loopw [21] (fun v wr => v = .int .i64 0 ∧ wr = w5) (fun _ _ => 0)
            case atStart => exact ⟨rfl, rfl⟩
            case round =>
              obtain ⟨rfl, rfl⟩ := hrel
              go_wp2_with fail
              go_returns
              exact ⟨rfl, below_on (below_on (below_on hb1 hb3) hb4) hb5⟩
  · go_enter Tryd.func4, Tryd.ntmps4
    go_wp2_with (go_at_call 9; refine Calls.mono hH.out ?_; rintro e w1 ⟨rfl, hb1⟩)
    go_returns
    exact ⟨rfl, hb1⟩
end Go.Proofs.YtdnlnghgjjiajaaDoor
