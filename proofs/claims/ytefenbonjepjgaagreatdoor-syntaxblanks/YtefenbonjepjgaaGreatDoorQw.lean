/-
  Queries: the walk.
-/
import Derived.Test.YtefenbonjepjgaaGreatDoorQs
namespace Go.Proofs.YtefenbonjepjgaaGreatDoor
open Go.ChangeShapes Go.WideShapes Go.ChangeAt Go.RowKit
set_option linter.unusedSimpArgs false
set_option linter.unusedVariables false

theorem enters34 : Enters 34 := enters_of Tryz.func34 (by kernel_rfl) rfl
theorem enters37 : Enters 37 := enters_of Tryz.func37 (by kernel_rfl) rfl
theorem enters40 : Enters 40 := enters_of Tryz.func40 (by kernel_rfl) rfl
theorem QS.start {w : World} {B E : Nat} {M : List Tk} (hB : B < w.heap.size) (hr : Rd (w.alloc (.cells #[.slice none 0 0, .slice none 0 0, .bool false, .slice none 0 0, .slice none 0 0, .int .i64 0] 28)) B E 0 M) : QS w ((w.alloc (.cells #[.slice none 0 0, .slice none 0 0, .bool false, .slice none 0 0, .slice none 0 0, .int .i64 0] 28)).alloc (.cells #[.slice none 0 0, .slice none 0 0, .bool false, .slice none 0 0, .slice none 0 0, .int .i64 (-1)] 28)) B E (w.heap.size + 1) ⟨[], [], false, [], [], -1⟩ M (.slice none 0 0) (.slice none 0 0) (.slice none 0 0) (.slice none 0 0) := by
  have hb := below_new (w.alloc (.cells #[.slice none 0 0, .slice none 0 0, .bool false, .slice none 0 0, .slice none 0 0, .int .i64 0] 28)) (.cells #[.slice none 0 0, .slice none 0 0, .bool false, .slice none 0 0, .slice none 0 0, .int .i64 (-1)] 28)
  have hz : (w.alloc (.cells #[.slice none 0 0, .slice none 0 0, .bool false, .slice none 0 0, .slice none 0 0, .int .i64 0] 28)).heap.size = w.heap.size + 1 := by simp
  have hc := C6.new (Only.refl (· = B) ((w.alloc (.cells #[.slice none 0 0, .slice none 0 0, .bool false, .slice none 0 0, .slice none 0 0, .int .i64 0] 28)).alloc (.cells #[.slice none 0 0, .slice none 0 0, .bool false, .slice none 0 0, .slice none 0 0, .int .i64 (-1)] 28))) (by rw [hz]; omega)
  rw [hz] at hc
  exact ⟨only_of_below hb, hr.below hb, hc, RowS.nil _ _ _ _, RowS.nil _ _ _ _, RowS.nil _ _ _ _, RowS.nil _ _ _ _⟩
set_option maxRecDepth 100000 in
set_option maxHeartbeats 4000000 in
theorem query_any {B E n : Nat} {w : World} {L : List Tk} (he : Reads B E 25 (lay E n).2.2 n) (hl : L.length < n) (h : Rd w B E 0 L) : Calls Tryz.prog 19 #[rp B] w (Ans w B E 0 (queryP E n L) (IsQ w.heap.size)) := by
  have hlt := h.lt
  have hfew := h.few
  have h0 := h.below (below_new w (.cells #[.slice none 0 0, .slice none 0 0, .bool false, .slice none 0 0, .slice none 0 0, .int .i64 0] 28))
  have hZ := only_of_below (B := B) (below_new w (.cells #[.slice none 0 0, .slice none 0 0, .bool false, .slice none 0 0, .slice none 0 0, .int .i64 0] 28))
  have hq := QS.start hlt h0
  have hXr : w.heap.size < w.heap.size + 1 := Nat.lt_succ_self _
  clear h h0
  generalize hF : queryP E n L = F
  unfold queryP at hF
  have hmf : ∀ (fn : Fn) (first cap : Array Value) (w : World), (Instr.makeFunc fn first cap).run Tryz.prog w = .ok (.func fn first cap) w := fun _ _ _ _ => rfl
  have hPt := fun W L (hr : Rd W B E 0 L) => patt_any (E := E) hr
  have hEx := fun W L (h1 : L.length < n) (hr : Rd W B E 0 L) => he W 0 L h1 hr
  replace hq : Hid _ := hq
  go_enter Tryz.func19, Tryz.ntmps19
  go_upto_region 2 with fail
  generalize (w.alloc (.cells #[.slice none 0 0, .slice none 0 0, .bool false, .slice none 0 0, .slice none 0 0, .int .i64 0] 28)).alloc (.cells #[.slice none 0 0, .slice none 0 0, .bool false, .slice none 0 0, .slice none 0 0, .int .i64 (-1)] 28) = W1 at *
  generalize w.heap.size + 1 = X at *
  have hM := fun g hg => must1 hq.out.rd [77, 65, 84, 67, 72] g hg
  cases h1 : mustL E [77, 65, 84, 67, 72] L with
  | bad a y =>
    rw [h1] at hF hM
    have hF2 : Res.bad a y = F := hF
    subst hF2
    clear hF
    replace hM : Hid _ := hM
    replace h1 : Hid _ := h1
    go_wp2_with (go_at_call 32; refine Calls.mono (hM.out _ (by simp)) ?_; rintro e w2 ⟨ho2, rfl⟩)
    exact end_bad rfl (hZ.trans (hq.out.only.trans ((only_of_below (below_new _ _)).trans ho2)))
  | ok u M =>
    rw [h1] at hF hM
    have hF2 : ((listP (pattP E) M).then fun ps L => (whereP E n L).then fun wh L => (mustL E [82, 69, 84, 85, 82, 78] L).then fun _ L => (listP (itemP E n) (if isW [68, 73, 83, 84, 73, 78, 67, 84] L then L.tail else L)).then fun is L' => (keysP E L').then fun ks L' => (limP E L').then fun n L' => .ok (Qy.mk ps wh (isW [68, 73, 83, 84, 73, 78, 67, 84] L) is ks n) L') = F := hF
    have hML : M.length < n := Nat.lt_of_le_of_lt (shr_must E _ L u M h1) hl
    clear hF
    replace hM : Hid _ := hM
    replace h1 : Hid _ := h1
    go_upto_region 3 with (go_at_call 32; refine Calls.mono (hM.out _ (by simp)) ?_; rintro e w2 ⟨ho2, _, rfl, rfl, hr2⟩)
    have hq2 := hq.out.on hlt hXr ((only_of_below (B := B) (below_new W1 (.cells #[.string ⟨#[77, 65, 84, 67, 72]⟩] 9))).trans ho2) hr2
    clear hM hq ho2 hr2
    have hLp := fun W (hr : Rd W B E 0 M) => listedPt_any (n := n) enters34 (fun W L _ hr => hPt W L hr) (fun L => shr_patt E L) hML hr
    cases h2 : listP (pattP E) M with
    | bad a y =>
      rw [h2] at hF2 hLp
      have hF3 : Res.bad a y = F := hF2
      subst hF3
      clear hF2
      replace hLp : Hid _ := hLp
      replace h2 : Hid _ := h2
      replace hq2 : Hid _ := hq2
      go_wp2_with (have hh := hLp.out _ hq2.out.rd; go_at_call 33; (with_reducible refine Calls.mono hh ?_); clear hh; rintro e w3 ⟨ho3, rfl⟩)
      exact end_bad rfl (hZ.trans (hq2.out.only.trans ho3))
    | ok ps M2 =>
      rw [h2] at hF2 hLp
      have hF3 : ((whereP E n M2).then fun wh L => (mustL E [82, 69, 84, 85, 82, 78] L).then fun _ L => (listP (itemP E n) (if isW [68, 73, 83, 84, 73, 78, 67, 84] L then L.tail else L)).then fun is L' => (keysP E L').then fun ks L' => (limP E L').then fun n L' => .ok (Qy.mk ps wh (isW [68, 73, 83, 84, 73, 78, 67, 84] L) is ks n) L') = F := hF2
      have hML2 : M2.length < n := Nat.lt_of_le_of_lt (shr_list (fun L => shr_patt E L) M ps M2 h2) hML
      clear hF2
      replace hLp : Hid _ := hLp
      replace h2 : Hid _ := h2
      replace hq2 : Hid _ := hq2
      replace hF3 : Hid _ := hF3
      go_upto_region 4 with (have hh := hLp.out _ hq2.out.rd; go_at_call 33; (with_reducible refine Calls.mono hh ?_); clear hh; rintro e w3 ⟨ho3, _, rfl, hls, hr3⟩; have hp3 := hq2.out.on hlt hXr ho3 hr3; obtain ⟨pA, cA, CA, rfl, hA1, hA2⟩ := hls; obtain ⟨x0, x1, x2, x3, x4, x5, xf⟩ := hp3.cel; have lX := hp3.cel.lt; replace hp3 : Hid _ := hp3; replace hA1 : Hid _ := hA1; replace hA2 : Hid _ := hA2)
      have hrow := rows_from (X := X) (IsLs.row ⟨pA, cA, CA, rfl, hA1.out, hA2.out⟩) hq2.out.cel.lt hXr
      have hq3 := hp3.out.put (q' := ⟨ps, [], false, [], [], -1⟩) hlt hXr (only_set w3 X 0 (.slice pA ps.length cA)) (hp3.out.cel.set0 _) hrow hp3.out.e hp3.out.i hp3.out.k
      clear hrow hp3 hA1 hA2 x0 x1 x2 x3 x4 x5 xf lX hq2 ho3 hr3 hLp
      generalize w3.setCell ⟨X, 0, none⟩ (.slice pA ps.length cA) = W3 at *
      replace hq3 : Hid _ := hq3
      unfold whereP exprA at hF3
      have hPW := fun (_ : Unit) => pass_any hq3.out.rd [87, 72, 69, 82, 69]
      cases hw : isW [87, 72, 69, 82, 69] M2
      · have hF4 : ((mustL E [82, 69, 84, 85, 82, 78] M2).then fun _ L => (listP (itemP E n) (if isW [68, 73, 83, 84, 73, 78, 67, 84] L then L.tail else L)).then fun is L' => (keysP E L').then fun ks L' => (limP E L').then fun n L' => .ok (Qy.mk ps [] (isW [68, 73, 83, 84, 73, 78, 67, 84] L) is ks n) L') = F := by rw [← hF3.out, hw]; rfl
        rw [hw, passed_no hw] at hPW
        have hML4 := hML2
        clear hF3
        replace hPW : Hid _ := hPW
        replace hw : Hid _ := hw
        go_upto_region 6 with (have hh := hPW.out (); go_at_call 35; (with_reducible refine Calls.mono hh ?_); clear hh; rintro e w4 ⟨rfl, ho4, hr4⟩)
        have hq4 := hq3.out.on hlt hXr ho4 hr4
        clear ho4 hr4 hq3 hPW
        generalize w4 = W4 at *
        replace hq4 : Hid _ := hq4
        have hMR := fun g hg => must1 hq4.out.rd [82, 69, 84, 85, 82, 78] g hg
        cases h5 : mustL E [82, 69, 84, 85, 82, 78] M2 with
        | bad a y =>
          rw [h5] at hF4 hMR
          have hF5 : Res.bad a y = F := hF4
          subst hF5
          clear hF4
          replace hMR : Hid _ := hMR
          replace h5 : Hid _ := h5
          go_wp2_with (go_at_call 32; refine Calls.mono (hMR.out _ (by simp)) ?_; rintro e w6 ⟨ho6, rfl⟩)
          exact end_bad rfl (hZ.trans (hq4.out.only.trans ((only_of_below (below_new _ _)).trans ho6)))
        | ok u5 M5 =>
          rw [h5] at hF4 hMR
          have hF5 : ((listP (itemP E n) (passed [68, 73, 83, 84, 73, 78, 67, 84] M5)).then fun is L' => (keysP E L').then fun ks L' => (limP E L').then fun n L' => .ok (Qy.mk ps [] (isW [68, 73, 83, 84, 73, 78, 67, 84] M5) is ks n) L') = F := hF4
          have hML5 : (passed [68, 73, 83, 84, 73, 78, 67, 84] M5).length < n := by
            have h6 := shr_must E _ M2 u5 M5 h5
            have h7 : (passed [68, 73, 83, 84, 73, 78, 67, 84] M5).length ≤ M5.length := by unfold passed; split; exact tail_len _; exact Nat.le_refl _
            omega
          clear hF4
          replace hMR : Hid _ := hMR
          replace h5 : Hid _ := h5
          go_upto_region 7 with (go_at_call 32; refine Calls.mono (hMR.out _ (by simp)) ?_; rintro e w6 ⟨ho6, _, rfl, rfl, hr6⟩)
          have hq6 := hq4.out.on hlt hXr ((only_of_below (B := B) (below_new W4 (.cells #[.string ⟨#[82, 69, 84, 85, 82, 78]⟩] 9))).trans ho6) hr6
          clear hMR ho6 hr6 hq4
          have hPD := fun (_ : Unit) => pass_any hq6.rd [68, 73, 83, 84, 73, 78, 67, 84]
          generalize isW [68, 73, 83, 84, 73, 78, 67, 84] M5 = bD at *
          generalize passed [68, 73, 83, 84, 73, 78, 67, 84] M5 = M6 at *
          replace hPD : Hid _ := hPD
          replace hq6 : Hid _ := hq6
          go_upto_region 8 with (have hh := hPD.out (); go_at_call 35; (with_reducible refine Calls.mono hh ?_); clear hh; rintro e w7 ⟨rfl, ho7, hr7⟩; have hp7 := hq6.out.on hlt hXr ho7 hr7; obtain ⟨x0, x1, x2, x3, x4, x5, xf⟩ := hp7.cel; have lX := hp7.cel.lt; replace hp7 : Hid _ := hp7)
          have hq7 := hp7.out.put (q' := ⟨ps, [], bD, [], [], -1⟩) hlt hXr (only_set w7 X 2 (.bool bD)) (hp7.out.cel.set2 _) hp7.out.p hp7.out.e hp7.out.i hp7.out.k
          clear hp7 x0 x1 x2 x3 x4 x5 xf lX ho7 hr7 hq6 hPD
          generalize w7.setCell ⟨X, 2, none⟩ (.bool bD) = W7 at *
          have hLi := fun W (hr : Rd W B E 0 M6) => listedIt_any (n := n) (p := itemP E n) enters37 (fun W L h1 hr => item_any he h1 hr) (fun L => shr_item E n L) hML5 hr
          replace hq7 : Hid _ := hq7
          cases h7 : listP (itemP E n) M6 with
          | bad a y =>
            rw [h7] at hF5 hLi
            have hF6 : Res.bad a y = F := hF5
            subst hF6
            clear hF5
            replace hLi : Hid _ := hLi
            replace h7 : Hid _ := h7
            go_wp2_with (have hh := hLi.out _ hq7.out.rd; go_at_call 36; (with_reducible refine Calls.mono hh ?_); clear hh; rintro e w8 ⟨ho8, rfl⟩)
            exact end_bad rfl (hZ.trans (hq7.out.only.trans ho8))
          | ok is M7 =>
            rw [h7] at hF5 hLi
            have hF7 : ((keysP E M7).then fun ks L' => (limP E L').then fun n L' => .ok (Qy.mk ps [] bD is ks n) L') = F := hF5
            have hML7 : M7.length < n := Nat.lt_of_le_of_lt (shr_list (fun L => shr_item E n L) M6 is M7 h7) hML5
            clear hF5
            replace hLi : Hid _ := hLi
            replace h7 : Hid _ := h7
            replace hF7 : Hid _ := hF7
            go_upto_region 9 with (have hh := hLi.out _ hq7.out.rd; go_at_call 36; (with_reducible refine Calls.mono hh ?_); clear hh; rintro e w8 ⟨ho8, _, rfl, hls, hr8⟩; have hp8 := hq7.out.on hlt hXr ho8 hr8; obtain ⟨pI, cI, CI, rfl, hI1, hI2⟩ := hls; obtain ⟨x0, x1, x2, x3, x4, x5, xf⟩ := hp8.cel; have lX := hp8.cel.lt; replace hp8 : Hid _ := hp8; replace hI1 : Hid _ := hI1; replace hI2 : Hid _ := hI2)
            have hrow := rows_from (X := X) (IsLs.row ⟨pI, cI, CI, rfl, hI1.out, hI2.out⟩) hq7.out.cel.lt hXr
            have hq8 := hp8.out.put (q' := ⟨ps, [], bD, is, [], -1⟩) hlt hXr (only_set w8 X 3 (.slice pI is.length cI)) (hp8.out.cel.set3 _) hp8.out.p hp8.out.e hrow hp8.out.k
            clear hrow hp8 hI1 hI2 x0 x1 x2 x3 x4 x5 xf lX hq7 ho8 hr8 hLi
            have hq7 := hq8
            clear hq8
            generalize w8.setCell ⟨X, 3, none⟩ (.slice pI is.length cI) = W8 at *
            replace hq7 : Hid _ := hq7
            unfold keysP at hF7
            have hIO := fun g hg => isNext1 hq7.out.rd [79, 82, 68, 69, 82] _ g (Below.refl _ _) hg
            cases hwo : isW [79, 82, 68, 69, 82] M7
            · have hF8 : ((limP E M7).then fun n L' => .ok (Qy.mk ps [] bD is [] n) L') = F := by rw [← hF7.out, hwo]; rfl
              rw [hwo] at hIO
              clear hF7
              replace hIO : Hid _ := hIO
              replace hwo : Hid _ := hwo
              replace hF8 : Hid _ := hF8
              go_upto_region 12 with (go_at_call 38; refine Calls.mono (hIO.out _ (by simp)) ?_; rintro e w8 ⟨rfl, hb8⟩)
              have hq8 := hq7.out.below hlt hXr hb8
              clear hb8 hq7 hIO
              replace hq8 : Hid _ := hq8
              have hPL := fun (_ : Unit) => pass_any hq8.out.rd [76, 73, 77, 73, 84]
              cases hwl : isW [76, 73, 77, 73, 84] M7
              · have hF9 : Res.ok (Qy.mk ps [] bD is [] (-1)) M7 = F := by rw [← hF8.out]; unfold limP; rw [hwl]; rfl
                subst hF9
                rw [hwl, passed_no hwl] at hPL
                clear hF8
                replace hPL : Hid _ := hPL
                replace hwl : Hid _ := hwl
                go_upto_region 14 with (have hh := hPL.out (); go_at_call 35; (with_reducible refine Calls.mono hh ?_); clear hh; rintro e w9 ⟨rfl, ho9, hr9⟩)
                have hqF := hq8.out.on hlt hXr ho9 hr9
                clear ho9 hr9 hq8 hPL
                replace hqF : Hid _ := hqF
                obtain ⟨x0, x1, x2, x3, x4, x5, xf⟩ := hqF.out.cel
                obtain ⟨yf, yl, yn, y0, y1, y2, y3, y4, y5⟩ := new28 hqF.out.only hlt
                go_wp2_with fail
                refine ret28 (V := IsQ w.heap.size) (x := (Qy.mk ps [] bD is [] (-1))) (.inl rfl) Tryz.results19 rfl rfl hqF.out.only hlt hqF.out.rd ?_
                intro W9 ho9
                exact hqF.out.done ho9
              · have hF9 : ((numP E 0 1099511627776 M7.tail).then fun n L' => .ok (Qy.mk ps [] bD is [] n) L') = F := by rw [← hF8.out]; unfold limP; rw [hwl]; rfl
                rw [hwl, passed_yes hwl] at hPL
                have hNu := fun W (hr : Rd W B E 0 M7.tail) => mustNumber_any hr 0 1099511627776 (by decide) (by decide) (by decide)
                clear hF8
                replace hPL : Hid _ := hPL
                replace hwl : Hid _ := hwl
                cases h9 : numP E 0 1099511627776 M7.tail with
                | bad a y =>
                  rw [h9] at hF9 hNu
                  have hF10 : Res.bad a y = F := hF9
                  subst hF10
                  clear hF9
                  replace hNu : Hid _ := hNu
                  replace h9 : Hid _ := h9
                  go_wp2_with (first
                    | (have hh := hPL.out (); go_at_call 35; (with_reducible refine Calls.mono hh ?_); clear hh; rintro e w9 ⟨rfl, ho9, hr9⟩)
                    | (have hh := hNu.out _ hr9; go_at_call 41; (with_reducible refine Calls.mono hh ?_); clear hh; rintro e w10 ⟨ho10, rfl⟩))
                  exact end_bad rfl (hZ.trans (hq8.out.only.trans (ho9.trans ho10)))
                | ok nn M10 =>
                  rw [h9] at hF9 hNu
                  have hF10 : Res.ok (Qy.mk ps [] bD is [] nn) M10 = F := hF9
                  subst hF10
                  clear hF9
                  replace hNu : Hid _ := hNu
                  replace h9 : Hid _ := h9
                  go_upto_region 14 with (first
                    | (have hh := hPL.out (); go_at_call 35; (with_reducible refine Calls.mono hh ?_); clear hh; rintro e w9 ⟨rfl, ho9, hr9⟩)
                    | (have hh := hNu.out _ hr9; go_at_call 41; (with_reducible refine Calls.mono hh ?_); clear hh; rintro e w10 ⟨ho10, _, rfl, rfl, hr10⟩; have hp10 := (hq8.out.on hlt hXr ho9 hr9).on hlt hXr ho10 hr10; obtain ⟨z0, z1, z2, z3, z4, z5, zf⟩ := hp10.cel; have lX := hp10.cel.lt; replace hp10 : Hid _ := hp10))
                  have hqF := hp10.out.put (q' := (Qy.mk ps [] bD is [] nn)) hlt hXr (only_set w10 X 5 (.int .i64 nn)) (hp10.out.cel.set5 _) hp10.out.p hp10.out.e hp10.out.i hp10.out.k
                  clear hp10 z0 z1 z2 z3 z4 z5 zf lX ho9 ho10 hr9 hr10 hq8 hPL hNu
                  generalize w10.setCell ⟨X, 5, none⟩ (.int .i64 nn) = WF at *
                  replace hqF : Hid _ := hqF
                  obtain ⟨x0, x1, x2, x3, x4, x5, xf⟩ := hqF.out.cel
                  obtain ⟨yf, yl, yn, y0, y1, y2, y3, y4, y5⟩ := new28 hqF.out.only hlt
                  go_wp2_with fail
                  refine ret28 (V := IsQ w.heap.size) (x := (Qy.mk ps [] bD is [] nn)) (.inl rfl) Tryz.results19 rfl rfl hqF.out.only hlt hqF.out.rd ?_
                  intro W9 ho9
                  exact hqF.out.done ho9
            · have hF8 : ((((mustL E [66, 89] M7.tail).then fun _ L => listP (keyP E) L)).then fun ks L' => (limP E L').then fun n L' => .ok (Qy.mk ps [] bD is ks n) L') = F := by rw [← hF7.out, hwo]; rfl
              rw [hwo] at hIO
              have hmb : mustsL E [[79, 82, 68, 69, 82], [66, 89]] M7 = mustL E [66, 89] M7.tail := by rw [musts_yes hwo, musts_one]
              have hMB := fun W (hr : Rd W B E 0 M7) g hg => must2 hr [79, 82, 68, 69, 82] [66, 89] g hg
              rw [hmb] at hMB
              have htl8 : M7.tail.length < n := Nat.lt_of_le_of_lt (tail_len M7) hML7
              clear hF7 hmb
              replace hIO : Hid _ := hIO
              replace hwo : Hid _ := hwo
              cases h8 : mustL E [66, 89] M7.tail with
              | bad a y =>
                rw [h8] at hF8 hMB
                have hF9 : Res.bad a y = F := hF8
                subst hF9
                clear hF8
                replace hMB : Hid _ := hMB
                replace h8 : Hid _ := h8
                go_wp2_with (first
                  | (go_at_call 38; refine Calls.mono (hIO.out _ (by simp)) ?_; rintro e w8 ⟨rfl, hb8⟩; have hq8 := hq7.out.below hlt hXr hb8; replace hq8 : Hid _ := hq8)
                  | (have hh := hMB.out _ hq8.out.rd _ rfl; go_at_call 32; (with_reducible refine Calls.mono hh ?_); clear hh; rintro e w9 ⟨ho9, rfl⟩))
                exact end_bad rfl (hZ.trans (hq8.out.only.trans ((only_of_below (below_new _ _)).trans ho9)))
              | ok u8 M8 =>
                rw [h8] at hF8 hMB
                have hF9 : ((listP (keyP E) M8).then fun ks L' => (limP E L').then fun n L' => .ok (Qy.mk ps [] bD is ks n) L') = F := hF8
                have hML8 : M8.length < n := Nat.lt_of_le_of_lt (shr_must E _ _ u8 M8 h8) htl8
                clear hF8
                replace hMB : Hid _ := hMB
                replace h8 : Hid _ := h8
                have hLk := fun W (hr : Rd W B E 0 M8) => listedKy_any (n := n) enters40 (fun W L _ hr => key_any hr) (fun L => shr_key E L) hML8 hr
                cases h9 : listP (keyP E) M8 with
                | bad a y =>
                  rw [h9] at hF9 hLk
                  have hF10 : Res.bad a y = F := hF9
                  subst hF10
                  clear hF9
                  replace hLk : Hid _ := hLk
                  replace h9 : Hid _ := h9
                  go_wp2_with (first
                    | (go_at_call 38; refine Calls.mono (hIO.out _ (by simp)) ?_; rintro e w8 ⟨rfl, hb8⟩; have hq8 := hq7.out.below hlt hXr hb8; replace hq8 : Hid _ := hq8)
                    | (have hh := hMB.out _ hq8.out.rd _ rfl; go_at_call 32; (with_reducible refine Calls.mono hh ?_); clear hh; rintro e w9 ⟨ho9, _, rfl, rfl, hr9⟩)
                    | (have hh := hLk.out _ hr9; go_at_call 39; (with_reducible refine Calls.mono hh ?_); clear hh; rintro e w10 ⟨ho10, rfl⟩))
                  exact end_bad rfl (hZ.trans (hq8.out.only.trans (((only_of_below (below_new _ _)).trans ho9).trans ho10)))
                | ok ks M9 =>
                  rw [h9] at hF9 hLk
                  have hF8 : ((limP E M9).then fun n L' => .ok (Qy.mk ps [] bD is ks n) L') = F := hF9
                  clear hF9
                  replace hLk : Hid _ := hLk
                  replace h9 : Hid _ := h9
                  replace hF8 : Hid _ := hF8
                  go_upto_region 12 with (first
                    | (go_at_call 38; refine Calls.mono (hIO.out _ (by simp)) ?_; rintro e w8 ⟨rfl, hb8⟩; have hq8 := hq7.out.below hlt hXr hb8; replace hq8 : Hid _ := hq8)
                    | (have hh := hMB.out _ hq8.out.rd _ rfl; go_at_call 32; (with_reducible refine Calls.mono hh ?_); clear hh; rintro e w9 ⟨ho9, _, rfl, rfl, hr9⟩; have hq9 := hq8.out.on hlt hXr ((only_of_below (B := B) (below_new w8 (.cells #[.string ⟨#[79, 82, 68, 69, 82]⟩, .string ⟨#[66, 89]⟩] 9))).trans ho9) hr9; replace hq9 : Hid _ := hq9)
                    | (have hh := hLk.out _ hr9; go_at_call 39; (with_reducible refine Calls.mono hh ?_); clear hh; rintro e w10 ⟨ho10, _, rfl, hls, hr10⟩; have hp10 := hq9.out.on hlt hXr ho10 hr10; obtain ⟨pK, cK, CK, rfl, hK1, hK2⟩ := hls; obtain ⟨z0, z1, z2, z3, z4, z5, zf⟩ := hp10.cel; have lX := hp10.cel.lt; replace hp10 : Hid _ := hp10; replace hK1 : Hid _ := hK1; replace hK2 : Hid _ := hK2))
                  have hrow := rows_from (X := X) (IsLs.row ⟨pK, cK, CK, rfl, hK1.out, hK2.out⟩) hq9.out.cel.lt hXr
                  have hq10 := hp10.out.put (q' := ⟨ps, [], bD, is, ks, -1⟩) hlt hXr (only_set w10 X 4 (.slice pK ks.length cK)) (hp10.out.cel.set4 _) hp10.out.p hp10.out.e hp10.out.i hrow
                  clear hrow hp10 hK1 hK2 z0 z1 z2 z3 z4 z5 zf lX hq8 hq9 ho9 ho10 hr9 hr10 hLk hMB hIO hq7
                  have hq8 := hq10
                  clear hq10
                  generalize w10.setCell ⟨X, 4, none⟩ (.slice pK ks.length cK) = W8 at *
                  replace hq8 : Hid _ := hq8
                  have hPL := fun (_ : Unit) => pass_any hq8.out.rd [76, 73, 77, 73, 84]
                  cases hwl : isW [76, 73, 77, 73, 84] M9
                  · have hF9 : Res.ok (Qy.mk ps [] bD is ks (-1)) M9 = F := by rw [← hF8.out]; unfold limP; rw [hwl]; rfl
                    subst hF9
                    rw [hwl, passed_no hwl] at hPL
                    clear hF8
                    replace hPL : Hid _ := hPL
                    replace hwl : Hid _ := hwl
                    go_upto_region 14 with (have hh := hPL.out (); go_at_call 35; (with_reducible refine Calls.mono hh ?_); clear hh; rintro e w9 ⟨rfl, ho9, hr9⟩)
                    have hqF := hq8.out.on hlt hXr ho9 hr9
                    clear ho9 hr9 hq8 hPL
                    replace hqF : Hid _ := hqF
                    obtain ⟨x0, x1, x2, x3, x4, x5, xf⟩ := hqF.out.cel
                    obtain ⟨yf, yl, yn, y0, y1, y2, y3, y4, y5⟩ := new28 hqF.out.only hlt
                    go_wp2_with fail
                    refine ret28 (V := IsQ w.heap.size) (x := (Qy.mk ps [] bD is ks (-1))) (.inl rfl) Tryz.results19 rfl rfl hqF.out.only hlt hqF.out.rd ?_
                    intro W9 ho9
                    exact hqF.out.done ho9
                  · have hF9 : ((numP E 0 1099511627776 M9.tail).then fun n L' => .ok (Qy.mk ps [] bD is ks n) L') = F := by rw [← hF8.out]; unfold limP; rw [hwl]; rfl
                    rw [hwl, passed_yes hwl] at hPL
                    have hNu := fun W (hr : Rd W B E 0 M9.tail) => mustNumber_any hr 0 1099511627776 (by decide) (by decide) (by decide)
                    clear hF8
                    replace hPL : Hid _ := hPL
                    replace hwl : Hid _ := hwl
                    cases h9 : numP E 0 1099511627776 M9.tail with
                    | bad a y =>
                      rw [h9] at hF9 hNu
                      have hF10 : Res.bad a y = F := hF9
                      subst hF10
                      clear hF9
                      replace hNu : Hid _ := hNu
                      replace h9 : Hid _ := h9
                      go_wp2_with (first
                        | (have hh := hPL.out (); go_at_call 35; (with_reducible refine Calls.mono hh ?_); clear hh; rintro e w9 ⟨rfl, ho9, hr9⟩)
                        | (have hh := hNu.out _ hr9; go_at_call 41; (with_reducible refine Calls.mono hh ?_); clear hh; rintro e w10 ⟨ho10, rfl⟩))
                      exact end_bad rfl (hZ.trans (hq8.out.only.trans (ho9.trans ho10)))
                    | ok nn M10 =>
                      rw [h9] at hF9 hNu
                      have hF10 : Res.ok (Qy.mk ps [] bD is ks nn) M10 = F := hF9
                      subst hF10
                      clear hF9
                      replace hNu : Hid _ := hNu
                      replace h9 : Hid _ := h9
                      go_upto_region 14 with (first
                        | (have hh := hPL.out (); go_at_call 35; (with_reducible refine Calls.mono hh ?_); clear hh; rintro e w9 ⟨rfl, ho9, hr9⟩)
                        | (have hh := hNu.out _ hr9; go_at_call 41; (with_reducible refine Calls.mono hh ?_); clear hh; rintro e w10 ⟨ho10, _, rfl, rfl, hr10⟩; have hp10 := (hq8.out.on hlt hXr ho9 hr9).on hlt hXr ho10 hr10; obtain ⟨z0, z1, z2, z3, z4, z5, zf⟩ := hp10.cel; have lX := hp10.cel.lt; replace hp10 : Hid _ := hp10))
                      have hqF := hp10.out.put (q' := (Qy.mk ps [] bD is ks nn)) hlt hXr (only_set w10 X 5 (.int .i64 nn)) (hp10.out.cel.set5 _) hp10.out.p hp10.out.e hp10.out.i hp10.out.k
                      clear hp10 z0 z1 z2 z3 z4 z5 zf lX ho9 ho10 hr9 hr10 hq8 hPL hNu
                      generalize w10.setCell ⟨X, 5, none⟩ (.int .i64 nn) = WF at *
                      replace hqF : Hid _ := hqF
                      obtain ⟨x0, x1, x2, x3, x4, x5, xf⟩ := hqF.out.cel
                      obtain ⟨yf, yl, yn, y0, y1, y2, y3, y4, y5⟩ := new28 hqF.out.only hlt
                      go_wp2_with fail
                      refine ret28 (V := IsQ w.heap.size) (x := (Qy.mk ps [] bD is ks nn)) (.inl rfl) Tryz.results19 rfl rfl hqF.out.only hlt hqF.out.rd ?_
                      intro W9 ho9
                      exact hqF.out.done ho9
      · have hF4 : ((((lay E n).2.2 0 M2.tail).then fun x L => Res.ok [x] L).then fun wh L => (mustL E [82, 69, 84, 85, 82, 78] L).then fun _ L => (listP (itemP E n) (if isW [68, 73, 83, 84, 73, 78, 67, 84] L then L.tail else L)).then fun is L' => (keysP E L').then fun ks L' => (limP E L').then fun n L' => .ok (Qy.mk ps wh (isW [68, 73, 83, 84, 73, 78, 67, 84] L) is ks n) L') = F := by rw [← hF3.out, hw]; rfl
        rw [hw, passed_yes hw] at hPW
        have htl : M2.tail.length < n := Nat.lt_of_le_of_lt (tail_len M2) hML2
        have hE := fun W (hr : Rd W B E 0 M2.tail) => hEx W M2.tail htl hr
        clear hF3
        replace hPW : Hid _ := hPW
        replace hw : Hid _ := hw
        cases h3 : (lay E n).2.2 0 M2.tail with
        | bad a y =>
          rw [h3] at hF4 hE
          have hF5 : Res.bad a y = F := hF4
          subst hF5
          clear hF4
          replace hE : Hid _ := hE
          replace h3 : Hid _ := h3
          go_wp2_with (first
            | (have hh := hPW.out (); go_at_call 35; (with_reducible refine Calls.mono hh ?_); clear hh; rintro e w4 ⟨rfl, ho4, hr4⟩)
            | (have hh := hE.out _ hr4; go_at_call 25; (with_reducible refine Calls.mono hh ?_); clear hh; rintro e w5 ⟨ho5, rfl⟩))
          exact end_bad rfl (hZ.trans (hq3.out.only.trans (ho4.trans ho5)))
        | ok x M3 =>
          rw [h3] at hF4 hE
          have hF5 : ((mustL E [82, 69, 84, 85, 82, 78] M3).then fun _ L => (listP (itemP E n) (if isW [68, 73, 83, 84, 73, 78, 67, 84] L then L.tail else L)).then fun is L' => (keysP E L').then fun ks L' => (limP E L').then fun n L' => .ok (Qy.mk ps [x] (isW [68, 73, 83, 84, 73, 78, 67, 84] L) is ks n) L') = F := hF4
          have hML4 : M3.length < n := Nat.lt_of_le_of_lt ((sh_lay E n).2.2 0 M2.tail x M3 h3) htl
          clear hF4
          have hF4 := hF5
          clear hF5
          replace hE : Hid _ := hE
          replace h3 : Hid _ := h3
          go_upto_region 6 with (first
            | (have hh := hPW.out (); go_at_call 35; (with_reducible refine Calls.mono hh ?_); clear hh hPW; rintro e w4 ⟨rfl, ho4, hr4⟩)
            | (have hh := hE.out _ hr4; go_at_call 25; (with_reducible refine Calls.mono hh ?_); clear hh; rintro e w5 ⟨ho5, _, rfl, ⟨sp, sn, sc, rfl, hx⟩, hr5⟩; have hp5 := (hq3.out.on hlt hXr ho4 hr4).on hlt hXr ho5 hr5; have hp6 := hp5.below hlt hXr (below_new w5 (.cells #[.int .i64 (opE x), .slice sp sn sc, .string (txt (nmE x)), .string (txt (prE x)), .int .i64 (kE x), .bool (bE x), .int .i64 (nE x), .string (txt (tE x)), .slice none 0 0] 40)); obtain ⟨x0, x1, x2, x3, x4, x5, xf⟩ := hp6.cel; have lX := hp6.cel.lt; have lX5 := hp5.cel.lt; have lX4 := (hq3.out.on hlt hXr ho4 hr4).cel.lt; have hs4 := ho5.size; replace hp6 : Hid _ := hp6; replace hx : Hid _ := hx; clear hp5))
          have hrow := rows_from (X := X) (RowS.one hx.out hs4) lX4 hXr
          have hz5 := ho5.size
          have hq4 := hp6.out.put (q' := ⟨ps, [x], false, [], [], -1⟩) hlt hXr (only_set _ X 1 (.slice (some ⟨w5.heap.size, 0, none⟩) 1 1)) (hp6.out.cel.set1 _) hp6.out.p hrow hp6.out.i hp6.out.k
          rw [World.setCell_alloc_past (.cells #[.int .i64 (opE x), .slice sp sn sc, .string (txt (nmE x)), .string (txt (prE x)), .int .i64 (kE x), .bool (bE x), .int .i64 (nE x), .string (txt (tE x)), .slice none 0 0] 40) X 1 (.slice (some ⟨w5.heap.size, 0, none⟩) 1 1) lX5] at hq4
          clear hrow hp6 hx x0 x1 x2 x3 x4 x5 xf lX lX5 lX4 hs4 hz5 ho4 ho5 hr4 hr5 hE hq3
          generalize (w5.setCell ⟨X, 1, none⟩ (.slice (some ⟨w5.heap.size, 0, none⟩) 1 1)).alloc (.cells #[.int .i64 (opE x), .slice sp sn sc, .string (txt (nmE x)), .string (txt (prE x)), .int .i64 (kE x), .bool (bE x), .int .i64 (nE x), .string (txt (tE x)), .slice none 0 0] 40) = W4 at *
          replace hq4 : Hid _ := hq4
          have hMR := fun g hg => must1 hq4.out.rd [82, 69, 84, 85, 82, 78] g hg
          cases h5 : mustL E [82, 69, 84, 85, 82, 78] M3 with
          | bad a y =>
            rw [h5] at hF4 hMR
            have hF5 : Res.bad a y = F := hF4
            subst hF5
            clear hF4
            replace hMR : Hid _ := hMR
            replace h5 : Hid _ := h5
            go_wp2_with (go_at_call 32; refine Calls.mono (hMR.out _ (by simp)) ?_; rintro e w6 ⟨ho6, rfl⟩)
            exact end_bad rfl (hZ.trans (hq4.out.only.trans ((only_of_below (below_new _ _)).trans ho6)))
          | ok u5 M5 =>
            rw [h5] at hF4 hMR
            have hF5 : ((listP (itemP E n) (passed [68, 73, 83, 84, 73, 78, 67, 84] M5)).then fun is L' => (keysP E L').then fun ks L' => (limP E L').then fun n L' => .ok (Qy.mk ps [x] (isW [68, 73, 83, 84, 73, 78, 67, 84] M5) is ks n) L') = F := hF4
            have hML5 : (passed [68, 73, 83, 84, 73, 78, 67, 84] M5).length < n := by
              have h6 := shr_must E _ M3 u5 M5 h5
              have h7 : (passed [68, 73, 83, 84, 73, 78, 67, 84] M5).length ≤ M5.length := by unfold passed; split; exact tail_len _; exact Nat.le_refl _
              omega
            clear hF4
            replace hMR : Hid _ := hMR
            replace h5 : Hid _ := h5
            go_upto_region 7 with (go_at_call 32; refine Calls.mono (hMR.out _ (by simp)) ?_; rintro e w6 ⟨ho6, _, rfl, rfl, hr6⟩)
            have hq6 := hq4.out.on hlt hXr ((only_of_below (B := B) (below_new W4 (.cells #[.string ⟨#[82, 69, 84, 85, 82, 78]⟩] 9))).trans ho6) hr6
            clear hMR ho6 hr6 hq4
            have hPD := fun (_ : Unit) => pass_any hq6.rd [68, 73, 83, 84, 73, 78, 67, 84]
            generalize isW [68, 73, 83, 84, 73, 78, 67, 84] M5 = bD at *
            generalize passed [68, 73, 83, 84, 73, 78, 67, 84] M5 = M6 at *
            replace hPD : Hid _ := hPD
            replace hq6 : Hid _ := hq6
            go_upto_region 8 with (have hh := hPD.out (); go_at_call 35; (with_reducible refine Calls.mono hh ?_); clear hh; rintro e w7 ⟨rfl, ho7, hr7⟩; have hp7 := hq6.out.on hlt hXr ho7 hr7; obtain ⟨x0, x1, x2, x3, x4, x5, xf⟩ := hp7.cel; have lX := hp7.cel.lt; replace hp7 : Hid _ := hp7)
            have hq7 := hp7.out.put (q' := ⟨ps, [x], bD, [], [], -1⟩) hlt hXr (only_set w7 X 2 (.bool bD)) (hp7.out.cel.set2 _) hp7.out.p hp7.out.e hp7.out.i hp7.out.k
            clear hp7 x0 x1 x2 x3 x4 x5 xf lX ho7 hr7 hq6 hPD
            generalize w7.setCell ⟨X, 2, none⟩ (.bool bD) = W7 at *
            have hLi := fun W (hr : Rd W B E 0 M6) => listedIt_any (n := n) (p := itemP E n) enters37 (fun W L h1 hr => item_any he h1 hr) (fun L => shr_item E n L) hML5 hr
            replace hq7 : Hid _ := hq7
            cases h7 : listP (itemP E n) M6 with
            | bad a y =>
              rw [h7] at hF5 hLi
              have hF6 : Res.bad a y = F := hF5
              subst hF6
              clear hF5
              replace hLi : Hid _ := hLi
              replace h7 : Hid _ := h7
              go_wp2_with (have hh := hLi.out _ hq7.out.rd; go_at_call 36; (with_reducible refine Calls.mono hh ?_); clear hh; rintro e w8 ⟨ho8, rfl⟩)
              exact end_bad rfl (hZ.trans (hq7.out.only.trans ho8))
            | ok is M7 =>
              rw [h7] at hF5 hLi
              have hF7 : ((keysP E M7).then fun ks L' => (limP E L').then fun n L' => .ok (Qy.mk ps [x] bD is ks n) L') = F := hF5
              have hML7 : M7.length < n := Nat.lt_of_le_of_lt (shr_list (fun L => shr_item E n L) M6 is M7 h7) hML5
              clear hF5
              replace hLi : Hid _ := hLi
              replace h7 : Hid _ := h7
              replace hF7 : Hid _ := hF7
              go_upto_region 9 with (have hh := hLi.out _ hq7.out.rd; go_at_call 36; (with_reducible refine Calls.mono hh ?_); clear hh; rintro e w8 ⟨ho8, _, rfl, hls, hr8⟩; have hp8 := hq7.out.on hlt hXr ho8 hr8; obtain ⟨pI, cI, CI, rfl, hI1, hI2⟩ := hls; obtain ⟨x0, x1, x2, x3, x4, x5, xf⟩ := hp8.cel; have lX := hp8.cel.lt; replace hp8 : Hid _ := hp8; replace hI1 : Hid _ := hI1; replace hI2 : Hid _ := hI2)
              have hrow := rows_from (X := X) (IsLs.row ⟨pI, cI, CI, rfl, hI1.out, hI2.out⟩) hq7.out.cel.lt hXr
              have hq8 := hp8.out.put (q' := ⟨ps, [x], bD, is, [], -1⟩) hlt hXr (only_set w8 X 3 (.slice pI is.length cI)) (hp8.out.cel.set3 _) hp8.out.p hp8.out.e hrow hp8.out.k
              clear hrow hp8 hI1 hI2 x0 x1 x2 x3 x4 x5 xf lX hq7 ho8 hr8 hLi
              have hq7 := hq8
              clear hq8
              generalize w8.setCell ⟨X, 3, none⟩ (.slice pI is.length cI) = W8 at *
              replace hq7 : Hid _ := hq7
              unfold keysP at hF7
              have hIO := fun g hg => isNext1 hq7.out.rd [79, 82, 68, 69, 82] _ g (Below.refl _ _) hg
              cases hwo : isW [79, 82, 68, 69, 82] M7
              · have hF8 : ((limP E M7).then fun n L' => .ok (Qy.mk ps [x] bD is [] n) L') = F := by rw [← hF7.out, hwo]; rfl
                rw [hwo] at hIO
                clear hF7
                replace hIO : Hid _ := hIO
                replace hwo : Hid _ := hwo
                replace hF8 : Hid _ := hF8
                go_upto_region 12 with (go_at_call 38; refine Calls.mono (hIO.out _ (by simp)) ?_; rintro e w8 ⟨rfl, hb8⟩)
                have hq8 := hq7.out.below hlt hXr hb8
                clear hb8 hq7 hIO
                replace hq8 : Hid _ := hq8
                have hPL := fun (_ : Unit) => pass_any hq8.out.rd [76, 73, 77, 73, 84]
                cases hwl : isW [76, 73, 77, 73, 84] M7
                · have hF9 : Res.ok (Qy.mk ps [x] bD is [] (-1)) M7 = F := by rw [← hF8.out]; unfold limP; rw [hwl]; rfl
                  subst hF9
                  rw [hwl, passed_no hwl] at hPL
                  clear hF8
                  replace hPL : Hid _ := hPL
                  replace hwl : Hid _ := hwl
                  go_upto_region 14 with (have hh := hPL.out (); go_at_call 35; (with_reducible refine Calls.mono hh ?_); clear hh; rintro e w9 ⟨rfl, ho9, hr9⟩)
                  have hqF := hq8.out.on hlt hXr ho9 hr9
                  clear ho9 hr9 hq8 hPL
                  replace hqF : Hid _ := hqF
                  obtain ⟨x0, x1, x2, x3, x4, x5, xf⟩ := hqF.out.cel
                  obtain ⟨yf, yl, yn, y0, y1, y2, y3, y4, y5⟩ := new28 hqF.out.only hlt
                  go_wp2_with fail
                  refine ret28 (V := IsQ w.heap.size) (x := (Qy.mk ps [x] bD is [] (-1))) (.inl rfl) Tryz.results19 rfl rfl hqF.out.only hlt hqF.out.rd ?_
                  intro W9 ho9
                  exact hqF.out.done ho9
                · have hF9 : ((numP E 0 1099511627776 M7.tail).then fun n L' => .ok (Qy.mk ps [x] bD is [] n) L') = F := by rw [← hF8.out]; unfold limP; rw [hwl]; rfl
                  rw [hwl, passed_yes hwl] at hPL
                  have hNu := fun W (hr : Rd W B E 0 M7.tail) => mustNumber_any hr 0 1099511627776 (by decide) (by decide) (by decide)
                  clear hF8
                  replace hPL : Hid _ := hPL
                  replace hwl : Hid _ := hwl
                  cases h9 : numP E 0 1099511627776 M7.tail with
                  | bad a y =>
                    rw [h9] at hF9 hNu
                    have hF10 : Res.bad a y = F := hF9
                    subst hF10
                    clear hF9
                    replace hNu : Hid _ := hNu
                    replace h9 : Hid _ := h9
                    go_wp2_with (first
                      | (have hh := hPL.out (); go_at_call 35; (with_reducible refine Calls.mono hh ?_); clear hh; rintro e w9 ⟨rfl, ho9, hr9⟩)
                      | (have hh := hNu.out _ hr9; go_at_call 41; (with_reducible refine Calls.mono hh ?_); clear hh; rintro e w10 ⟨ho10, rfl⟩))
                    exact end_bad rfl (hZ.trans (hq8.out.only.trans (ho9.trans ho10)))
                  | ok nn M10 =>
                    rw [h9] at hF9 hNu
                    have hF10 : Res.ok (Qy.mk ps [x] bD is [] nn) M10 = F := hF9
                    subst hF10
                    clear hF9
                    replace hNu : Hid _ := hNu
                    replace h9 : Hid _ := h9
                    go_upto_region 14 with (first
                      | (have hh := hPL.out (); go_at_call 35; (with_reducible refine Calls.mono hh ?_); clear hh; rintro e w9 ⟨rfl, ho9, hr9⟩)
                      | (have hh := hNu.out _ hr9; go_at_call 41; (with_reducible refine Calls.mono hh ?_); clear hh; rintro e w10 ⟨ho10, _, rfl, rfl, hr10⟩; have hp10 := (hq8.out.on hlt hXr ho9 hr9).on hlt hXr ho10 hr10; obtain ⟨z0, z1, z2, z3, z4, z5, zf⟩ := hp10.cel; have lX := hp10.cel.lt; replace hp10 : Hid _ := hp10))
                    have hqF := hp10.out.put (q' := (Qy.mk ps [x] bD is [] nn)) hlt hXr (only_set w10 X 5 (.int .i64 nn)) (hp10.out.cel.set5 _) hp10.out.p hp10.out.e hp10.out.i hp10.out.k
                    clear hp10 z0 z1 z2 z3 z4 z5 zf lX ho9 ho10 hr9 hr10 hq8 hPL hNu
                    generalize w10.setCell ⟨X, 5, none⟩ (.int .i64 nn) = WF at *
                    replace hqF : Hid _ := hqF
                    obtain ⟨x0, x1, x2, x3, x4, x5, xf⟩ := hqF.out.cel
                    obtain ⟨yf, yl, yn, y0, y1, y2, y3, y4, y5⟩ := new28 hqF.out.only hlt
                    go_wp2_with fail
                    refine ret28 (V := IsQ w.heap.size) (x := (Qy.mk ps [x] bD is [] nn)) (.inl rfl) Tryz.results19 rfl rfl hqF.out.only hlt hqF.out.rd ?_
                    intro W9 ho9
                    exact hqF.out.done ho9
              · have hF8 : ((((mustL E [66, 89] M7.tail).then fun _ L => listP (keyP E) L)).then fun ks L' => (limP E L').then fun n L' => .ok (Qy.mk ps [x] bD is ks n) L') = F := by rw [← hF7.out, hwo]; rfl
                rw [hwo] at hIO
                have hmb : mustsL E [[79, 82, 68, 69, 82], [66, 89]] M7 = mustL E [66, 89] M7.tail := by rw [musts_yes hwo, musts_one]
                have hMB := fun W (hr : Rd W B E 0 M7) g hg => must2 hr [79, 82, 68, 69, 82] [66, 89] g hg
                rw [hmb] at hMB
                have htl8 : M7.tail.length < n := Nat.lt_of_le_of_lt (tail_len M7) hML7
                clear hF7 hmb
                replace hIO : Hid _ := hIO
                replace hwo : Hid _ := hwo
                cases h8 : mustL E [66, 89] M7.tail with
                | bad a y =>
                  rw [h8] at hF8 hMB
                  have hF9 : Res.bad a y = F := hF8
                  subst hF9
                  clear hF8
                  replace hMB : Hid _ := hMB
                  replace h8 : Hid _ := h8
                  go_wp2_with (first
                    | (go_at_call 38; refine Calls.mono (hIO.out _ (by simp)) ?_; rintro e w8 ⟨rfl, hb8⟩; have hq8 := hq7.out.below hlt hXr hb8; replace hq8 : Hid _ := hq8)
                    | (have hh := hMB.out _ hq8.out.rd _ rfl; go_at_call 32; (with_reducible refine Calls.mono hh ?_); clear hh; rintro e w9 ⟨ho9, rfl⟩))
                  exact end_bad rfl (hZ.trans (hq8.out.only.trans ((only_of_below (below_new _ _)).trans ho9)))
                | ok u8 M8 =>
                  rw [h8] at hF8 hMB
                  have hF9 : ((listP (keyP E) M8).then fun ks L' => (limP E L').then fun n L' => .ok (Qy.mk ps [x] bD is ks n) L') = F := hF8
                  have hML8 : M8.length < n := Nat.lt_of_le_of_lt (shr_must E _ _ u8 M8 h8) htl8
                  clear hF8
                  replace hMB : Hid _ := hMB
                  replace h8 : Hid _ := h8
                  have hLk := fun W (hr : Rd W B E 0 M8) => listedKy_any (n := n) enters40 (fun W L _ hr => key_any hr) (fun L => shr_key E L) hML8 hr
                  cases h9 : listP (keyP E) M8 with
                  | bad a y =>
                    rw [h9] at hF9 hLk
                    have hF10 : Res.bad a y = F := hF9
                    subst hF10
                    clear hF9
                    replace hLk : Hid _ := hLk
                    replace h9 : Hid _ := h9
                    go_wp2_with (first
                      | (go_at_call 38; refine Calls.mono (hIO.out _ (by simp)) ?_; rintro e w8 ⟨rfl, hb8⟩; have hq8 := hq7.out.below hlt hXr hb8; replace hq8 : Hid _ := hq8)
                      | (have hh := hMB.out _ hq8.out.rd _ rfl; go_at_call 32; (with_reducible refine Calls.mono hh ?_); clear hh; rintro e w9 ⟨ho9, _, rfl, rfl, hr9⟩)
                      | (have hh := hLk.out _ hr9; go_at_call 39; (with_reducible refine Calls.mono hh ?_); clear hh; rintro e w10 ⟨ho10, rfl⟩))
                    exact end_bad rfl (hZ.trans (hq8.out.only.trans (((only_of_below (below_new _ _)).trans ho9).trans ho10)))
                  | ok ks M9 =>
                    rw [h9] at hF9 hLk
                    have hF8 : ((limP E M9).then fun n L' => .ok (Qy.mk ps [x] bD is ks n) L') = F := hF9
                    clear hF9
                    replace hLk : Hid _ := hLk
                    replace h9 : Hid _ := h9
                    replace hF8 : Hid _ := hF8
                    go_upto_region 12 with (first
                      | (go_at_call 38; refine Calls.mono (hIO.out _ (by simp)) ?_; rintro e w8 ⟨rfl, hb8⟩; have hq8 := hq7.out.below hlt hXr hb8; replace hq8 : Hid _ := hq8)
                      | (have hh := hMB.out _ hq8.out.rd _ rfl; go_at_call 32; (with_reducible refine Calls.mono hh ?_); clear hh; rintro e w9 ⟨ho9, _, rfl, rfl, hr9⟩; have hq9 := hq8.out.on hlt hXr ((only_of_below (B := B) (below_new w8 (.cells #[.string ⟨#[79, 82, 68, 69, 82]⟩, .string ⟨#[66, 89]⟩] 9))).trans ho9) hr9; replace hq9 : Hid _ := hq9)
                      | (have hh := hLk.out _ hr9; go_at_call 39; (with_reducible refine Calls.mono hh ?_); clear hh; rintro e w10 ⟨ho10, _, rfl, hls, hr10⟩; have hp10 := hq9.out.on hlt hXr ho10 hr10; obtain ⟨pK, cK, CK, rfl, hK1, hK2⟩ := hls; obtain ⟨z0, z1, z2, z3, z4, z5, zf⟩ := hp10.cel; have lX := hp10.cel.lt; replace hp10 : Hid _ := hp10; replace hK1 : Hid _ := hK1; replace hK2 : Hid _ := hK2))
                    have hrow := rows_from (X := X) (IsLs.row ⟨pK, cK, CK, rfl, hK1.out, hK2.out⟩) hq9.out.cel.lt hXr
                    have hq10 := hp10.out.put (q' := ⟨ps, [x], bD, is, ks, -1⟩) hlt hXr (only_set w10 X 4 (.slice pK ks.length cK)) (hp10.out.cel.set4 _) hp10.out.p hp10.out.e hp10.out.i hrow
                    clear hrow hp10 hK1 hK2 z0 z1 z2 z3 z4 z5 zf lX hq8 hq9 ho9 ho10 hr9 hr10 hLk hMB hIO hq7
                    have hq8 := hq10
                    clear hq10
                    generalize w10.setCell ⟨X, 4, none⟩ (.slice pK ks.length cK) = W8 at *
                    replace hq8 : Hid _ := hq8
                    have hPL := fun (_ : Unit) => pass_any hq8.out.rd [76, 73, 77, 73, 84]
                    cases hwl : isW [76, 73, 77, 73, 84] M9
                    · have hF9 : Res.ok (Qy.mk ps [x] bD is ks (-1)) M9 = F := by rw [← hF8.out]; unfold limP; rw [hwl]; rfl
                      subst hF9
                      rw [hwl, passed_no hwl] at hPL
                      clear hF8
                      replace hPL : Hid _ := hPL
                      replace hwl : Hid _ := hwl
                      go_upto_region 14 with (have hh := hPL.out (); go_at_call 35; (with_reducible refine Calls.mono hh ?_); clear hh; rintro e w9 ⟨rfl, ho9, hr9⟩)
                      have hqF := hq8.out.on hlt hXr ho9 hr9
                      clear ho9 hr9 hq8 hPL
                      replace hqF : Hid _ := hqF
                      obtain ⟨x0, x1, x2, x3, x4, x5, xf⟩ := hqF.out.cel
                      obtain ⟨yf, yl, yn, y0, y1, y2, y3, y4, y5⟩ := new28 hqF.out.only hlt
                      go_wp2_with fail
                      refine ret28 (V := IsQ w.heap.size) (x := (Qy.mk ps [x] bD is ks (-1))) (.inl rfl) Tryz.results19 rfl rfl hqF.out.only hlt hqF.out.rd ?_
                      intro W9 ho9
                      exact hqF.out.done ho9
                    · have hF9 : ((numP E 0 1099511627776 M9.tail).then fun n L' => .ok (Qy.mk ps [x] bD is ks n) L') = F := by rw [← hF8.out]; unfold limP; rw [hwl]; rfl
                      rw [hwl, passed_yes hwl] at hPL
                      have hNu := fun W (hr : Rd W B E 0 M9.tail) => mustNumber_any hr 0 1099511627776 (by decide) (by decide) (by decide)
                      clear hF8
                      replace hPL : Hid _ := hPL
                      replace hwl : Hid _ := hwl
                      cases h9 : numP E 0 1099511627776 M9.tail with
                      | bad a y =>
                        rw [h9] at hF9 hNu
                        have hF10 : Res.bad a y = F := hF9
                        subst hF10
                        clear hF9
                        replace hNu : Hid _ := hNu
                        replace h9 : Hid _ := h9
                        go_wp2_with (first
                          | (have hh := hPL.out (); go_at_call 35; (with_reducible refine Calls.mono hh ?_); clear hh; rintro e w9 ⟨rfl, ho9, hr9⟩)
                          | (have hh := hNu.out _ hr9; go_at_call 41; (with_reducible refine Calls.mono hh ?_); clear hh; rintro e w10 ⟨ho10, rfl⟩))
                        exact end_bad rfl (hZ.trans (hq8.out.only.trans (ho9.trans ho10)))
                      | ok nn M10 =>
                        rw [h9] at hF9 hNu
                        have hF10 : Res.ok (Qy.mk ps [x] bD is ks nn) M10 = F := hF9
                        subst hF10
                        clear hF9
                        replace hNu : Hid _ := hNu
                        replace h9 : Hid _ := h9
                        go_upto_region 14 with (first
                          | (have hh := hPL.out (); go_at_call 35; (with_reducible refine Calls.mono hh ?_); clear hh; rintro e w9 ⟨rfl, ho9, hr9⟩)
                          | (have hh := hNu.out _ hr9; go_at_call 41; (with_reducible refine Calls.mono hh ?_); clear hh; rintro e w10 ⟨ho10, _, rfl, rfl, hr10⟩; have hp10 := (hq8.out.on hlt hXr ho9 hr9).on hlt hXr ho10 hr10; obtain ⟨z0, z1, z2, z3, z4, z5, zf⟩ := hp10.cel; have lX := hp10.cel.lt; replace hp10 : Hid _ := hp10))
                        have hqF := hp10.out.put (q' := (Qy.mk ps [x] bD is ks nn)) hlt hXr (only_set w10 X 5 (.int .i64 nn)) (hp10.out.cel.set5 _) hp10.out.p hp10.out.e hp10.out.i hp10.out.k
                        clear hp10 z0 z1 z2 z3 z4 z5 zf lX ho9 ho10 hr9 hr10 hq8 hPL hNu
                        generalize w10.setCell ⟨X, 5, none⟩ (.int .i64 nn) = WF at *
                        replace hqF : Hid _ := hqF
                        obtain ⟨x0, x1, x2, x3, x4, x5, xf⟩ := hqF.out.cel
                        obtain ⟨yf, yl, yn, y0, y1, y2, y3, y4, y5⟩ := new28 hqF.out.only hlt
                        go_wp2_with fail
                        refine ret28 (V := IsQ w.heap.size) (x := (Qy.mk ps [x] bD is ks nn)) (.inl rfl) Tryz.results19 rfl rfl hqF.out.only hlt hqF.out.rd ?_
                        intro W9 ho9
                        exact hqF.out.done ho9
end Go.Proofs.YtefenbonjepjgaaGreatDoor
