/-
  Names and labels; nodes; keys.
-/
import Derived.Test.YtefenbonjepjgaaGreatDoorRet
namespace Go.Proofs.YtefenbonjepjgaaGreatDoor
open Go.ChangeShapes Go.WideShapes Go.ChangeAt Go.RowKit
set_option linter.unusedSimpArgs false
set_option linter.unusedVariables false

def Is2 (x : List UInt8 × List UInt8) (v : Value) (_ : World) : Prop := v = .tuple #[.string (txt x.1), .string (txt x.2)]
def IsNd (x : Nd) (v : Value) (_ : World) : Prop := v = .agg #[.string (txt x.v), .string (txt x.l)]
def IsKy (x : Ky) (v : Value) (_ : World) : Prop := v = .agg #[.string (txt x.n), .bool x.desc]
set_option maxRecDepth 100000 in
set_option maxHeartbeats 1000000 in
theorem na_any {B E d : Nat} {w : World} {L : List Tk} (h : Rd w B E d L) : Calls Tryz.prog 90 #[rp B] w (Ans w B E d (naP E L) Is2) := by
  have hQ := fun (_ : Unit) => passName_any h
  have hP := fun W (hr : Rd W B E d (passNameP E L).2) => pass_any hr [58]
  clear h
  generalize hF : naP E L = F
  unfold naP at hF
  generalize passNameP E L = P at *
  obtain ⟨nm, M⟩ := P
  dsimp only at hF hQ hP
  replace hQ : Hid _ := hQ
  cases hw : isW [58] M
  · rw [hw] at hF
    have hF2 : Res.ok (nm, []) M = F := hF
    subst hF2
    rw [hw, passed_no hw] at hP
    clear hF
    replace hP : Hid _ := hP
    replace hw : Hid _ := hw
    go_enter Tryz.func90, Tryz.ntmps90
    go_wp2_with (first
      | (have hh := hP.out _ hr1; go_at_call 35; (with_reducible refine Calls.mono hh ?_); clear hh; rintro e w2 ⟨rfl, ho2, hr2⟩)
      | (have hh := hQ.out (); go_at_call 113; (with_reducible refine Calls.mono hh ?_); clear hh; rintro e w1 ⟨ho1, _, rfl, rfl, hr1⟩))
    go_returns
    exact ⟨ho1.trans ho2, _, rfl, rfl, hr2⟩
  · rw [hw, if_pos rfl] at hF
    rw [hw, passed_yes hw] at hP
    have hM := fun W (hr : Rd W B E d M.tail) => mustName_any hr
    replace hP : Hid _ := hP
    replace hw : Hid _ := hw
    cases hN : nameP E M.tail with
    | bad a y =>
      rw [hN] at hF hM
      have hF2 : Res.bad a y = F := hF
      subst hF2
      clear hF
      replace hM : Hid _ := hM
      replace hN : Hid _ := hN
      go_enter Tryz.func90, Tryz.ntmps90
      go_wp2_with (first
        | (have hh := hP.out _ hr1; go_at_call 35; (with_reducible refine Calls.mono hh ?_); clear hh; rintro e w2 ⟨rfl, ho2, hr2⟩)
        | (have hh := hM.out _ hr2; go_at_call 66; (with_reducible refine Calls.mono hh ?_); clear hh; rintro e w3 ⟨ho3, rfl⟩)
        | (have hh := hQ.out (); go_at_call 113; (with_reducible refine Calls.mono hh ?_); clear hh; rintro e w1 ⟨ho1, _, rfl, rfl, hr1⟩))
      exact end_bad rfl (ho1.trans (ho2.trans ho3))
    | ok l M2 =>
      rw [hN] at hF hM
      have hF2 : Res.ok (nm, l) M2 = F := hF
      subst hF2
      clear hF
      replace hM : Hid _ := hM
      replace hN : Hid _ := hN
      go_enter Tryz.func90, Tryz.ntmps90
      go_wp2_with (first
        | (have hh := hP.out _ hr1; go_at_call 35; (with_reducible refine Calls.mono hh ?_); clear hh; rintro e w2 ⟨rfl, ho2, hr2⟩)
        | (have hh := hM.out _ hr2; go_at_call 66; (with_reducible refine Calls.mono hh ?_); clear hh; rintro e w3 ⟨ho3, _, rfl, rfl, hr3⟩)
        | (have hh := hQ.out (); go_at_call 113; (with_reducible refine Calls.mono hh ?_); clear hh; rintro e w1 ⟨ho1, _, rfl, rfl, hr1⟩))
      go_returns
      exact ⟨ho1.trans (ho2.trans ho3), _, rfl, rfl, hr3⟩
set_option maxRecDepth 100000 in
set_option maxHeartbeats 1000000 in
theorem node_any {B E d : Nat} {w : World} {L : List Tk} (h : Rd w B E d L) : Calls Tryz.prog 63 #[rp B] w (Ans w B E d (nodeP E L) IsNd) := by
  have hlt := h.lt
  have h0 := h.below (below_new w (.cells #[.string ⟨#[]⟩, .string ⟨#[]⟩] 66))
  have hZ := only_of_below (B := B) (below_new w (.cells #[.string ⟨#[]⟩, .string ⟨#[]⟩] 66))
  have hM1 := fun g hg => must1 h0 [40] g hg
  clear h h0
  generalize hF : nodeP E L = F
  unfold nodeP at hF
  cases hX : mustL E [40] L with
  | bad a y =>
    rw [hX] at hF hM1
    have hF2 : Res.bad a y = F := hF
    subst hF2
    clear hF
    replace hM1 : Hid _ := hM1
    replace hX : Hid _ := hX
    go_enter Tryz.func63, Tryz.ntmps63
    go_wp2_with (go_at_call 32; refine Calls.mono (hM1.out _ (by simp)) ?_; rintro e w1 ⟨ho1, rfl⟩)
    exact end_bad rfl (hZ.trans ((only_of_below (below_new _ _)).trans ho1))
  | ok u M =>
    rw [hX] at hF hM1
    have hF2 : ((naP E M).then fun x L => (mustL E [41] L).then fun _ L => .ok (Nd.mk x.1 x.2) L) = F := hF
    have hA := fun W (hr : Rd W B E d M) => na_any hr
    clear hF
    replace hM1 : Hid _ := hM1
    replace hX : Hid _ := hX
    cases hY : naP E M with
    | bad a y =>
      rw [hY] at hF2 hA
      have hF3 : Res.bad a y = F := hF2
      subst hF3
      clear hF2
      replace hA : Hid _ := hA
      replace hY : Hid _ := hY
      go_enter Tryz.func63, Tryz.ntmps63
      go_wp2_with (first
        | (go_at_call 32; refine Calls.mono (hM1.out _ (by simp)) ?_; rintro e w1 ⟨ho1, _, rfl, rfl, hr1⟩)
        | (have hh := hA.out _ hr1; go_at_call 90; (with_reducible refine Calls.mono hh ?_); clear hh; rintro e w2 ⟨ho2, rfl⟩))
      exact end_bad rfl (hZ.trans (((only_of_below (below_new _ _)).trans ho1).trans ho2))
    | ok x M2 =>
      rw [hY] at hF2 hA
      obtain ⟨nm, lb⟩ := x
      have hF3 : ((mustL E [41] M2).then fun _ L => .ok (Nd.mk nm lb) L) = F := hF2
      have hM2 := fun W (hr : Rd W B E d M2) g hg => must1 hr [41] g hg
      clear hF2
      replace hA : Hid _ := hA
      replace hY : Hid _ := hY
      cases hV : mustL E [41] M2 with
      | bad a y =>
        rw [hV] at hF3 hM2
        have hF4 : Res.bad a y = F := hF3
        subst hF4
        clear hF3
        replace hM2 : Hid _ := hM2
        replace hV : Hid _ := hV
        go_enter Tryz.func63, Tryz.ntmps63
        go_wp2_with (first
          | (have hh := hM2.out _ hr2 _ rfl; go_at_call 32; (with_reducible refine Calls.mono hh ?_); clear hh; rintro e w3 ⟨ho3, rfl⟩)
          | (go_at_call 32; refine Calls.mono (hM1.out _ (by simp)) ?_; clear hM1; rintro e w1 ⟨ho1, _, rfl, rfl, hr1⟩)
          | (have hh := hA.out _ hr1; go_at_call 90; (with_reducible refine Calls.mono hh ?_); clear hh; rintro e w2 ⟨ho2, _, rfl, rfl, hr2⟩))
        exact end_bad rfl (hZ.trans ((((only_of_below (below_new _ _)).trans ho1).trans ho2).trans ((only_of_below (below_new _ _)).trans ho3)))
      | ok u2 M3 =>
        rw [hV] at hF3 hM2
        have hF4 : Res.ok (Nd.mk nm lb) M3 = F := hF3
        subst hF4
        clear hF3
        replace hM2 : Hid _ := hM2
        replace hV : Hid _ := hV
        go_enter Tryz.func63, Tryz.ntmps63
        go_wp2_with (first
          | (have hh := hM2.out _ hr2 _ rfl; go_at_call 32; (with_reducible refine Calls.mono hh ?_); clear hh; rintro e w3 ⟨ho3, _, rfl, rfl, hr3⟩; have hW := (((only_of_below (B := B) (below_new (w.alloc (.cells #[.string ⟨#[]⟩, .string ⟨#[]⟩] 66)) (.cells #[.string ⟨#[40]⟩] 9))).trans ho1).trans ho2).trans ((only_of_below (B := B) (below_new w2 (.cells #[.string ⟨#[41]⟩] 9))).trans ho3); obtain ⟨yf, yl, yn, y0, y1⟩ := new66 hW hlt; clear ho1 ho2 ho3; replace hW : Hid _ := hW)
          | (go_at_call 32; refine Calls.mono (hM1.out _ (by simp)) ?_; clear hM1; rintro e w1 ⟨ho1, _, rfl, rfl, hr1⟩)
          | (have hh := hA.out _ hr1; go_at_call 90; (with_reducible refine Calls.mono hh ?_); clear hh; rintro e w2 ⟨ho2, _, rfl, rfl, hr2⟩))
        exact ret66 (.inl rfl) Tryz.results63 rfl rfl hW.out hlt hr3 (fun W _ => rfl)
set_option maxRecDepth 100000 in
set_option maxHeartbeats 1000000 in
theorem key_any {B E d : Nat} {w : World} {L : List Tk} (h : Rd w B E d L) : Calls Tryz.prog 40 #[rp B] w (Ans w B E d (keyP E L) IsKy) := by
  have hlt := h.lt
  have h0 := h.below (below_new w (.cells #[.string ⟨#[]⟩, .bool false] 82))
  have hZ := only_of_below (B := B) (below_new w (.cells #[.string ⟨#[]⟩, .bool false] 82))
  have hM1 := fun (_ : Unit) => mustName_any h0
  clear h h0
  generalize hF : keyP E L = F
  unfold keyP at hF
  cases hX : nameP E L with
  | bad a y =>
    rw [hX] at hF hM1
    have hF2 : Res.bad a y = F := hF
    subst hF2
    clear hF
    replace hM1 : Hid _ := hM1
    replace hX : Hid _ := hX
    go_enter Tryz.func40, Tryz.ntmps40
    go_wp2_with (have hh := hM1.out (); go_at_call 66; (with_reducible refine Calls.mono hh ?_); clear hh; rintro e w1 ⟨ho1, rfl⟩)
    exact end_bad rfl (hZ.trans ho1)
  | ok nm M =>
    rw [hX] at hF hM1
    have hF2 : (if isW [65, 83, 67] M then Res.ok (Ky.mk nm false) M.tail else if isW [68, 69, 83, 67] M then .ok ⟨nm, true⟩ M.tail else .ok ⟨nm, false⟩ M) = F := hF
    clear hF
    have hP := fun s W (hr : Rd W B E d M) => pass_any hr s
    have hPA := hP [65, 83, 67]
    have hPD := hP [68, 69, 83, 67]
    clear hP
    replace hM1 : Hid _ := hM1
    replace hX : Hid _ := hX
    have hfin : ∀ (w1 w2 : World), Only (· = B) (w.alloc (.cells #[.string ⟨#[]⟩, .bool false] 82)) w1 → Only (· = B) (w1.alloc (.cells #[.string (txt nm), .bool false] 82)) w2 → Only (· = B) (w.alloc (.cells #[.string ⟨#[]⟩, .bool false] 82)) w2 := fun w1 w2 h1 h2 => h1.trans ((only_of_below (below_new w1 (.cells #[.string (txt nm), .bool false] 82))).trans h2)
    replace hfin : Hid _ := hfin
    cases hw : isW [65, 83, 67] M
    · rw [hw] at hF2
      rw [hw, passed_no hw] at hPA
      replace hPA : Hid _ := hPA
      replace hw : Hid _ := hw
      cases hv : isW [68, 69, 83, 67] M
      · rw [hv] at hF2
        rw [hv, passed_no hv] at hPD
        simp only [Bool.false_eq_true, if_false, if_true] at hF2
        subst hF2
        replace hPD : Hid _ := hPD
        replace hv : Hid _ := hv
        go_enter Tryz.func40, Tryz.ntmps40
        go_upto_region 4 with (first
          | (have hh := hPD.out _ hr2; go_at_call 35; (with_reducible refine Calls.mono hh ?_); clear hh hPD; rintro e w3 ⟨rfl, ho3, hr3⟩; have hX3 := ho2.trans ho3; have z0 := new_cell (i := 0) (v := .string (txt nm)) hX3 hl1 rfl; have z1 := new_cell (i := 1) (v := .bool false) hX3 hl1 rfl; have zf := new_fr hX3 hl1; have hlX : w1.heap.size < w3.heap.size := hX3.lt (by simp))
          | (have hh := hPA.out _ (hr1.below (below_new w1 (.cells #[.string (txt nm), .bool false] 82))); go_at_call 35; (with_reducible refine Calls.mono hh ?_); clear hh; rintro e w2 ⟨rfl, ho2, hr2⟩)
          | (have hh := hM1.out (); go_at_call 66; (with_reducible refine Calls.mono hh ?_); clear hh; rintro e w1 ⟨ho1, _, rfl, rfl, hr1⟩; have hl1 : B < w1.heap.size := hr1.lt))
        have hW3 := hfin.out _ _ ho1 hX3
        have hsz := ho1.size
        have hcc := only_set w3 w1.heap.size 1
        have hW5 := fun v => only_put hW3 hsz (hcc v)
        have hr5 := fun v => hr3.turn (hcc v) hl1
        have z0' := fun v => (set_at w3 w1.heap.size (i := 1) (j := 0) v (by decide)).trans z0
        have z1' := fun v => set_same (v := v) z1
        clear hcc hW3 hX3 ho1 ho2 ho3
        generalize hg5 : w3.setCell ⟨w1.heap.size, 1, none⟩ (.bool false) = W5 at *
        have hW6 := hW5 (.bool false)
        have hr6 := hr5 (.bool false)
        have q0 := z0' (.bool false)
        have q1 := z1' (.bool false)
        rw [hg5] at hW6 hr6 q0 q1
        clear hW5 hr5 z0' z1' hg5
        obtain ⟨yf, yl, yn, y0, y1⟩ := new82 hW6 hlt
        replace hW6 : Hid _ := hW6
        go_wp2_with fail
        refine ret82 (V := IsKy) (.inl rfl) Tryz.results40 rfl rfl hW6.out hlt hr6 ?_
        intro W _
        rfl
      · rw [hv] at hF2
        rw [hv, passed_yes hv] at hPD
        simp only [Bool.false_eq_true, if_false, if_true] at hF2
        subst hF2
        replace hPD : Hid _ := hPD
        replace hv : Hid _ := hv
        go_enter Tryz.func40, Tryz.ntmps40
        go_upto_region 4 with (first
          | (have hh := hPD.out _ hr2; go_at_call 35; (with_reducible refine Calls.mono hh ?_); clear hh hPD; rintro e w3 ⟨rfl, ho3, hr3⟩; have hX3 := ho2.trans ho3; have z0 := new_cell (i := 0) (v := .string (txt nm)) hX3 hl1 rfl; have z1 := new_cell (i := 1) (v := .bool false) hX3 hl1 rfl; have zf := new_fr hX3 hl1; have hlX : w1.heap.size < w3.heap.size := hX3.lt (by simp))
          | (have hh := hPA.out _ (hr1.below (below_new w1 (.cells #[.string (txt nm), .bool false] 82))); go_at_call 35; (with_reducible refine Calls.mono hh ?_); clear hh; rintro e w2 ⟨rfl, ho2, hr2⟩)
          | (have hh := hM1.out (); go_at_call 66; (with_reducible refine Calls.mono hh ?_); clear hh; rintro e w1 ⟨ho1, _, rfl, rfl, hr1⟩; have hl1 : B < w1.heap.size := hr1.lt))
        have hW3 := hfin.out _ _ ho1 hX3
        have hsz := ho1.size
        have hcc := only_set w3 w1.heap.size 1
        have hW5 := fun v => only_put hW3 hsz (hcc v)
        have hr5 := fun v => hr3.turn (hcc v) hl1
        have z0' := fun v => (set_at w3 w1.heap.size (i := 1) (j := 0) v (by decide)).trans z0
        have z1' := fun v => set_same (v := v) z1
        clear hcc hW3 hX3 ho1 ho2 ho3
        generalize hg5 : w3.setCell ⟨w1.heap.size, 1, none⟩ (.bool true) = W5 at *
        have hW6 := hW5 (.bool true)
        have hr6 := hr5 (.bool true)
        have q0 := z0' (.bool true)
        have q1 := z1' (.bool true)
        rw [hg5] at hW6 hr6 q0 q1
        clear hW5 hr5 z0' z1' hg5
        obtain ⟨yf, yl, yn, y0, y1⟩ := new82 hW6 hlt
        replace hW6 : Hid _ := hW6
        go_wp2_with fail
        refine ret82 (V := IsKy) (.inl rfl) Tryz.results40 rfl rfl hW6.out hlt hr6 ?_
        intro W _
        rfl
    · rw [hw, if_pos rfl] at hF2
      rw [hw, passed_yes hw] at hPA
      subst hF2
      clear hPD
      replace hPA : Hid _ := hPA
      replace hw : Hid _ := hw
      go_enter Tryz.func40, Tryz.ntmps40
      go_wp2_with (first
        | (have hh := hPA.out _ (hr1.below (below_new w1 (.cells #[.string (txt nm), .bool false] 82))); go_at_call 35; (with_reducible refine Calls.mono hh ?_); clear hh; rintro e w2 ⟨rfl, ho2, hr2⟩; have z0 := new_cell (i := 0) (v := .string (txt nm)) ho2 hl1 rfl; have z1 := new_cell (i := 1) (v := .bool false) ho2 hl1 rfl; have hW := hfin.out _ _ ho1 ho2; obtain ⟨yf, yl, yn, y0, y1⟩ := new82 hW hlt; replace hW : Hid _ := hW; clear ho1 ho2)
        | (have hh := hM1.out (); go_at_call 66; (with_reducible refine Calls.mono hh ?_); clear hh; rintro e w1 ⟨ho1, _, rfl, rfl, hr1⟩; have hl1 : B < w1.heap.size := hr1.lt))
      exact ret82 (.inl rfl) Tryz.results40 rfl rfl hW.out hlt hr2 (fun W _ => rfl)
end Go.Proofs.YtefenbonjepjgaaGreatDoor
