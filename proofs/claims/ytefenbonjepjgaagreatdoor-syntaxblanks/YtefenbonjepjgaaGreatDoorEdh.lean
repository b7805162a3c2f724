/-
  Edges; items.
-/
import Derived.Test.YtefenbonjepjgaaGreatDoorEdg
namespace Go.Proofs.YtefenbonjepjgaaGreatDoor
open Go.ChangeShapes Go.WideShapes Go.ChangeAt Go.RowKit
set_option linter.unusedSimpArgs false
set_option linter.unusedVariables false

set_option maxRecDepth 100000 in
set_option maxHeartbeats 1000000 in
theorem edge_any {B E d : Nat} {w : World} {L : List Tk} (h : Rd w B E d L) : Calls Tryz.prog 64 #[rp B] w (Ans w B E d (edgeP E L) IsEd) := by
  have hlt := h.lt
  have h0 := h.below (below_new w (.cells #[.string ⟨#[]⟩, .string ⟨#[]⟩, .bool false, .int .i64 0, .int .i64 0, .int .i64 0] 64))
  have hZ := only_of_below (B := B) (below_new w (.cells #[.string ⟨#[]⟩, .string ⟨#[]⟩, .bool false, .int .i64 0, .int .i64 0, .int .i64 0] 64))
  have hP := fun (_ : Unit) => pass_any h0 [60]
  clear h h0
  generalize hF : edgeP E L = F
  unfold edgeP at hF
  have hF1 : ((mustsL E [[45], [91]] (passed [60] L)).then fun _ L1 => (bodyP E L1).then fun x L2 => (mustsL E [[93], [45]] L2).then fun _ L3 => if isW [60] L then .ok { x with back := true } L3 else (mustL E [62] L3).then fun _ L4 => .ok { x with back := false } L4) = F := hF
  clear hF
  generalize isW [60] L = b at *
  generalize passed [60] L = M at *
  have hM1 := fun W (hr : Rd W B E d M) g hg => must2 hr [45] [91] g hg
  replace hP : Hid _ := hP
  cases h1 : mustsL E [[45], [91]] M with
  | bad a y =>
    rw [h1] at hF1 hM1
    have hF2 : Res.bad a y = F := hF1
    subst hF2
    clear hF1
    replace hM1 : Hid _ := hM1
    replace h1 : Hid _ := h1
    go_enter Tryz.func64, Tryz.ntmps64
    go_wp2_with (first
      | (have hh := hP.out (); go_at_call 35; (with_reducible refine Calls.mono hh ?_); clear hh; rintro e w1 ⟨rfl, ho1, hr1⟩)
      | (have hh := hM1.out _ hr1 _ rfl; go_at_call 32; (with_reducible refine Calls.mono hh ?_); clear hh; rintro e w2 ⟨ho2, rfl⟩))
    exact end_bad rfl (hZ.trans (ho1.trans ((only_of_below (below_new _ _)).trans ho2)))
  | ok u M2 =>
    rw [h1] at hF1 hM1
    have hF2 : ((bodyP E M2).then fun x L2 => (mustsL E [[93], [45]] L2).then fun _ L3 => if b then .ok { x with back := true } L3 else (mustL E [62] L3).then fun _ L4 => .ok { x with back := false } L4) = F := hF1
    clear hF1
    have hB := fun W (hr : Rd W B E d M2) => body_any hr
    replace hM1 : Hid _ := hM1
    replace h1 : Hid _ := h1
    cases h2 : bodyP E M2 with
    | bad a y =>
      rw [h2] at hF2 hB
      have hF3 : Res.bad a y = F := hF2
      subst hF3
      clear hF2
      replace hB : Hid _ := hB
      replace h2 : Hid _ := h2
      go_enter Tryz.func64, Tryz.ntmps64
      go_wp2_with (first
        | (have hh := hP.out (); go_at_call 35; (with_reducible refine Calls.mono hh ?_); clear hh; rintro e w1 ⟨rfl, ho1, hr1⟩)
        | (have hh := hM1.out _ hr1 _ rfl; go_at_call 32; (with_reducible refine Calls.mono hh ?_); clear hh hM1; rintro e w2 ⟨ho2, _, rfl, rfl, hr2⟩)
        | (have hh := hB.out _ hr2; go_at_call 91; (with_reducible refine Calls.mono hh ?_); clear hh; rintro e w3 ⟨ho3, rfl⟩))
      exact end_bad rfl (hZ.trans (ho1.trans (((only_of_below (below_new _ _)).trans ho2).trans ho3)))
    | ok x M3 =>
      rw [h2] at hF2 hB
      have hF3 : ((mustsL E [[93], [45]] M3).then fun _ L3 => if b then .ok { x with back := true } L3 else (mustL E [62] L3).then fun _ L4 => .ok { x with back := false } L4) = F := hF2
      clear hF2
      have hM2 := fun W (hr : Rd W B E d M3) g hg => must2 hr [93] [45] g hg
      replace hB : Hid _ := hB
      replace h2 : Hid _ := h2
      cases h3 : mustsL E [[93], [45]] M3 with
      | bad a y =>
        rw [h3] at hF3 hM2
        have hF4 : Res.bad a y = F := hF3
        subst hF4
        clear hF3
        replace hM2 : Hid _ := hM2
        replace h3 : Hid _ := h3
        go_enter Tryz.func64, Tryz.ntmps64
        go_wp2_with (first
          | (have hh := hP.out (); go_at_call 35; (with_reducible refine Calls.mono hh ?_); clear hh; rintro e w1 ⟨rfl, ho1, hr1⟩)
          | (have hh := hM2.out _ (hr3.below (below_new w3 (.cells #[.string (txt x.v), .string (txt x.l), .bool x.back, .int .i64 x.mode, .int .i64 x.lo, .int .i64 x.hi] 64))); go_at_call 32; refine Calls.mono (hh _ (by simp)) ?_; clear hh; rintro e w4 ⟨ho4, rfl⟩)
          | (have hh := hM1.out _ hr1 _ rfl; go_at_call 32; (with_reducible refine Calls.mono hh ?_); clear hh hM1; rintro e w2 ⟨ho2, _, rfl, rfl, hr2⟩)
          | (have hh := hB.out _ hr2; go_at_call 91; (with_reducible refine Calls.mono hh ?_); clear hh; rintro e w3 ⟨ho3, _, rfl, rfl, hr3⟩))
        exact end_bad rfl (hZ.trans ((ho1.trans (((only_of_below (below_new _ _)).trans ho2).trans ho3)).trans ((only_of_below (below_new _ _)).trans ((only_of_below (below_new _ _)).trans ho4))))
      | ok u2 M4 =>
        rw [h3] at hF3 hM2
        have hF4 : (if b then .ok { x with back := true } M4 else (mustL E [62] M4).then fun _ L4 => .ok { x with back := false } L4) = F := hF3
        clear hF3
        replace hM2 : Hid _ := hM2
        replace h3 : Hid _ := h3
        go_enter Tryz.func64, Tryz.ntmps64
        go_upto_region 5 with (first
          | (have hh := hP.out (); go_at_call 35; (with_reducible refine Calls.mono hh ?_); clear hh; rintro e w1 ⟨rfl, ho1, hr1⟩)
          | (have hh := hM2.out _ (hr3.below (below_new w3 (.cells #[.string (txt x.v), .string (txt x.l), .bool x.back, .int .i64 x.mode, .int .i64 x.lo, .int .i64 x.hi] 64))); go_at_call 32; refine Calls.mono (hh _ (by simp)) ?_; clear hh hM2; rintro e w4 ⟨ho4, _, rfl, rfl, hr4⟩)
          | (have hh := hM1.out _ hr1 _ rfl; go_at_call 32; (with_reducible refine Calls.mono hh ?_); clear hh hM1; rintro e w2 ⟨ho2, _, rfl, rfl, hr2⟩)
          | (have hh := hB.out _ hr2; go_at_call 91; (with_reducible refine Calls.mono hh ?_); clear hh; rintro e w3 ⟨ho3, _, rfl, rfl, hr3⟩))
        have hl3 := hr3.lt
        have hX4 := (only_of_below (B := B) (below_new (w3.alloc (.cells #[.string (txt x.v), .string (txt x.l), .bool x.back, .int .i64 x.mode, .int .i64 x.lo, .int .i64 x.hi] 64)) (.cells #[.string ⟨#[93]⟩, .string ⟨#[45]⟩] 9))).trans ho4
        have hC := C6.new hX4 hl3
        have ho13 := ho1.trans (((only_of_below (B := B) (below_new w1 (.cells #[.string ⟨#[45]⟩, .string ⟨#[91]⟩] 9))).trans ho2).trans ho3)
        have hsz := ho13.size
        have hXr : w.heap.size < w3.heap.size := by have := hsz; simp at this; omega
        have hW := ho13.trans ((only_of_below (B := B) (below_new w3 (.cells #[.string (txt x.v), .string (txt x.l), .bool x.back, .int .i64 x.mode, .int .i64 x.lo, .int .i64 x.hi] 64))).trans hX4)
        generalize w3.heap.size = X at *
        have hXB : X ≠ B := by omega
        clear ho13 ho1 ho2 ho3 ho4 hX4 hr1 hr2 hr3 hP hB
        replace hC : Hid _ := hC
        replace hW : Hid _ := hW
        cases b
        · have hF5 : ((mustL E [62] M4).then fun _ L4 => .ok { x with back := false } L4) = F := hF4
          clear hF4
          have hM3 := fun g hg => must1 hr4 [62] g hg
          cases h4 : mustL E [62] M4 with
          | bad a y =>
            rw [h4] at hF5 hM3
            have hF6 : Res.bad a y = F := hF5
            subst hF6
            clear hF5
            replace hM3 : Hid _ := hM3
            replace h4 : Hid _ := h4
            go_wp2_with (go_at_call 32; refine Calls.mono (hM3.out _ (by simp)) ?_; rintro e w5 ⟨ho5, rfl⟩)
            exact end_bad rfl (hZ.trans (hW.out.trans ((only_of_below (below_new _ _)).trans ho5)))
          | ok u3 M5 =>
            rw [h4] at hF5 hM3
            have hF6 : Res.ok { x with back := false } M5 = F := hF5
            subst hF6
            clear hF5
            replace hM3 : Hid _ := hM3
            replace h4 : Hid _ := h4
            go_upto_region 7 with (go_at_call 32; refine Calls.mono (hM3.out _ (by simp)) ?_; rintro e w5 ⟨ho5, _, rfl, rfl, hr5⟩)
            have ho5' := (only_of_below (B := B) (below_new w4 (.cells #[.string ⟨#[62]⟩] 9))).trans ho5
            have hC5 := hC.out.only ho5' hXB
            have hW5 := hW.out.trans ho5'
            clear ho5 ho5' hC hW hr4
            have hlX : X < w5.heap.size := hC5.lt
            have hC7 := C6.set2 hC5 (.bool false)
            have hW7 := only_put hW5 hsz (only_set w5 X 2 (.bool false))
            have hr7 := hr5.turn (only_set w5 X 2 (.bool false)) hl3
            obtain ⟨c0, c1, c2, c3, c4, c5, cf⟩ := hC5
            clear hW5
            replace hC7 : Hid _ := hC7
            replace hW7 : Hid _ := hW7
            replace hr7 : Hid _ := hr7
            go_upto_region 8 with fail
            generalize w5.setCell ⟨X, 2, none⟩ (.bool false) = W7 at *
            clear c0 c1 c2 c3 c4 c5 cf hlX
            obtain ⟨c0, c1, c2, c3, c4, c5, cf⟩ := hC7.out
            obtain ⟨yf, yl, yn, y0, y1, y2, y3, y4, y5⟩ := new64 hW7.out hlt
            clear hC7
            go_wp2_with fail
            exact ret_ed Tryz.results64 rfl rfl hW7.out hlt hr7.out rfl rfl rfl rfl rfl rfl
        · have hF5 : Res.ok { x with back := true } M4 = F := hF4
          subst hF5
          clear hF4
          go_upto_region 7 with fail
          have hC5 := hC.out
          have hW5 := hW.out
          have hr5 := hr4
          clear hC hW hr4
          generalize w4 = w5 at *
          have hlX : X < w5.heap.size := hC5.lt
          have hC7 := C6.set2 hC5 (.bool true)
          have hW7 := only_put hW5 hsz (only_set w5 X 2 (.bool true))
          have hr7 := hr5.turn (only_set w5 X 2 (.bool true)) hl3
          obtain ⟨c0, c1, c2, c3, c4, c5, cf⟩ := hC5
          clear hW5
          replace hC7 : Hid _ := hC7
          replace hW7 : Hid _ := hW7
          replace hr7 : Hid _ := hr7
          go_upto_region 8 with fail
          generalize w5.setCell ⟨X, 2, none⟩ (.bool true) = W7 at *
          clear c0 c1 c2 c3 c4 c5 cf hlX
          obtain ⟨c0, c1, c2, c3, c4, c5, cf⟩ := hC7.out
          obtain ⟨yf, yl, yn, y0, y1, y2, y3, y4, y5⟩ := new64 hW7.out hlt
          clear hC7
          go_wp2_with fail
          exact ret_ed Tryz.results64 rfl rfl hW7.out hlt hr7.out rfl rfl rfl rfl rfl rfl
/-- An item that a call hands back. -/
def IsIt (b : Nat) (x : Itm) (v : Value) (w : World) : Prop := ∃ sp sn sc, v = .agg #[.int .i64 (opE x.x), .slice sp sn sc, .string (txt (nmE x.x)), .string (txt (prE x.x)), .int .i64 (kE x.x), .bool (bE x.x), .int .i64 (nE x.x), .string (txt (tE x.x)), .slice none 0 0, .string (txt x.n)] ∧ ExAt w (b ≤ ·) x.x (.slice sp sn sc)
set_option maxRecDepth 100000 in
set_option maxHeartbeats 1000000 in
theorem item_any {B E n : Nat} {w : World} {L : List Tk} (he : Reads B E 25 (lay E n).2.2 n) (hl : L.length < n) (h : Rd w B E 0 L) : Calls Tryz.prog 37 #[rp B] w (Ans w B E 0 (itemP E n L) (IsIt w.heap.size)) := by
  have hlt := h.lt
  have h0 := h.below (below_new w (.cells #[.int .i64 0, .slice none 0 0, .string ⟨#[]⟩, .string ⟨#[]⟩, .int .i64 0, .bool false, .int .i64 0, .string ⟨#[]⟩, .slice none 0 0, .string ⟨#[]⟩] 69))
  have hZ := only_of_below (B := B) (below_new w (.cells #[.int .i64 0, .slice none 0 0, .string ⟨#[]⟩, .string ⟨#[]⟩, .int .i64 0, .bool false, .int .i64 0, .string ⟨#[]⟩, .slice none 0 0, .string ⟨#[]⟩] 69))
  have hE := fun (_ : Unit) => he _ 0 L hl h0
  clear h h0 he
  generalize hF : itemP E n L = F
  unfold itemP exprA at hF
  cases h1 : (lay E n).2.2 0 L with
  | bad a y =>
    rw [h1] at hF hE
    have hF2 : Res.bad a y = F := hF
    subst hF2
    clear hF
    replace hE : Hid _ := hE
    replace h1 : Hid _ := h1
    go_enter Tryz.func37, Tryz.ntmps37
    go_wp2_with (have hh := hE.out (); go_at_call 25; (with_reducible refine Calls.mono hh ?_); clear hh; rintro e w1 ⟨ho1, rfl⟩)
    exact end_bad rfl (hZ.trans ho1)
  | ok x M =>
    rw [h1] at hF hE
    have hF2 : (if isW [65, 83] M then (nameP E M.tail).then fun n L => .ok (Itm.mk x n) L else .ok ⟨x, []⟩ M) = F := hF
    clear hF
    replace hE : Hid _ := hE
    replace h1 : Hid _ := h1
    go_enter Tryz.func37, Tryz.ntmps37
    go_upto_region 2 with (have hh := hE.out (); go_at_call 25; (with_reducible refine Calls.mono hh ?_); clear hh; rintro e w1 ⟨ho1, _, rfl, ⟨sp, sn, sc, rfl, hx⟩, hr1⟩)
    have hl1 := hr1.lt
    have hP := fun (_ : Unit) => pass_any (hr1.below (below_new w1 (.cells #[.int .i64 (opE x), .slice sp sn sc, .string (txt (nmE x)), .string (txt (prE x)), .int .i64 (kE x), .bool (bE x), .int .i64 (nE x), .string (txt (tE x)), .slice none 0 0, .string ⟨#[]⟩] 69))) [65, 83]
    have hsz := ho1.size
    have hXr : w.heap.size < w1.heap.size := by have := hsz; simp at this; omega
    have hx1 := ExAt.weakS (S' := fun g => w.heap.size + 1 ≤ g ∧ g < w1.heap.size) (fun g hg => hg) x _ (ExAt.lt x _ (ExAt.weak (c := w.heap.size + 1) (by simp) x _ hx))
    have hx2 := hx1.keep (below_new w1 (.cells #[.int .i64 (opE x), .slice sp sn sc, .string (txt (nmE x)), .string (txt (prE x)), .int .i64 (kE x), .bool (bE x), .int .i64 (nE x), .string (txt (tE x)), .slice none 0 0, .string ⟨#[]⟩] 69))
    have hW2 := ho1.trans (only_of_below (B := B) (below_new w1 (.cells #[.int .i64 (opE x), .slice sp sn sc, .string (txt (nmE x)), .string (txt (prE x)), .int .i64 (kE x), .bool (bE x), .int .i64 (nE x), .string (txt (tE x)), .slice none 0 0, .string ⟨#[]⟩] 69)))
    clear hx hx1 hr1
    replace hW2 : Hid _ := hW2
    replace hx2 : Hid _ := hx2
    cases hw : isW [65, 83] M
    · rw [hw] at hF2 hP
      have hF3 : Res.ok (Itm.mk x []) M = F := hF2
      subst hF3
      rw [passed_no hw] at hP
      clear hF2
      replace hP : Hid _ := hP
      replace hw : Hid _ := hw
      go_upto_region 4 with (have hh := hP.out (); go_at_call 35; (with_reducible refine Calls.mono hh ?_); clear hh; rintro e w2 ⟨rfl, ho2, hr2⟩)
      have z0 := new_cell (i := 0) (v := .int .i64 (opE x)) ho2 hl1 rfl
      have z1 := new_cell (i := 1) (v := .slice sp sn sc) ho2 hl1 rfl
      have z2 := new_cell (i := 2) (v := .string (txt (nmE x))) ho2 hl1 rfl
      have z3 := new_cell (i := 3) (v := .string (txt (prE x))) ho2 hl1 rfl
      have z4 := new_cell (i := 4) (v := .int .i64 (kE x)) ho2 hl1 rfl
      have z5 := new_cell (i := 5) (v := .bool (bE x)) ho2 hl1 rfl
      have z6 := new_cell (i := 6) (v := .int .i64 (nE x)) ho2 hl1 rfl
      have z7 := new_cell (i := 7) (v := .string (txt (tE x))) ho2 hl1 rfl
      have z8 := new_cell (i := 8) (v := .slice none 0 0) ho2 hl1 rfl
      have z9 := new_cell (i := 9) (v := .string ⟨#[]⟩) ho2 hl1 rfl
      have hW := hW2.out.trans ho2
      have hx3 := ExAt.onlyS ho2 (fun g hg e => by subst e; exact absurd hg.1 (by omega)) x _ hx2.out
      obtain ⟨yf, yl, yn, y0, y1, y2, y3, y4, y5, y6, y7, y8, y9⟩ := new69 hW hlt
      clear ho2 hP hW2 hx2
      replace hW : Hid _ := hW
      replace hx3 : Hid _ := hx3
      replace hr2 : Hid _ := hr2
      go_wp2_with fail
      refine ret69 (V := IsIt w.heap.size) (x := Itm.mk x []) (.inl rfl) Tryz.results37 rfl rfl hW.out hlt hr2.out ?_
      intro W5 ho5
      exact ⟨sp, sn, sc, rfl, ExAt.weakS (fun g hg => Nat.le_of_succ_le hg.1) x _ (ExAt.onlyS ho5 (fun g hg e => by subst e; exact absurd hg.1 (by omega)) x _ hx3.out)⟩
    · rw [hw, if_pos rfl] at hF2
      rw [hw, passed_yes hw] at hP
      have hM := fun W (hr : Rd W B E 0 M.tail) => mustName_any hr
      replace hP : Hid _ := hP
      replace hw : Hid _ := hw
      cases h2 : nameP E M.tail with
      | bad a y =>
        rw [h2] at hF2 hM
        have hF3 : Res.bad a y = F := hF2
        subst hF3
        clear hF2
        replace hM : Hid _ := hM
        replace h2 : Hid _ := h2
        go_wp2_with (first
          | (have hh := hP.out (); go_at_call 35; (with_reducible refine Calls.mono hh ?_); clear hh; rintro e w2 ⟨rfl, ho2, hr2⟩)
          | (have hh := hM.out _ hr2; go_at_call 66; (with_reducible refine Calls.mono hh ?_); clear hh; rintro e w3 ⟨ho3, rfl⟩))
        exact end_bad rfl (hZ.trans (hW2.out.trans (ho2.trans ho3)))
      | ok nm M2 =>
        rw [h2] at hF2 hM
        have hF3 : Res.ok (Itm.mk x nm) M2 = F := hF2
        subst hF3
        clear hF2
        replace hM : Hid _ := hM
        replace h2 : Hid _ := h2
        go_upto_region 4 with (first
          | (have hh := hP.out (); go_at_call 35; (with_reducible refine Calls.mono hh ?_); clear hh; rintro e w2 ⟨rfl, ho2, hr2⟩)
          | (have hh := hM.out _ hr2; go_at_call 66; (with_reducible refine Calls.mono hh ?_); clear hh; rintro e w3 ⟨ho3, _, rfl, rfl, hr3⟩; have hoX := ho2.trans ho3; have q9 := new_cell (i := 9) (v := .string ⟨#[]⟩) hoX hl1 rfl; have qf := new_fr hoX hl1; have qlt : w1.heap.size < w3.heap.size := hoX.lt (by simp)))
        have p0 := new_cell (i := 0) (v := .int .i64 (opE x)) hoX hl1 rfl
        have p1 := new_cell (i := 1) (v := .slice sp sn sc) hoX hl1 rfl
        have p2 := new_cell (i := 2) (v := .string (txt (nmE x))) hoX hl1 rfl
        have p3 := new_cell (i := 3) (v := .string (txt (prE x))) hoX hl1 rfl
        have p4 := new_cell (i := 4) (v := .int .i64 (kE x)) hoX hl1 rfl
        have p5 := new_cell (i := 5) (v := .bool (bE x)) hoX hl1 rfl
        have p6 := new_cell (i := 6) (v := .int .i64 (nE x)) hoX hl1 rfl
        have p7 := new_cell (i := 7) (v := .string (txt (tE x))) hoX hl1 rfl
        have p8 := new_cell (i := 8) (v := .slice none 0 0) hoX hl1 rfl
        have hW3 := hW2.out.trans hoX
        have hx3 := ExAt.onlyS hoX (fun g hg e => by subst e; exact absurd hg.1 (by omega)) x _ hx2.out
        have ho9 := only_set w3 w1.heap.size 9 (.string (txt nm))
        have hW := only_put hW3 hsz ho9
        have hx4 := ExAt.onlyS ho9 (fun g hg e => by subst e; exact absurd hg.2 (by omega)) x _ hx3
        have hr4 := hr3.turn ho9 hl1
        have s0 := (set_at w3 w1.heap.size (i := 9) (j := 0) (.string (txt nm)) (by decide)).trans p0
        have s1 := (set_at w3 w1.heap.size (i := 9) (j := 1) (.string (txt nm)) (by decide)).trans p1
        have s2 := (set_at w3 w1.heap.size (i := 9) (j := 2) (.string (txt nm)) (by decide)).trans p2
        have s3 := (set_at w3 w1.heap.size (i := 9) (j := 3) (.string (txt nm)) (by decide)).trans p3
        have s4 := (set_at w3 w1.heap.size (i := 9) (j := 4) (.string (txt nm)) (by decide)).trans p4
        have s5 := (set_at w3 w1.heap.size (i := 9) (j := 5) (.string (txt nm)) (by decide)).trans p5
        have s6 := (set_at w3 w1.heap.size (i := 9) (j := 6) (.string (txt nm)) (by decide)).trans p6
        have s7 := (set_at w3 w1.heap.size (i := 9) (j := 7) (.string (txt nm)) (by decide)).trans p7
        have s8 := (set_at w3 w1.heap.size (i := 9) (j := 8) (.string (txt nm)) (by decide)).trans p8
        have s9 := set_same (v := .string (txt nm)) q9
        clear ho2 ho3 hoX hP hW2 hx2 hW3 hx3 ho9 hr3 q9 qf qlt
        clear p0 p1 p2 p3 p4 p5 p6 p7 p8
        generalize w3.setCell ⟨w1.heap.size, 9, none⟩ (.string (txt nm)) = W7 at *
        obtain ⟨yf, yl, yn, y0, y1, y2, y3, y4, y5, y6, y7, y8, y9⟩ := new69 hW hlt
        replace hW : Hid _ := hW
        replace hx4 : Hid _ := hx4
        replace hr4 : Hid _ := hr4
        go_wp2_with fail
        refine ret69 (V := IsIt w.heap.size) (x := Itm.mk x nm) (.inl rfl) Tryz.results37 rfl rfl hW.out hlt hr4.out ?_
        intro W5 ho5
        exact ⟨sp, sn, sc, rfl, ExAt.weakS (fun g hg => Nat.le_of_succ_le hg.1) x _ (ExAt.onlyS ho5 (fun g hg e => by subst e; exact absurd hg.1 (by omega)) x _ hx4.out)⟩
end Go.Proofs.YtefenbonjepjgaaGreatDoor
