/-
  What stands in brackets.
-/
import Derived.Test.YtkcnpbckmdgfnaaGreatDoorDpr
namespace Go.Proofs.YtkcnpbckmdgfnaaGreatDoor
open Go.ChangeShapes Go.WideShapes Go.ChangeAt Go.RowKit
set_option linter.unusedSimpArgs false
set_option linter.unusedVariables false

theorem musts_one (E : Nat) (s : List UInt8) (L : List Tk) : mustsL E [s] L = mustL E s L := by
  unfold mustsL mustL
  split <;> rfl
theorem must1 {W : World} {B E d : Nat} {L : List Tk} (h : Rd W B E d L) (s : List UInt8) (g : Nat) (hg : g = W.heap.size) :
    Calls Tryz.prog 55 #[rp B, .slice (some ⟨g, 0, none⟩) 1 1] (W.alloc (.cells #[.string ⟨s.toArray⟩] 9)) (Ans (W.alloc (.cells #[.string ⟨s.toArray⟩] 9)) B E d (mustL E s L) NoV) := by
  subst hg
  have := must_any (h.below (below_new W (.cells #[.string ⟨s.toArray⟩] 9))) [s] (some ⟨W.heap.size, 0, none⟩) 1 (ss_one W s) (by simp) (fun g o e => by cases e; have := h.lt; omega)
  rw [musts_one] at this
  exact this
theorem must2 {W : World} {B E d : Nat} {L : List Tk} (h : Rd W B E d L) (s r : List UInt8) (g : Nat) (hg : g = W.heap.size) :
    Calls Tryz.prog 55 #[rp B, .slice (some ⟨g, 0, none⟩) 2 2] (W.alloc (.cells #[.string ⟨s.toArray⟩, .string ⟨r.toArray⟩] 9)) (Ans (W.alloc (.cells #[.string ⟨s.toArray⟩, .string ⟨r.toArray⟩] 9)) B E d (mustsL E [s, r] L) NoV) := by
  subst hg
  exact must_any (h.below (below_new W (.cells #[.string ⟨s.toArray⟩, .string ⟨r.toArray⟩] 9))) [s, r] (some ⟨W.heap.size, 0, none⟩) 2 (ss_two W s r) (by simp) (fun g o e => by cases e; have := h.lt; omega)
/-- The nine cells of an expression in a block of its own. -/
theorem x_cells {w w1 : World} {B : Nat} {x : Ex} {sp : Option Addr} {sn sc : Nat} (ho : Only (· = B) (w.alloc (.cells #[.int .i64 (opE x), .slice sp sn sc, .string (txt (nmE x)), .string (txt (prE x)), .int .i64 (kE x), .bool (bE x), .int .i64 (nE x), .string (txt (tE x)), .slice none 0 0] 39)) w1) (hB : B < w.heap.size) :
    w1.cell? ⟨w.heap.size, 0, none⟩ = some (.int .i64 (opE x)) ∧ w1.cell? ⟨w.heap.size, 1, none⟩ = some (.slice sp sn sc) ∧ w1.cell? ⟨w.heap.size, 2, none⟩ = some (.string (txt (nmE x))) ∧ w1.cell? ⟨w.heap.size, 3, none⟩ = some (.string (txt (prE x))) ∧
    w1.cell? ⟨w.heap.size, 4, none⟩ = some (.int .i64 (kE x)) ∧ w1.cell? ⟨w.heap.size, 5, none⟩ = some (.bool (bE x)) ∧ w1.cell? ⟨w.heap.size, 6, none⟩ = some (.int .i64 (nE x)) ∧ w1.cell? ⟨w.heap.size, 7, none⟩ = some (.string (txt (tE x))) ∧ w1.cell? ⟨w.heap.size, 8, none⟩ = some (.slice none 0 0) :=
  ⟨new_cell ho hB rfl, new_cell ho hB rfl, new_cell ho hB rfl, new_cell ho hB rfl, new_cell ho hB rfl, new_cell ho hB rfl, new_cell ho hB rfl, new_cell ho hB rfl, new_cell ho hB rfl⟩
set_option maxRecDepth 100000 in
set_option maxHeartbeats 400000 in
theorem inside_any {B E K n : Nat} {p : PR} (hK : Enters K) (hp : Reads B E K p n) {w : World} {d : Nat} {L : List Tk} (h : Rd w B E d L) (hl : L.length ≤ n) :
    Calls Tryz.prog 190 #[rp B, .func (.func K) #[rp B] #[]] w (Ans w B E d (insideP E p d L) (IsEx w.heap.size)) := by
  have hlt := h.lt
  have h0 := h.below (below_new w (.cells #[.int .i64 0, .slice none 0 0, .string ⟨#[]⟩, .string ⟨#[]⟩, .int .i64 0, .bool false, .int .i64 0, .string ⟨#[]⟩, .slice none 0 0] 39))
  have hR := fun w1 (hb : Below (w.alloc (.cells #[.int .i64 0, .slice none 0 0, .string ⟨#[]⟩, .string ⟨#[]⟩, .int .i64 0, .bool false, .int .i64 0, .string ⟨#[]⟩, .slice none 0 0] 39)).heap.size (w.alloc (.cells #[.int .i64 0, .slice none 0 0, .string ⟨#[]⟩, .string ⟨#[]⟩, .int .i64 0, .bool false, .int .i64 0, .string ⟨#[]⟩, .slice none 0 0] 39)) w1) => h0.below hb
  have hN := fun g hg => isNext1 h0 [40] _ g (Below.refl _ _) hg
  have hq := fun w1 hb => refusal_any (w := w1) (hR w1 hb) 81
  have hD := fun (hne : L ≠ []) w1 hb => deeper_any hK hp (hR w1 hb) hne hl
  clear h h0 hK hp
  unfold insideP
  cases hw : isW [40] L
  · rw [hw] at hN
    unfold refV at hq
    clear hR hD
    simp only [Bool.false_eq_true, if_false]
    replace hq : Hid _ := hq
    replace hN : Hid _ := hN
    replace hw : Hid _ := hw
    go_enter Tryz.func190, Tryz.ntmps190
    go_wp2_with (first
      | (go_at_call 61; refine Calls.mono (hN.out _ (by simp)) ?_; rintro e w1 ⟨rfl, hb1⟩)
      | (go_at_call 86; refine Calls.mono (hq.out _ hb1) ?_; rintro e w2 ⟨rfl, hb2⟩))
    exact end_bad rfl (Below.only _ (below_on (below_new _ _) (below_on hb1 hb2)))
  · rw [hw] at hN
    have hD := hD (isW_ne hw)
    rw [if_pos rfl]
    clear hq hR
    replace hN : Hid _ := hN
    replace hw : Hid _ := hw
    cases hX : deepP E p d L with
    | bad a y =>
      rw [hX] at hD
      replace hD : Hid _ := hD
      replace hX : Hid _ := hX
      go_enter Tryz.func190, Tryz.ntmps190
      go_wp2_with (first
        | (go_at_call 61; refine Calls.mono (hN.out _ (by simp)) ?_; rintro e w1 ⟨rfl, hb1⟩)
        | (go_at_call 126; refine Calls.mono (hD.out _ hb1) ?_; rintro e w2 ⟨ho2, rfl⟩))
      exact end_bad rfl ((Below.only _ (below_on (below_new _ _) hb1)).trans ho2)
    | ok x M =>
      rw [hX] at hD
      show Calls Tryz.prog 190 _ w (Ans w B E d ((mustL E [41] M).then fun _ L => .ok x L) (IsEx w.heap.size))
      have hM := fun W g (hr : Rd W B E d M) hg => must1 hr [41] g hg
      replace hD : Hid _ := hD
      replace hX : Hid _ := hX
      cases hY : mustL E [41] M with
      | bad a y =>
        rw [hY] at hM
        replace hM : Hid _ := hM
        replace hY : Hid _ := hY
        show Calls Tryz.prog 190 _ w (Ans w B E d (.bad a y) (IsEx w.heap.size))
        go_enter Tryz.func190, Tryz.ntmps190
        go_wp2_with (first
          | (go_at_call 61; refine Calls.mono (hN.out _ (by simp)) ?_; rintro e w1 ⟨rfl, hb1⟩)
          | (go_at_call 126; refine Calls.mono (hD.out _ hb1) ?_; rintro e w2 ⟨ho2, _, rfl, ⟨sp, sn, sc, rfl, hx⟩, hr2⟩; have hr3 := hr2.below (below_new w2 (.cells #[.int .i64 (opE x), .slice sp sn sc, .string (txt (nmE x)), .string (txt (prE x)), .int .i64 (kE x), .bool (bE x), .int .i64 (nE x), .string (txt (tE x)), .slice none 0 0] 39)); have hm := fun g hg => hM.out _ g hr3 hg)
          | (go_at_call 55; refine Calls.mono (hm _ (by simp)) ?_; clear hm; rintro e w3 ⟨ho3, rfl⟩))
        exact end_bad rfl (((Below.only _ (below_on (below_new _ _) hb1)).trans ho2).trans ((only_of_below (below_new w2 (.cells #[.int .i64 (opE x), .slice sp sn sc, .string (txt (nmE x)), .string (txt (prE x)), .int .i64 (kE x), .bool (bE x), .int .i64 (nE x), .string (txt (tE x)), .slice none 0 0] 39))).trans ((only_of_below (below_new _ _)).trans ho3)))
      | ok u M2 =>
        rw [hY] at hM
        replace hM : Hid _ := hM
        replace hY : Hid _ := hY
        show Calls Tryz.prog 190 _ w (Ans w B E d (.ok x M2) (IsEx w.heap.size))
        go_enter Tryz.func190, Tryz.ntmps190
        go_upto_region 5 with (first
          | (go_at_call 61; refine Calls.mono (hN.out _ (by simp)) ?_; rintro e w1 ⟨rfl, hb1⟩)
          | (go_at_call 126; refine Calls.mono (hD.out _ hb1) ?_; rintro e w2 ⟨ho2, _, rfl, ⟨sp, sn, sc, rfl, hx⟩, hr2⟩; have hr3 := hr2.below (below_new w2 (.cells #[.int .i64 (opE x), .slice sp sn sc, .string (txt (nmE x)), .string (txt (prE x)), .int .i64 (kE x), .bool (bE x), .int .i64 (nE x), .string (txt (tE x)), .slice none 0 0] 39)); have hm := fun g hg => hM.out _ g hr3 hg)
          | (go_at_call 55; refine Calls.mono (hm _ (by simp)) ?_; clear hm; rintro e w3 ⟨ho3, _, rfl, rfl, hr4⟩))
        have hl2 := hr2.lt
        have hX3 := (only_of_below (B := B) (below_new (w2.alloc (.cells #[.int .i64 (opE x), .slice sp sn sc, .string (txt (nmE x)), .string (txt (prE x)), .int .i64 (kE x), .bool (bE x), .int .i64 (nE x), .string (txt (tE x)), .slice none 0 0] 39)) (.cells #[.string ⟨#[41]⟩] 9))).trans ho3
        have hW := (((only_of_below (B := B) hb1).trans ho2).trans (only_of_below (below_new w2 (.cells #[.int .i64 (opE x), .slice sp sn sc, .string (txt (nmE x)), .string (txt (prE x)), .int .i64 (kE x), .bool (bE x), .int .i64 (nE x), .string (txt (tE x)), .slice none 0 0] 39)))).trans hX3
        have hs1 : w.heap.size + 1 ≤ w1.heap.size := by have := hb1.size; simpa using this
        have hx3 := ExAt.only ((only_of_below (below_new w2 (.cells #[.int .i64 (opE x), .slice sp sn sc, .string (txt (nmE x)), .string (txt (prE x)), .int .i64 (kE x), .bool (bE x), .int .i64 (nE x), .string (txt (tE x)), .slice none 0 0] 39))).trans hX3) (by omega) x _ (ExAt.weak (c := w.heap.size + 1) hs1 x _ hx)
        obtain ⟨z0, z1, z2, z3, z4, z5, z6, z7, z8⟩ := x_cells hX3 hl2
        obtain ⟨yf, yl, yn, y0, y1, y2, y3, y4, y5, y6, y7, y8⟩ := res_cells hW hlt
        clear hx ho2 ho3 hb1 hr2 hr3 hX3
        replace hW : Hid _ := hW
        replace hx3 : Hid _ := hx3
        replace hr4 : Hid _ := hr4
        go_wp2_with fail
        exact ret_ex (.inl rfl) Tryz.results190 rfl rfl hW.out hlt hx3.out hr4.out rfl rfl rfl rfl rfl rfl rfl rfl rfl
end Go.Proofs.YtkcnpbckmdgfnaaGreatDoor
