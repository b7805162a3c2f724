/-
  Edges: what stands in their brackets, and around them.
-/
import Derived.Test.YtefenbonjepjgaaGreatDoorNod
namespace Go.Proofs.YtefenbonjepjgaaGreatDoor
open Go.ChangeShapes Go.WideShapes Go.ChangeAt Go.RowKit
set_option linter.unusedSimpArgs false
set_option linter.unusedVariables false

/-- Six cells of a block of the call's own. -/
structure C6 (w : World) (X : Nat) (a b c d e f : Value) : Prop where
  c0 : w.cell? ⟨X, 0, none⟩ = some a
  c1 : w.cell? ⟨X, 1, none⟩ = some b
  c2 : w.cell? ⟨X, 2, none⟩ = some c
  c3 : w.cell? ⟨X, 3, none⟩ = some d
  c4 : w.cell? ⟨X, 4, none⟩ = some e
  c5 : w.cell? ⟨X, 5, none⟩ = some f
  fr : ∀ i, w.frozen? ⟨X, i, none⟩ = false
theorem C6.lt {w : World} {X : Nat} {a b c d e f : Value} (h : C6 w X a b c d e f) : X < w.heap.size := World.block_lt_of_cell? w _ h.c0
theorem C6.new {w w1 : World} {B t : Nat} {a b c d e f : Value} (ho : Only (· = B) (w.alloc (.cells #[a, b, c, d, e, f] t)) w1) (hB : B < w.heap.size) : C6 w1 w.heap.size a b c d e f :=
  ⟨new_cell ho hB rfl, new_cell ho hB rfl, new_cell ho hB rfl, new_cell ho hB rfl, new_cell ho hB rfl, new_cell ho hB rfl, fun i => new_fr ho hB i⟩
theorem C6.only {w w' : World} {X B : Nat} {a b c d e f : Value} (h : C6 w X a b c d e f) (ho : Only (· = B) w w') (hX : X ≠ B) : C6 w' X a b c d e f :=
  ⟨(ho.cell h.lt hX).trans h.c0, (ho.cell h.lt hX).trans h.c1, (ho.cell h.lt hX).trans h.c2, (ho.cell h.lt hX).trans h.c3, (ho.cell h.lt hX).trans h.c4, (ho.cell h.lt hX).trans h.c5, fun i => (ho.frozen h.lt hX).trans (h.fr i)⟩
theorem C6.set2 {w : World} {X : Nat} {a b c d e f : Value} (h : C6 w X a b c d e f) (v : Value) : C6 (w.setCell ⟨X, 2, none⟩ v) X a b v d e f :=
  ⟨(set_at _ _ _ (by decide)).trans h.c0, (set_at _ _ _ (by decide)).trans h.c1, set_same h.c2, (set_at _ _ _ (by decide)).trans h.c3, (set_at _ _ _ (by decide)).trans h.c4, (set_at _ _ _ (by decide)).trans h.c5, fun i => (set_fr _ _ _ _).trans (h.fr i)⟩
theorem C6.set3 {w : World} {X : Nat} {a b c d e f : Value} (h : C6 w X a b c d e f) (v : Value) : C6 (w.setCell ⟨X, 3, none⟩ v) X a b c v e f :=
  ⟨(set_at _ _ _ (by decide)).trans h.c0, (set_at _ _ _ (by decide)).trans h.c1, (set_at _ _ _ (by decide)).trans h.c2, set_same h.c3, (set_at _ _ _ (by decide)).trans h.c4, (set_at _ _ _ (by decide)).trans h.c5, fun i => (set_fr _ _ _ _).trans (h.fr i)⟩
theorem C6.set4 {w : World} {X : Nat} {a b c d e f : Value} (h : C6 w X a b c d e f) (v : Value) : C6 (w.setCell ⟨X, 4, none⟩ v) X a b c d v f :=
  ⟨(set_at _ _ _ (by decide)).trans h.c0, (set_at _ _ _ (by decide)).trans h.c1, (set_at _ _ _ (by decide)).trans h.c2, (set_at _ _ _ (by decide)).trans h.c3, set_same h.c4, (set_at _ _ _ (by decide)).trans h.c5, fun i => (set_fr _ _ _ _).trans (h.fr i)⟩
theorem C6.set5 {w : World} {X : Nat} {a b c d e f : Value} (h : C6 w X a b c d e f) (v : Value) : C6 (w.setCell ⟨X, 5, none⟩ v) X a b c d e v :=
  ⟨(set_at _ _ _ (by decide)).trans h.c0, (set_at _ _ _ (by decide)).trans h.c1, (set_at _ _ _ (by decide)).trans h.c2, (set_at _ _ _ (by decide)).trans h.c3, (set_at _ _ _ (by decide)).trans h.c4, set_same h.c5, fun i => (set_fr _ _ _ _).trans (h.fr i)⟩

def IsEd (x : Ed) (v : Value) (_ : World) : Prop := v = .agg #[.string (txt x.v), .string (txt x.l), .bool x.back, .int .i64 x.mode, .int .i64 x.lo, .int .i64 x.hi]
/-- The end of a call that hands back the six cells of its own block X. -/
theorem ret_ed {fn : Func} {q : Tmp} {act : Act} {w w1 : World} {B E d : Nat} {x : Ed} {L : List Tk} {v0 v1 v2 v3 v4 v5 : Value} (hf : fn.results = #[.cell q 64]) (hd : act.defers = [])
    (hq : act.tmps.getD q undef = .pointer (some ⟨w.heap.size, 0, none⟩)) (ho : Only (· = B) (w.alloc (.cells #[.string ⟨#[]⟩, .string ⟨#[]⟩, .bool false, .int .i64 0, .int .i64 0, .int .i64 0] 64)) w1) (hB : B < w.heap.size) (hr : Rd w1 B E d L)
    (e0 : v0 = .string (txt x.v)) (e1 : v1 = .string (txt x.l)) (e2 : v2 = .bool x.back) (e3 : v3 = .int .i64 x.mode) (e4 : v4 = .int .i64 x.lo) (e5 : v5 = .int .i64 x.hi) :
    bodyPost Tryz.prog fn (Ans w B E d (.ok x L) IsEd) .ret act ((((((w1.setCell ⟨w.heap.size, 0, none⟩ v0).setCell ⟨w.heap.size, 1, none⟩ v1).setCell ⟨w.heap.size, 2, none⟩ v2).setCell ⟨w.heap.size, 3, none⟩ v3).setCell ⟨w.heap.size, 4, none⟩ v4).setCell ⟨w.heap.size, 5, none⟩ v5) := by
  subst e0 e1 e2 e3 e4 e5
  exact ret64 (V := IsEd) (.inl rfl) hf hd hq ho hB hr (fun W _ => rfl)
set_option maxRecDepth 100000 in
set_option maxHeartbeats 1000000 in
theorem body_any {B E d : Nat} {w : World} {L : List Tk} (h : Rd w B E d L) : Calls Tryz.prog 91 #[rp B] w (Ans w B E d (bodyP E L) IsEd) := by
  have hlt := h.lt
  have h0 := h.below (below_new w (.cells #[.string ⟨#[]⟩, .string ⟨#[]⟩, .bool false, .int .i64 0, .int .i64 0, .int .i64 0] 64))
  have hZ := only_of_below (B := B) (below_new w (.cells #[.string ⟨#[]⟩, .string ⟨#[]⟩, .bool false, .int .i64 0, .int .i64 0, .int .i64 0] 64))
  have hA := fun (_ : Unit) => na_any h0
  clear h h0
  generalize hF : bodyP E L = F
  unfold bodyP at hF
  cases hY : naP E L with
  | bad a y =>
    rw [hY] at hF hA
    have hF2 : Res.bad a y = F := hF
    subst hF2
    clear hF
    replace hA : Hid _ := hA
    replace hY : Hid _ := hY
    go_enter Tryz.func91, Tryz.ntmps91
    go_wp2_with (have hh := hA.out (); go_at_call 90; (with_reducible refine Calls.mono hh ?_); clear hh; rintro e w1 ⟨ho1, rfl⟩)
    exact end_bad rfl (hZ.trans ho1)
  | ok x M =>
    rw [hY] at hF hA
    obtain ⟨nm, lb⟩ := x
    have hF2 : (if (!isW [42] M) = true then Res.ok (Ed.mk nm lb false 0 0 0) M
      else if isW [83, 72, 79, 82, 84, 69, 83, 84] M.tail then (numP E 1 8 M.tail.tail).then fun h L => .ok ⟨nm, lb, false, 2, 0, h⟩ L
      else (numP E 0 8 M.tail).then fun lo L => (mustL E [46, 46] L).then fun _ L => (numP E lo 8 L).then fun hi L => .ok ⟨nm, lb, false, 1, lo, hi⟩ L) = F := hF
    clear hF
    replace hA : Hid _ := hA
    replace hY : Hid _ := hY
    have hP := fun W (hr : Rd W B E d M) => pass_any hr [42]
    go_enter Tryz.func91, Tryz.ntmps91
    go_upto_region 7 with (have hh := hA.out (); go_at_call 90; (with_reducible refine Calls.mono hh ?_); clear hh; rintro e w1 ⟨ho1, _, rfl, rfl, hr1⟩)
    have hl1 := hr1.lt
    have hX := C6.new (Only.refl (· = B) (w1.alloc (.cells #[.string (txt nm), .string (txt lb), .bool false, .int .i64 0, .int .i64 0, .int .i64 0] 64))) hl1
    have hr2 := hr1.below (below_new w1 (.cells #[.string (txt nm), .string (txt lb), .bool false, .int .i64 0, .int .i64 0, .int .i64 0] 64))
    have ho2 := ho1.trans (only_of_below (B := B) (below_new w1 (.cells #[.string (txt nm), .string (txt lb), .bool false, .int .i64 0, .int .i64 0, .int .i64 0] 64)))
    have hsz : (w.alloc (.cells #[.string ⟨#[]⟩, .string ⟨#[]⟩, .bool false, .int .i64 0, .int .i64 0, .int .i64 0] 64)).heap.size ≤ w1.heap.size := ho1.size
    have hXr : w.heap.size < w1.heap.size := by have := hsz; simp at this; omega
    generalize w1.alloc (.cells #[.string (txt nm), .string (txt lb), .bool false, .int .i64 0, .int .i64 0, .int .i64 0] 64) = W at *
    generalize w1.heap.size = X at *
    clear ho1 hr1 hA hY
    have hXB : X ≠ B := by omega
    replace hX : Hid _ := hX
    replace ho2 : Hid _ := ho2
    have hPs := hP W hr2
    clear hP hr2
    have hPs' := fun (_ : Unit) => hPs
    clear hPs
    cases hw : isW [42] M
    · rw [hw] at hF2
      have hF3 : Res.ok (Ed.mk nm lb false 0 0 0) M = F := hF2
      subst hF3
      rw [hw, passed_no hw] at hPs'
      clear hF2
      replace hPs' : Hid _ := hPs'
      replace hw : Hid _ := hw
      go_upto_region 8 with (have hh := hPs'.out (); go_at_call 35; (with_reducible refine Calls.mono hh ?_); clear hh; rintro e w2 ⟨rfl, ho3, hr3⟩)
      obtain ⟨c0, c1, c2, c3, c4, c5, cf⟩ := hX.out.only ho3 hXB
      have hC := C6.set3 (hX.out.only ho3 hXB) (.int .i64 0)
      have hlX : X < w2.heap.size := ho3.lt hX.out.lt
      have hW := only_put (ho2.out.trans ho3) hsz (only_set w2 X 3 (.int .i64 0))
      have hr4 := hr3.turn (only_set w2 X 3 (.int .i64 0)) hl1
      clear ho3 hr3
      replace hC : Hid _ := hC
      replace hW : Hid _ := hW
      replace hr4 : Hid _ := hr4
      go_upto_region 12 with fail
      generalize w2.setCell ⟨X, 3, none⟩ (.int .i64 0) = W5 at *
      clear c0 c1 c2 c3 c4 c5 cf hlX
      obtain ⟨c0, c1, c2, c3, c4, c5, cf⟩ := hC.out
      obtain ⟨yf, yl, yn, y0, y1, y2, y3, y4, y5⟩ := new64 hW.out hlt
      clear hC
      go_wp2_with fail
      exact ret_ed Tryz.results91 rfl rfl hW.out hlt hr4.out rfl rfl rfl rfl rfl rfl
    · rw [hw] at hF2
      rw [hw, passed_yes hw] at hPs'
      have hPS := fun W (hr : Rd W B E d M.tail) => pass_any hr [83, 72, 79, 82, 84, 69, 83, 84]
      replace hPs' : Hid _ := hPs'
      replace hw : Hid _ := hw
      cases hv : isW [83, 72, 79, 82, 84, 69, 83, 84] M.tail
      · rw [hv] at hF2
        have hF3 : ((numP E 0 8 M.tail).then fun lo L => (mustL E [46, 46] L).then fun _ L => (numP E lo 8 L).then fun hi L => .ok (Ed.mk nm lb false 1 lo hi) L) = F := hF2
        rw [hv, passed_no hv] at hPS
        clear hF2
        replace hPS : Hid _ := hPS
        replace hv : Hid _ := hv
        go_upto_region 3 with (first
          | (have hh := hPS.out _ hr3; go_at_call 35; (with_reducible refine Calls.mono hh ?_); clear hh; rintro e w3 ⟨rfl, ho4, hr4⟩)
          | (have hh := hPs'.out (); go_at_call 35; (with_reducible refine Calls.mono hh ?_); clear hh hPs'; rintro e w2 ⟨rfl, ho3, hr3⟩))
        have hC3 := (hX.out.only ho3 hXB).only ho4 hXB
        obtain ⟨c0, c1, c2, c3, c4, c5, cf⟩ := hC3
        have hC := C6.set3 ((hX.out.only ho3 hXB).only ho4 hXB) (.int .i64 1)
        have hlX : X < w3.heap.size := ho4.lt (ho3.lt hX.out.lt)
        have hW := only_put (ho2.out.trans (ho3.trans ho4)) hsz (only_set w3 X 3 (.int .i64 1))
        have hr5 := hr4.turn (only_set w3 X 3 (.int .i64 1)) hl1
        clear ho3 ho4 hr3 hr4
        replace hC : Hid _ := hC
        replace hW : Hid _ := hW
        go_upto_region 4 with fail
        generalize w3.setCell ⟨X, 3, none⟩ (.int .i64 1) = W5 at *
        clear c0 c1 c2 c3 c4 c5 cf hlX
        have hM := fun (_ : Unit) => mustNumber_any hr5 0 8 (by decide) (by decide) (by decide)
        cases hn : numP E 0 8 M.tail with
        | bad a y =>
          rw [hn] at hM hF3
          have hF4 : Res.bad a y = F := hF3
          subst hF4
          clear hF3
          replace hM : Hid _ := hM
          replace hn : Hid _ := hn
          go_wp2_with (have hh := hM.out (); go_at_call 41; (with_reducible refine Calls.mono hh ?_); clear hh; rintro e w6 ⟨ho6, rfl⟩)
          exact end_bad rfl (hZ.trans (hW.out.trans ho6))
        | ok lo M2 =>
          have hlo : 0 ≤ lo ∧ lo ≤ 8 := by
            unfold numP at hn
            split at hn
            · rename_i hc
              cases hn
              exact hc.2
            · cases hn
          rw [hn] at hM hF3
          have hF4 : ((mustL E [46, 46] M2).then fun _ L => (numP E lo 8 L).then fun hi L => .ok (Ed.mk nm lb false 1 lo hi) L) = F := hF3
          clear hF3
          replace hM : Hid _ := hM
          replace hn : Hid _ := hn
          go_upto_region 5 with (have hh := hM.out (); go_at_call 41; (with_reducible refine Calls.mono hh ?_); clear hh; rintro e w6 ⟨ho6, _, rfl, rfl, hr6⟩; obtain ⟨d0, d1, d2, d3, d4, d5, df⟩ := hC.out.only ho6 hXB; have hlX6 : X < w6.heap.size := ho6.lt hC.out.lt)
          have hC6 := C6.set4 (hC.out.only ho6 hXB) (.int .i64 lo)
          have hW6 := only_put (hW.out.trans ho6) hsz (only_set w6 X 4 (.int .i64 lo))
          have hr7 := hr6.turn (only_set w6 X 4 (.int .i64 lo)) hl1
          clear ho6 hr6 d0 d1 d2 d3 d4 d5 df hlX6 hC hW
          generalize w6.setCell ⟨X, 4, none⟩ (.int .i64 lo) = W6 at *
          have hMu := fun g hg => must1 hr7 [46, 46] g hg
          replace hC6 : Hid _ := hC6
          replace hW6 : Hid _ := hW6
          replace hlo : Hid _ := hlo
          cases hu : mustL E [46, 46] M2 with
          | bad a y =>
            rw [hu] at hMu hF4
            have hF5 : Res.bad a y = F := hF4
            subst hF5
            clear hF4
            replace hMu : Hid _ := hMu
            replace hu : Hid _ := hu
            go_wp2_with (go_at_call 32; refine Calls.mono (hMu.out _ (by simp)) ?_; rintro e w7 ⟨ho7, rfl⟩)
            exact end_bad rfl (hZ.trans (hW6.out.trans ((only_of_below (below_new _ _)).trans ho7)))
          | ok u M3 =>
            rw [hu] at hMu hF4
            have hF5 : ((numP E lo 8 M3).then fun hi L => .ok (Ed.mk nm lb false 1 lo hi) L) = F := hF4
            clear hF4
            replace hMu : Hid _ := hMu
            replace hu : Hid _ := hu
            go_upto_region 6 with (go_at_call 32; refine Calls.mono (hMu.out _ (by simp)) ?_; rintro e w7 ⟨ho7, _, rfl, rfl, hr8⟩; have ho7' := (only_of_below (B := B) (below_new W6 (.cells #[.string ⟨#[46, 46]⟩] 9))).trans ho7; obtain ⟨d0, d1, d2, d3, d4, d5, df⟩ := hC6.out.only ho7' hXB)
            have hlX7 : X < w7.heap.size := ho7'.lt hC6.out.lt
            have hC7 := hC6.out.only ho7' hXB
            have hW7 := hW6.out.trans ho7'
            have hM3 := fun (_ : Unit) => mustNumber_any hr8 lo 8 hlo.out.1 (by decide) hlo.out.2
            clear ho7 ho7' hW6 hC6
            replace hC7 : Hid _ := hC7
            replace hW7 : Hid _ := hW7
            cases hm : numP E lo 8 M3 with
            | bad a y =>
              rw [hm] at hM3 hF5
              have hF6 : Res.bad a y = F := hF5
              subst hF6
              clear hF5
              replace hM3 : Hid _ := hM3
              replace hm : Hid _ := hm
              go_wp2_with (have hh := hM3.out (); go_at_call 41; (with_reducible refine Calls.mono hh ?_); clear hh; rintro e w8 ⟨ho8, rfl⟩)
              exact end_bad rfl (hZ.trans (hW7.out.trans ho8))
            | ok hi M4 =>
              rw [hm] at hM3 hF5
              have hF6 : Res.ok (Ed.mk nm lb false 1 lo hi) M4 = F := hF5
              subst hF6
              clear hF5
              replace hM3 : Hid _ := hM3
              replace hm : Hid _ := hm
              go_upto_region 12 with (have hh := hM3.out (); go_at_call 41; (with_reducible refine Calls.mono hh ?_); clear hh; rintro e w8 ⟨ho8, _, rfl, rfl, hr9⟩; obtain ⟨f0, f1, f2, f3, f4, f5, ff⟩ := hC7.out.only ho8 hXB; have hlX8 : X < w8.heap.size := ho8.lt hC7.out.lt)
              have hC := C6.set5 (hC7.out.only ho8 hXB) (.int .i64 hi)
              have hW := only_put (hW7.out.trans ho8) hsz (only_set w8 X 5 (.int .i64 hi))
              have hr4 := hr9.turn (only_set w8 X 5 (.int .i64 hi)) hl1
              clear ho8 hr9 f0 f1 f2 f3 f4 f5 ff hlX8 hC7 hW7 d0 d1 d2 d3 d4 d5 df hlX7
              generalize w8.setCell ⟨X, 5, none⟩ (.int .i64 hi) = W5 at *
              replace hC : Hid _ := hC
              replace hW : Hid _ := hW
              obtain ⟨c0, c1, c2, c3, c4, c5, cf⟩ := hC.out
              obtain ⟨yf, yl, yn, y0, y1, y2, y3, y4, y5⟩ := new64 hW.out hlt
              clear hC
              go_wp2_with fail
              exact ret_ed Tryz.results91 rfl rfl hW.out hlt hr4 rfl rfl rfl rfl rfl rfl
      · rw [hv] at hF2
        have hF3 : ((numP E 1 8 M.tail.tail).then fun h L => .ok (Ed.mk nm lb false 2 0 h) L) = F := hF2
        rw [hv, passed_yes hv] at hPS
        clear hF2
        replace hPS : Hid _ := hPS
        replace hv : Hid _ := hv
        go_upto_region 10 with (first
          | (have hh := hPS.out _ hr3; go_at_call 35; (with_reducible refine Calls.mono hh ?_); clear hh; rintro e w3 ⟨rfl, ho4, hr4⟩)
          | (have hh := hPs'.out (); go_at_call 35; (with_reducible refine Calls.mono hh ?_); clear hh hPs'; rintro e w2 ⟨rfl, ho3, hr3⟩))
        have hC3 := (hX.out.only ho3 hXB).only ho4 hXB
        obtain ⟨c0, c1, c2, c3, c4, c5, cf⟩ := hC3
        have hC := C6.set3 ((hX.out.only ho3 hXB).only ho4 hXB) (.int .i64 2)
        have hlX : X < w3.heap.size := ho4.lt (ho3.lt hX.out.lt)
        have hW := only_put (ho2.out.trans (ho3.trans ho4)) hsz (only_set w3 X 3 (.int .i64 2))
        have hr5 := hr4.turn (only_set w3 X 3 (.int .i64 2)) hl1
        clear ho3 ho4 hr3 hr4
        replace hC : Hid _ := hC
        replace hW : Hid _ := hW
        go_upto_region 11 with fail
        generalize w3.setCell ⟨X, 3, none⟩ (.int .i64 2) = W5 at *
        clear c0 c1 c2 c3 c4 c5 cf hlX
        have hM := fun (_ : Unit) => mustNumber_any hr5 1 8 (by decide) (by decide) (by decide)
        cases hn : numP E 1 8 M.tail.tail with
        | bad a y =>
          rw [hn] at hM hF3
          have hF4 : Res.bad a y = F := hF3
          subst hF4
          clear hF3
          replace hM : Hid _ := hM
          replace hn : Hid _ := hn
          go_wp2_with (have hh := hM.out (); go_at_call 41; (with_reducible refine Calls.mono hh ?_); clear hh; rintro e w6 ⟨ho6, rfl⟩)
          exact end_bad rfl (hZ.trans (hW.out.trans ho6))
        | ok hi M2 =>
          rw [hn] at hM hF3
          have hF4 : Res.ok (Ed.mk nm lb false 2 0 hi) M2 = F := hF3
          subst hF4
          clear hF3
          replace hM : Hid _ := hM
          replace hn : Hid _ := hn
          go_upto_region 12 with (have hh := hM.out (); go_at_call 41; (with_reducible refine Calls.mono hh ?_); clear hh; rintro e w6 ⟨ho6, _, rfl, rfl, hr6⟩; obtain ⟨d0, d1, d2, d3, d4, d5, df⟩ := hC.out.only ho6 hXB; have hlX6 : X < w6.heap.size := ho6.lt hC.out.lt)
          have hCn := C6.set5 (hC.out.only ho6 hXB) (.int .i64 hi)
          have hWn := only_put (hW.out.trans ho6) hsz (only_set w6 X 5 (.int .i64 hi))
          have hr4 := hr6.turn (only_set w6 X 5 (.int .i64 hi)) hl1
          clear ho6 hr6 d0 d1 d2 d3 d4 d5 df hlX6 hC hW
          generalize w6.setCell ⟨X, 5, none⟩ (.int .i64 hi) = W5 at *
          have hC := hCn
          have hW := hWn
          clear hCn hWn
          replace hC : Hid _ := hC
          replace hW : Hid _ := hW
          obtain ⟨c0, c1, c2, c3, c4, c5, cf⟩ := hC.out
          obtain ⟨yf, yl, yn, y0, y1, y2, y3, y4, y5⟩ := new64 hW.out hlt
          clear hC
          go_wp2_with fail
          exact ret_ed Tryz.results91 rfl rfl hW.out hlt hr4 rfl rfl rfl rfl rfl rfl
end Go.Proofs.YtefenbonjepjgaaGreatDoor
