/-
  The reader of tests.
-/
import Derived.Test.YtkcnpbckmdgfnaaGreatDoorEx3
import Derived.Deep.RegionWith
namespace Go.Proofs.YtkcnpbckmdgfnaaGreatDoor
open Go.ChangeShapes Go.WideShapes Go.ChangeAt Go.RowKit
set_option linter.unusedSimpArgs false
set_option linter.unusedVariables false

theorem opsT_ne : ∀ i, i < opsT.length → (opsT.getD i ([], 0)).2 ≠ 0 := by decide
theorem opsT_at (w : World) (B g : Nat) (hB : B < w.heap.size) (hg : g = w.heap.size) : OpsAt (w.alloc (.cells #[.string ⟨#[61]⟩, .int .i64 6, .string ⟨#[60, 62]⟩, .int .i64 7, .string ⟨#[60]⟩, .int .i64 8, .string ⟨#[60, 61]⟩, .int .i64 9, .string ⟨#[62]⟩, .int .i64 10, .string ⟨#[62, 61]⟩, .int .i64 11] 131)) B (some ⟨g, 0, none⟩) opsT := by
  subst hg
  refine .inr ⟨w.heap.size, 0, rfl, hB, fun i hi => ?_⟩
  have hi' : i < 6 := hi
  obtain rfl | rfl | rfl | rfl | rfl | rfl : i = 0 ∨ i = 1 ∨ i = 2 ∨ i = 3 ∨ i = 4 ∨ i = 5 := by omega
  all_goals exact ⟨alloc_cell w rfl, alloc_cell w rfl⟩
theorem passT {W : World} {B E d : Nat} {L : List Tk} (h : Rd W B E d L) (g : Nat) (hg : g = W.heap.size) :
    Calls Tryz.prog 97 #[rp B, .slice (some ⟨g, 0, none⟩) 6 6] (W.alloc (.cells #[.string ⟨#[61]⟩, .int .i64 6, .string ⟨#[60, 62]⟩, .int .i64 7, .string ⟨#[60]⟩, .int .i64 8, .string ⟨#[60, 61]⟩, .int .i64 9, .string ⟨#[62]⟩, .int .i64 10, .string ⟨#[62, 61]⟩, .int .i64 11] 131)) fun e w' => e = .returned (.int .i64 (opOf opsT L)) ∧ Only (· = B) (W.alloc (.cells #[.string ⟨#[61]⟩, .int .i64 6, .string ⟨#[60, 62]⟩, .int .i64 7, .string ⟨#[60]⟩, .int .i64 8, .string ⟨#[60, 61]⟩, .int .i64 9, .string ⟨#[62]⟩, .int .i64 10, .string ⟨#[62, 61]⟩, .int .i64 11] 131)) w' ∧ Rd w' B E d (passedO opsT L) :=
  passOne_any (h.below (below_new W (.cells #[.string ⟨#[61]⟩, .int .i64 6, .string ⟨#[60, 62]⟩, .int .i64 7, .string ⟨#[60]⟩, .int .i64 8, .string ⟨#[60, 61]⟩, .int .i64 9, .string ⟨#[62]⟩, .int .i64 10, .string ⟨#[62, 61]⟩, .int .i64 11] 131))) opsT (some ⟨g, 0, none⟩) 6 (opsT_at W B g h.lt hg) (by decide) opsT_ne
/-- The cells of an expression in a block, and what it leads to. -/
theorem XAt.open {w : World} {X b : Nat} {x : Ex} (h : XAt w X b x) : ∃ sp sn sc, w.cell? ⟨X, 0, none⟩ = some (.int .i64 (opE x)) ∧ w.cell? ⟨X, 1, none⟩ = some (.slice sp sn sc) ∧ w.cell? ⟨X, 2, none⟩ = some (.string (txt (nmE x))) ∧ w.cell? ⟨X, 3, none⟩ = some (.string (txt (prE x))) ∧
    w.cell? ⟨X, 4, none⟩ = some (.int .i64 (kE x)) ∧ w.cell? ⟨X, 5, none⟩ = some (.bool (bE x)) ∧ w.cell? ⟨X, 6, none⟩ = some (.int .i64 (nE x)) ∧ w.cell? ⟨X, 7, none⟩ = some (.string (txt (tE x))) ∧ w.cell? ⟨X, 8, none⟩ = some (.slice none 0 0) ∧ ExAt w (b ≤ ·) x (.slice sp sn sc) := by
  obtain ⟨sp, sn, sc, ⟨c0, c1, c2, c3, c4, c5, c6, c7, c8⟩, hx⟩ := h.cells
  exact ⟨sp, sn, sc, c0, c1, c2, c3, c4, c5, c6, c7, c8, ExAt.weakS (fun g hg => hg.1) x _ hx⟩
set_option maxRecDepth 100000 in
set_option maxHeartbeats 4000000 in
theorem test_any {B E n : Nat} {m : PR} (hs : Reads B E 154 (sumP m) n) (hsh : Sh (sumP m)) : Reads B E 127 (testP E m) n := by
  intro w d L hl h
  have hlt := h.lt
  have h0 := h.below (below_new w (.cells #[.int .i64 0, .slice none 0 0, .string ⟨#[]⟩, .string ⟨#[]⟩, .int .i64 0, .bool false, .int .i64 0, .string ⟨#[]⟩, .slice none 0 0] 39))
  have hS := fun (_ : Unit) => hs _ d L hl h0
  have hZ := only_of_below (B := B) (below_new w (.cells #[.int .i64 0, .slice none 0 0, .string ⟨#[]⟩, .string ⟨#[]⟩, .int .i64 0, .bool false, .int .i64 0, .string ⟨#[]⟩, .slice none 0 0] 39))
  clear h h0
  cases hX : sumP m d L with
  | bad a y =>
    have e1 : testP E m d L = .bad a y := by simp [testP, hX, Res.then]
    rw [e1]
    rw [hX] at hS
    clear e1 hs
    replace hS : Hid _ := hS
    replace hX : Hid _ := hX
    go_enter Tryz.func127, Tryz.ntmps127
    go_wp2_with (have hh := hS.out (); go_at_call 154; (with_reducible refine Calls.mono hh ?_); clear hh; rintro e w1 ⟨ho1, rfl⟩)
    exact end_bad rfl (hZ.trans ho1)
  | ok x M =>
    rw [hX] at hS
    have hML := hsh d L x M hX
    generalize hF : testP E m d L = F
    have hF1 : ((Res.ok x M).then fun x L => if isW [73, 83] L then (if isW [78, 79, 84] L.tail then (mustL E [78, 85, 76, 76] L.tail.tail).then fun _ L => .ok (.one 20 x) L else (mustL E [78, 85, 76, 76] L.tail).then fun _ L => .ok (.one 19 x) L) else if opOf opsT L = 0 then .ok x L else (sumP m d L.tail).then fun y L' => .ok (.two (opOf opsT L) x y) L') = F := by rw [← hF, ← hX]; rfl
    replace hF1 := hF1
    simp only [Res.then] at hF1
    clear hF
    replace hS : Hid _ := hS
    replace hX : Hid _ := hX
    replace hF1 : Hid _ := hF1
    go_enter Tryz.func127, Tryz.ntmps127
    go_upto_region 2 with (have hh := hS.out (); go_at_call 154; (with_reducible refine Calls.mono hh ?_); clear hh; rintro e w1 ⟨ho1, _, rfl, ⟨sp, sn, sc, rfl, hx⟩, hr1⟩)
    have hs1 : w.heap.size + 1 ≤ w1.heap.size := by have := ho1.size; simpa using this
    have hXn := XAt.new (w := w1) (b := w.heap.size + 1) (ExAt.weak (c := w.heap.size + 1) (by simp) x _ hx)
    have hr2 := hr1.below (below_new w1 (.cells #[.int .i64 (opE x), .slice sp sn sc, .string (txt (nmE x)), .string (txt (prE x)), .int .i64 (kE x), .bool (bE x), .int .i64 (nE x), .string (txt (tE x)), .slice none 0 0] 39))
    have ho2 := ho1.trans (only_of_below (B := B) (below_new w1 (.cells #[.int .i64 (opE x), .slice sp sn sc, .string (txt (nmE x)), .string (txt (prE x)), .int .i64 (kE x), .bool (bE x), .int .i64 (nE x), .string (txt (tE x)), .slice none 0 0] 39)))
    have hBX : B < w1.heap.size := by omega
    generalize w1.alloc (.cells #[.int .i64 (opE x), .slice sp sn sc, .string (txt (nmE x)), .string (txt (prE x)), .int .i64 (kE x), .bool (bE x), .int .i64 (nE x), .string (txt (tE x)), .slice none 0 0] 39) = W at *
    generalize w1.heap.size = Xb at *
    clear hx hr1 ho1 hS
    have hP := fun s => pass_any hr2 s
    replace hXn : Hid _ := hXn
    replace ho2 : Hid _ := ho2
    cases hw : isW [73, 83] M
    · have hF2 : (if opOf opsT M = 0 then Res.ok x M else (sumP m d M.tail).then fun y L' => .ok (.two (opOf opsT M) x y) L') = F := by rw [← hF1.out, hw]; rfl
      have hPI := fun (_ : Unit) => hP [73, 83]
      rw [hw, passed_no hw] at hPI
      clear hP hF1 hr2
      have hK := fun W (hr : Rd W B E d M) g hg => passT hr g hg
      replace hPI : Hid _ := hPI
      replace hw : Hid _ := hw
      by_cases hop : opOf opsT M = 0
      · rw [if_pos hop] at hF2
        subst hF2
        have e2 : passedO opsT M = M := by unfold passedO; rw [if_pos hop]
        rw [hop, e2] at hK
        clear e2
        replace hK : Hid _ := hK
        replace hop : Hid _ := hop
        go_upto_region 10 with (first
          | (have hh := hK.out _ hr3 _ rfl; go_at_call 97; (with_reducible refine Calls.mono hh ?_); clear hh; rintro e w3 ⟨rfl, ho4, hr4⟩)
          | (have hh := hPI.out (); go_at_call 58; (with_reducible refine Calls.mono hh ?_); clear hh; rintro e w2 ⟨rfl, ho3, hr3⟩))
        have hoX := (ho3.trans (only_of_below (B := B) (below_new w2 (.cells #[.string ⟨#[61]⟩, .int .i64 6, .string ⟨#[60, 62]⟩, .int .i64 7, .string ⟨#[60]⟩, .int .i64 8, .string ⟨#[60, 61]⟩, .int .i64 9, .string ⟨#[62]⟩, .int .i64 10, .string ⟨#[62, 61]⟩, .int .i64 11] 131)))).trans ho4
        obtain ⟨sp, sn, sc, z0, z1, z2, z3, z4, z5, z6, z7, z8, hx4⟩ := (hXn.out.only hoX (by omega) (by omega)).open
        have hW := ho2.out.trans hoX
        obtain ⟨yf, yl, yn, y0, y1, y2, y3, y4, y5, y6, y7, y8⟩ := res_cells hW hlt
        clear hoX ho3 ho4 hr3
        replace hW : Hid _ := hW
        replace hx4 : Hid _ := hx4
        replace hr4 : Hid _ := hr4
        go_wp2_with fail
        exact ret_ex (.inl rfl) Tryz.results127 rfl rfl hW.out hlt hx4.out hr4.out rfl rfl rfl rfl rfl rfl rfl rfl rfl
      · rw [if_neg hop] at hF2
        have e2 : passedO opsT M = M.tail := by unfold passedO; rw [if_neg hop]
        have hop2 : (opOf opsT M == 0) = false := by rw [beq_eq_false_iff_ne]; exact hop
        rw [e2] at hK
        have hpt := fun (w2 : World) (hr : Rd w2 B E d M.tail) => hs w2 d M.tail (by simp; omega) hr
        clear e2 hs
        generalize opOf opsT M = op at *
        cases hY : sumP m d M.tail with
        | bad a y =>
          rw [hY] at hpt hF2
          have hF3 : Res.bad a y = F := hF2
          subst hF3
          clear hF2 hY
          replace hK : Hid _ := hK
          replace hpt : Hid _ := hpt
          replace hop : Hid _ := hop
          go_upto_region 11 with (first
            | (have hh := hK.out _ hr3 _ rfl; go_at_call 97; (with_reducible refine Calls.mono hh ?_); clear hh; rintro e w3 ⟨rfl, ho4, hr4⟩)
            | (have hh := hPI.out (); go_at_call 58; (with_reducible refine Calls.mono hh ?_); clear hh; rintro e w2 ⟨rfl, ho3, hr3⟩))
          have hoX := (ho3.trans (only_of_below (B := B) (below_new w2 (.cells #[.string ⟨#[61]⟩, .int .i64 6, .string ⟨#[60, 62]⟩, .int .i64 7, .string ⟨#[60]⟩, .int .i64 8, .string ⟨#[60, 61]⟩, .int .i64 9, .string ⟨#[62]⟩, .int .i64 10, .string ⟨#[62, 61]⟩, .int .i64 11] 131)))).trans ho4
          obtain ⟨sp, sn, sc, z0, z1, z2, z3, z4, z5, z6, z7, z8, hx4⟩ := (hXn.out.only hoX (by omega) (by omega)).open
          have hW := ho2.out.trans hoX
          have hq3 := fun (_ : Unit) => hpt.out _ (hr4.below (Below.drew (Below.refl w3.heap.size w3)))
          have hfin : ∀ act w5, act.defers = [] → Only (· = B) w3.drew w5 → bodyPost Tryz.prog Tryz.f127 (Ans w B E d (.bad a y) (IsEx w.heap.size)) (.panic [{ v := .iface 109 (refV a y), recovered := false }]) act w5 := fun act w5 hd ho5 =>
            end_bad hd (hZ.trans (hW.trans ((only_of_below (B := B) (Below.drew (Below.refl w3.heap.size w3))).trans ho5)))
          clear hoX ho3 ho4 hr3 hr4 hx4 hW
          replace hq3 : Hid _ := hq3
          replace hfin : Hid _ := hfin
          refine wp_region_any (by kernel_rfl) ?_
          change wpAny _ _ _ _ _ _ _ (World.drew _)
          refine wpAny_take (i := 0) (v := .int .i64 op) rfl (by kernel_rfl) (by kernel_rfl) (by kernel_rfl) (fun _ _ _ h => h) (Or.inl ⟨by rfl, by intro w; go_simp⟩) ?_
          refine wpAny_take (i := 2) (v := rp B) rfl (by kernel_rfl) (by kernel_rfl) (by kernel_rfl) (fun _ _ _ h => h) (Or.inl ⟨by rfl, by intro w; go_simp⟩) ?_
          refine wpAny_ready (rs := [1, 3]) (by kernel_rfl) (by simp) ?_
          refine AllReady.cons rfl (fun K hK => ?_) ?_
          · go_simp
            (refine hK _ _ ?_; clear hK K)
            refine wpAny_ready (rs := [3]) (by kernel_rfl) (by simp) ?_
            refine AllReady.cons rfl (fun K hK => ?_) AllReady.nil
            go_simp
            have hh := hq3.out ()
            (with_reducible refine Calls.mono hh ?_)
            rintro e w5 ⟨ho5, rfl⟩
            exact hfin.out _ _ rfl ho5
          · refine AllReady.cons rfl (fun K hK => ?_) AllReady.nil
            go_simp
            have hh := hq3.out ()
            (with_reducible refine Calls.mono hh ?_)
            rintro e w5 ⟨ho5, rfl⟩
            exact hfin.out _ _ rfl ho5
        | ok y M2 =>
          rw [hY] at hpt hF2
          have hF3 : Res.ok (.two op x y) M2 = F := hF2
          subst hF3
          clear hF2 hY
          replace hK : Hid _ := hK
          replace hpt : Hid _ := hpt
          replace hop : Hid _ := hop
          go_upto_region 11 with (first
            | (have hh := hK.out _ hr3 _ rfl; go_at_call 97; (with_reducible refine Calls.mono hh ?_); clear hh; rintro e w3 ⟨rfl, ho4, hr4⟩)
            | (have hh := hPI.out (); go_at_call 58; (with_reducible refine Calls.mono hh ?_); clear hh; rintro e w2 ⟨rfl, ho3, hr3⟩))
          have hoX := (ho3.trans (only_of_below (B := B) (below_new w2 (.cells #[.string ⟨#[61]⟩, .int .i64 6, .string ⟨#[60, 62]⟩, .int .i64 7, .string ⟨#[60]⟩, .int .i64 8, .string ⟨#[60, 61]⟩, .int .i64 9, .string ⟨#[62]⟩, .int .i64 10, .string ⟨#[62, 61]⟩, .int .i64 11] 131)))).trans ho4
          have hXa := hXn.out.only hoX (by omega) (by omega)
          obtain ⟨sp, sn, sc, z0, z1, z2, z3, z4, z5, z6, z7, z8, hx4⟩ := hXa.open
          have hrow4 : Row9 w3 Xb 0 x (.slice sp sn sc) := ⟨z0, z1, z2, z3, z4, z5, z6, z7, z8⟩
          have hW := ho2.out.trans hoX
          have hq2 := fun W (hb : Below w3.heap.size w3 W) => hpt.out W (hr4.below hb)
          have hXB : Xb ≠ B := by omega
          clear hoX ho3 ho4 hr3 hr4 hXa
          replace hq2 : Hid _ := hq2
          replace hW : Hid _ := hW
          replace hrow4 : Hid _ := hrow4
          replace hx4 : Hid _ := hx4
          go_region_with (first
            | (have hh := hq2.out _ (Below.drew (Below.refl _ _)); (go_at_call 154); (with_reducible refine Calls.mono hh ?_); clear hh; rintro e w5 ⟨ho5, _, rfl, ⟨tp, tn, tc, rfl, hy⟩, hr5⟩; have ho5' := (only_of_below (B := B) (Below.drew (Below.refl w3.heap.size w3))).trans ho5; clear ho5; obtain ⟨t0, t1, t2, t3, t4, t5, t6, t7, t8⟩ := Row9.only (x := x) (ks := .slice sp sn sc) hrow4.out ho5' hXB)
            | (go_at_call 98; refine Calls.mono (of_any _ _ _ _ _) ?_; rintro e w6 ⟨rfl, hb6⟩; have hs3 : w.heap.size + 1 ≤ w3.heap.size := (by have := hW.out.size; simpa using this); have hx5 := ExAt.only ho5' (by omega) x _ hx4.out; have hy5 := ExAt.weak (c := w.heap.size + 1) hs3 y _ hy; have h2 := two_at op hx5 hy5 (Nat.le_trans hs3 ho5'.size) hb6; have hk6 := Below.trans (B := w5.heap.size) (a := w5) (by repeat (first | exact Below.refl _ _ | refine Below.drew ?_ | refine Below.alloc ?_ (by simp) _)) (hb6.mono (by simp)); have hr6 := hr5.below hk6; have hW6 := (hW.out.trans ho5').trans (only_of_below hk6); obtain ⟨yf, yl, yn, y0, y1, y2, y3, y4, y5, y6, y7, y8⟩ := res_cells hW6 hlt; replace hW6 : Hid _ := hW6; replace h2 : Hid _ := h2; replace hr6 : Hid _ := hr6; clear hx5 hy5))
          all_goals
            go_wp2_with fail
            exact ret_ex (.inl rfl) Tryz.results127 rfl rfl hW6.out hlt (x := .two op x y) (ks := .slice (some ⟨w5.heap.size, 0, none⟩) 2 2) h2.out hr6.out rfl rfl rfl rfl rfl rfl rfl rfl rfl
    · have hF2 : (if isW [78, 79, 84] M.tail then (mustL E [78, 85, 76, 76] M.tail.tail).then fun _ L => Res.ok (.one 20 x) L else (mustL E [78, 85, 76, 76] M.tail).then fun _ L => .ok (.one 19 x) L) = F := by rw [← hF1.out, hw]; rfl
      have hPI := fun (_ : Unit) => hP [73, 83]
      rw [hw, passed_yes hw] at hPI
      clear hP hF1 hr2 hs
      have hPN := fun W (hr : Rd W B E d M.tail) => pass_any hr [78, 79, 84]
      replace hPI : Hid _ := hPI
      replace hw : Hid _ := hw
      cases hn : isW [78, 79, 84] M.tail
      · have hF3 : (mustL E [78, 85, 76, 76] M.tail).then (fun _ L => Res.ok (Ex.one 19 x) L) = F := by rw [← hF2, hn]; rfl
        rw [hn, passed_no hn] at hPN
        have hM := fun W (hr : Rd W B E d M.tail) g hg => must1 hr [78, 85, 76, 76] g hg
        clear hF2
        replace hPN : Hid _ := hPN
        replace hn : Hid _ := hn
        cases hY : mustL E [78, 85, 76, 76] M.tail with
        | bad a y =>
          rw [hY] at hM hF3
          have hF4 : Res.bad a y = F := hF3
          subst hF4
          clear hF3
          replace hM : Hid _ := hM
          replace hY : Hid _ := hY
          go_wp2_with (first
            | (have hh := hM.out _ hr4 _ rfl; go_at_call 55; (with_reducible refine Calls.mono hh ?_); clear hh; rintro e w4 ⟨ho5, rfl⟩)
            | (have hh := hPN.out _ hr3; go_at_call 58; (with_reducible refine Calls.mono hh ?_); clear hh hPN; rintro e w3 ⟨rfl, ho4, hr4⟩)
            | (have hh := hPI.out (); go_at_call 58; (with_reducible refine Calls.mono hh ?_); clear hh; rintro e w2 ⟨rfl, ho3, hr3⟩))
          exact end_bad rfl (hZ.trans (ho2.out.trans (ho3.trans (ho4.trans ((only_of_below (below_new _ _)).trans ho5)))))
        | ok u M2 =>
          rw [hY] at hM hF3
          have hF4 : Res.ok (Ex.one 19 x) M2 = F := hF3
          subst hF4
          clear hF3
          replace hM : Hid _ := hM
          replace hY : Hid _ := hY
          go_upto_region 7 with (first
            | (have hh := hM.out _ hr4 _ rfl; go_at_call 55; (with_reducible refine Calls.mono hh ?_); clear hh; rintro e w4 ⟨ho5, _, rfl, rfl, hr5⟩)
            | (have hh := hPN.out _ hr3; go_at_call 58; (with_reducible refine Calls.mono hh ?_); clear hh hPN; rintro e w3 ⟨rfl, ho4, hr4⟩)
            | (have hh := hPI.out (); go_at_call 58; (with_reducible refine Calls.mono hh ?_); clear hh; rintro e w2 ⟨rfl, ho3, hr3⟩))
          have hoX := (ho3.trans ho4).trans ((only_of_below (B := B) (below_new w3 (.cells #[.string ⟨#[78, 85, 76, 76]⟩] 9))).trans ho5)
          obtain ⟨sp, sn, sc, z0, z1, z2, z3, z4, z5, z6, z7, z8, hx4⟩ := (hXn.out.only hoX (by omega) (by omega)).open
          have hW4 := ho2.out.trans hoX
          have hs4 : w.heap.size + 1 ≤ w4.heap.size := by have := hW4.size; simpa using this
          clear hoX ho3 ho4 ho5 hr3 hr4
          replace hW4 : Hid _ := hW4
          replace hx4 : Hid _ := hx4
          go_wp2_with (go_at_call 98; refine Calls.mono (of_any _ _ _ _ _) ?_; rintro e w6 ⟨rfl, hb6⟩; have h2 := one_at 19 hx4.out hs4 hb6; have hk6 := below_on (below_new w4 (.cells #[.int .i64 (opE x), .slice sp sn sc, .string (txt (nmE x)), .string (txt (prE x)), .int .i64 (kE x), .bool (bE x), .int .i64 (nE x), .string (txt (tE x)), .slice none 0 0] 39)) hb6; have hr6 := hr5.below hk6; have hW := hW4.out.trans (only_of_below hk6); clear hk6; obtain ⟨yf, yl, yn, y0, y1, y2, y3, y4, y5, y6, y7, y8⟩ := res_cells hW hlt; replace hW : Hid _ := hW; replace h2 : Hid _ := h2; replace hr6 : Hid _ := hr6)
          exact ret_ex (.inl rfl) Tryz.results127 rfl rfl hW.out hlt (x := .one 19 x) (ks := .slice (some ⟨w4.heap.size, 0, none⟩) 1 1) h2.out hr6.out rfl rfl rfl rfl rfl rfl rfl rfl rfl
      · have hF3 : (mustL E [78, 85, 76, 76] M.tail.tail).then (fun _ L => Res.ok (Ex.one 20 x) L) = F := by rw [← hF2, hn]; rfl
        rw [hn, passed_yes hn] at hPN
        have hM := fun W (hr : Rd W B E d M.tail.tail) g hg => must1 hr [78, 85, 76, 76] g hg
        clear hF2
        replace hPN : Hid _ := hPN
        replace hn : Hid _ := hn
        cases hY : mustL E [78, 85, 76, 76] M.tail.tail with
        | bad a y =>
          rw [hY] at hM hF3
          have hF4 : Res.bad a y = F := hF3
          subst hF4
          clear hF3
          replace hM : Hid _ := hM
          replace hY : Hid _ := hY
          go_wp2_with (first
            | (have hh := hM.out _ hr4 _ rfl; go_at_call 55; (with_reducible refine Calls.mono hh ?_); clear hh; rintro e w4 ⟨ho5, rfl⟩)
            | (have hh := hPN.out _ hr3; go_at_call 58; (with_reducible refine Calls.mono hh ?_); clear hh hPN; rintro e w3 ⟨rfl, ho4, hr4⟩)
            | (have hh := hPI.out (); go_at_call 58; (with_reducible refine Calls.mono hh ?_); clear hh; rintro e w2 ⟨rfl, ho3, hr3⟩))
          exact end_bad rfl (hZ.trans (ho2.out.trans (ho3.trans (ho4.trans ((only_of_below (below_new _ _)).trans ho5)))))
        | ok u M2 =>
          rw [hY] at hM hF3
          have hF4 : Res.ok (Ex.one 20 x) M2 = F := hF3
          subst hF4
          clear hF3
          replace hM : Hid _ := hM
          replace hY : Hid _ := hY
          go_upto_region 7 with (first
            | (have hh := hM.out _ hr4 _ rfl; go_at_call 55; (with_reducible refine Calls.mono hh ?_); clear hh; rintro e w4 ⟨ho5, _, rfl, rfl, hr5⟩)
            | (have hh := hPN.out _ hr3; go_at_call 58; (with_reducible refine Calls.mono hh ?_); clear hh hPN; rintro e w3 ⟨rfl, ho4, hr4⟩)
            | (have hh := hPI.out (); go_at_call 58; (with_reducible refine Calls.mono hh ?_); clear hh; rintro e w2 ⟨rfl, ho3, hr3⟩))
          have hoX := (ho3.trans ho4).trans ((only_of_below (B := B) (below_new w3 (.cells #[.string ⟨#[78, 85, 76, 76]⟩] 9))).trans ho5)
          obtain ⟨sp, sn, sc, z0, z1, z2, z3, z4, z5, z6, z7, z8, hx4⟩ := (hXn.out.only hoX (by omega) (by omega)).open
          have hW4 := ho2.out.trans hoX
          have hs4 : w.heap.size + 1 ≤ w4.heap.size := by have := hW4.size; simpa using this
          clear hoX ho3 ho4 ho5 hr3 hr4
          replace hW4 : Hid _ := hW4
          replace hx4 : Hid _ := hx4
          go_wp2_with (go_at_call 98; refine Calls.mono (of_any _ _ _ _ _) ?_; rintro e w6 ⟨rfl, hb6⟩; have h2 := one_at 20 hx4.out hs4 hb6; have hk6 := below_on (below_new w4 (.cells #[.int .i64 (opE x), .slice sp sn sc, .string (txt (nmE x)), .string (txt (prE x)), .int .i64 (kE x), .bool (bE x), .int .i64 (nE x), .string (txt (tE x)), .slice none 0 0] 39)) hb6; have hr6 := hr5.below hk6; have hW := hW4.out.trans (only_of_below hk6); clear hk6; obtain ⟨yf, yl, yn, y0, y1, y2, y3, y4, y5, y6, y7, y8⟩ := res_cells hW hlt; replace hW : Hid _ := hW; replace h2 : Hid _ := h2; replace hr6 : Hid _ := hr6)
          exact ret_ex (.inl rfl) Tryz.results127 rfl rfl hW.out hlt (x := .one 20 x) (ks := .slice (some ⟨w4.heap.size, 0, none⟩) 1 1) h2.out hr6.out rfl rfl rfl rfl rfl rfl rfl rfl rfl
end Go.Proofs.YtkcnpbckmdgfnaaGreatDoor
