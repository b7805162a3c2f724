/-
  The readers of what COUNT has inside, of keys, of what is plain.
-/
import Derived.Test.YtkcnpbckmdgfnaaGreatDoorEx1
namespace Go.Proofs.YtkcnpbckmdgfnaaGreatDoor
open Go.ChangeShapes Go.WideShapes Go.ChangeAt Go.RowKit
set_option linter.unusedSimpArgs false
set_option linter.unusedVariables false

set_option maxRecDepth 100000 in
set_option maxHeartbeats 1000000 in
theorem counted_any {B E n : Nat} {e : PR} (he : Reads B E 31 e n) : Reads B E 191 (countP E e) n := by
  intro w d L hl h
  have hlt := h.lt
  have h0 := h.below (below_new w (.cells #[.int .i64 0, .slice none 0 0, .string ⟨#[]⟩, .string ⟨#[]⟩, .int .i64 0, .bool false, .int .i64 0, .string ⟨#[]⟩, .slice none 0 0] 39))
  have hP := fun (_ : Unit) => pass_any h0 [42]
  cases hw : isW [42] L
  · rw [hw, passed_no hw] at hP
    have hE := fun W (hr : Rd W B E d L) => he W d L hl hr
    clear he h h0
    cases hX : e d L with
    | bad a y =>
      have e1 : countP E e d L = .bad a y := by simp [countP, hw, hX, Res.then]
      rw [e1]
      rw [hX] at hE
      clear e1
      replace hP : Hid _ := hP
      replace hE : Hid _ := hE
      replace hw : Hid _ := hw
      replace hX : Hid _ := hX
      go_enter Tryz.func191, Tryz.ntmps191
      go_wp2_with (first
        | (have hh := hP.out (); go_at_call 58; (with_reducible refine Calls.mono hh ?_); clear hh; rintro e w1 ⟨rfl, ho1, hr1⟩)
        | (have hh := hE.out _ hr1; go_at_call 31; (with_reducible refine Calls.mono hh ?_); clear hh; rintro e w2 ⟨ho2, rfl⟩))
      exact end_bad rfl ((only_of_below (below_new w (.cells #[.int .i64 0, .slice none 0 0, .string ⟨#[]⟩, .string ⟨#[]⟩, .int .i64 0, .bool false, .int .i64 0, .string ⟨#[]⟩, .slice none 0 0] 39))).trans (ho1.trans ho2))
    | ok x M =>
      have e1 : countP E e d L = .ok (.one 22 x) M := by simp [countP, hw, hX, Res.then]
      rw [e1]
      rw [hX] at hE
      clear e1
      replace hP : Hid _ := hP
      replace hE : Hid _ := hE
      replace hw : Hid _ := hw
      replace hX : Hid _ := hX
      go_enter Tryz.func191, Tryz.ntmps191
      go_wp2_with (first
        | (have hh := hP.out (); go_at_call 58; (with_reducible refine Calls.mono hh ?_); clear hh; rintro e w1 ⟨rfl, ho1, hr1⟩)
        | (have hh := hE.out _ hr1; go_at_call 31; (with_reducible refine Calls.mono hh ?_); clear hh; rintro e w2 ⟨ho2, _, rfl, ⟨sp, sn, sc, rfl, hx⟩, hr2⟩)
        | (go_at_call 98; refine Calls.mono (of_any _ _ _ _ _) ?_; rintro e w4 ⟨rfl, hb4⟩; have hs1 : w.heap.size + 1 ≤ w1.heap.size := (by have := ho1.size; simpa using this); have hx2 := ExAt.weak (c := w.heap.size + 1) hs1 x _ hx; have hsz : w.heap.size + 1 ≤ w2.heap.size := (by have := (ho1.trans ho2).size; simpa using this); have hx4 := one_at 22 hx2 hsz hb4; have hb5 := below_on (below_new w2 (.cells #[.int .i64 (opE x), .slice sp sn sc, .string (txt (nmE x)), .string (txt (prE x)), .int .i64 (kE x), .bool (bE x), .int .i64 (nE x), .string (txt (tE x)), .slice none 0 0] 39)) hb4; have hr4 := hr2.below hb5; have hW := (ho1.trans ho2).trans (only_of_below hb5); clear hx hx2 hr2 hb4 hb5; obtain ⟨yf, yl, yn, y0, y1, y2, y3, y4, y5, y6, y7, y8⟩ := res_cells hW hlt; replace hW : Hid _ := hW; replace hx4 : Hid _ := hx4; replace hr4 : Hid _ := hr4))
      exact ret_ex (.inl rfl) Tryz.results191 rfl rfl hW.out hlt (x := .one 22 x) (ks := .slice (some ⟨w2.heap.size, 0, none⟩) 1 1) hx4.out hr4.out rfl rfl rfl rfl rfl rfl rfl rfl rfl
  · rw [hw, passed_yes hw] at hP
    have e1 : countP E e d L = .ok (.leaf 26 [] [] 0 false 0 []) L.tail := by simp [countP, hw]
    rw [e1]
    clear e1 he h h0
    replace hP : Hid _ := hP
    replace hw : Hid _ := hw
    go_enter Tryz.func191, Tryz.ntmps191
    go_wp2_with (first
      | (have hh := hP.out (); go_at_call 58; (with_reducible refine Calls.mono hh ?_); clear hh; rintro e w1 ⟨rfl, ho1, hr1⟩)
      | (go_at_call 98; refine Calls.mono (of_any _ _ _ _ _) ?_; rintro e w4 ⟨rfl, hb4⟩; have hr4 := hr1.below hb4; have hW := ho1.trans (only_of_below hb4); clear ho1 hr1 hb4; obtain ⟨yf, yl, yn, y0, y1, y2, y3, y4, y5, y6, y7, y8⟩ := res_cells hW hlt; replace hW : Hid _ := hW; replace hr4 : Hid _ := hr4))
    exact ret_ex (.inl rfl) Tryz.results191 rfl rfl hW.out hlt (x := .leaf 26 [] [] 0 false 0 []) (ks := .slice none 0 0) (leaf_at _ _ _ _ _ _ _ _ _) hr4.out rfl rfl rfl rfl rfl rfl rfl rfl rfl

theorem opsK_ne : ∀ i, i < opsK.length → (opsK.getD i ([], 0)).2 ≠ 0 := by decide
theorem opsK_at (w : World) (B g : Nat) (hB : B < w.heap.size) (hg : g = w.heap.size) : OpsAt (w.alloc (.cells #[.string ⟨#[76, 69, 78, 71, 84, 72]⟩, .int .i64 21, .string ⟨#[83, 85, 77]⟩, .int .i64 23, .string ⟨#[77, 73, 78]⟩, .int .i64 24, .string ⟨#[77, 65, 88]⟩, .int .i64 25] 131)) B (some ⟨g, 0, none⟩) opsK := by
  subst hg
  refine .inr ⟨w.heap.size, 0, rfl, hB, fun i hi => ?_⟩
  have hi' : i < 4 := hi
  obtain rfl | rfl | rfl | rfl : i = 0 ∨ i = 1 ∨ i = 2 ∨ i = 3 := by omega
  all_goals exact ⟨alloc_cell w rfl, alloc_cell w rfl⟩
theorem passK {W : World} {B E d : Nat} {L : List Tk} (h : Rd W B E d L) (g : Nat) (hg : g = W.heap.size) :
    Calls Tryz.prog 97 #[rp B, .slice (some ⟨g, 0, none⟩) 4 4] (W.alloc (.cells #[.string ⟨#[76, 69, 78, 71, 84, 72]⟩, .int .i64 21, .string ⟨#[83, 85, 77]⟩, .int .i64 23, .string ⟨#[77, 73, 78]⟩, .int .i64 24, .string ⟨#[77, 65, 88]⟩, .int .i64 25] 131)) fun e w' => e = .returned (.int .i64 (opOf opsK L)) ∧ Only (· = B) (W.alloc (.cells #[.string ⟨#[76, 69, 78, 71, 84, 72]⟩, .int .i64 21, .string ⟨#[83, 85, 77]⟩, .int .i64 23, .string ⟨#[77, 73, 78]⟩, .int .i64 24, .string ⟨#[77, 65, 88]⟩, .int .i64 25] 131)) w' ∧ Rd w' B E d (passedO opsK L) :=
  passOne_any (h.below (below_new W (.cells #[.string ⟨#[76, 69, 78, 71, 84, 72]⟩, .int .i64 21, .string ⟨#[83, 85, 77]⟩, .int .i64 23, .string ⟨#[77, 73, 78]⟩, .int .i64 24, .string ⟨#[77, 65, 88]⟩, .int .i64 25] 131))) opsK (some ⟨g, 0, none⟩) 4 (opsK_at W B g h.lt hg) (by decide) opsK_ne
set_option maxRecDepth 100000 in
set_option maxHeartbeats 2000000 in
theorem keyed_any {B E n : Nat} {e : PR} (he : Reads B E 31 e n) : Reads B E 189 (keyedP E e) (n + 1) := by
  intro w d L hl h
  have hlt := h.lt
  have h0 := h.below (below_new w (.cells #[.int .i64 0, .slice none 0 0, .string ⟨#[]⟩, .string ⟨#[]⟩, .int .i64 0, .bool false, .int .i64 0, .string ⟨#[]⟩, .slice none 0 0] 39))
  have hP := fun (s : List UInt8) W (hr : Rd W B E d L) => pass_any hr s
  have hmf : ∀ (fn : Fn) (first cap : Array Value) (w : World), (Instr.makeFunc fn first cap).run Tryz.prog w = .ok (.func fn first cap) w := fun _ _ _ _ => rfl
  have hZ := only_of_below (B := B) (below_new w (.cells #[.int .i64 0, .slice none 0 0, .string ⟨#[]⟩, .string ⟨#[]⟩, .int .i64 0, .bool false, .int .i64 0, .string ⟨#[]⟩, .slice none 0 0] 39))
  replace h0 : Hid _ := h0
  clear h
  cases hw0 : isW [84, 82, 85, 69] L
  · cases hw1 : isW [70, 65, 76, 83, 69] L
    · cases hw2 : isW [78, 85, 76, 76] L
      · cases hw3 : isW [67, 79, 85, 78, 84] L
        · have hK := fun W (hr : Rd W B E d L) g hg => passK hr g hg
          by_cases hop : opOf opsK L = 0
          · have e1 : keyedP E e d L = .bad (placeL E L) 81 := by simp [keyedP, hw0, hw1, hw2, hw3, hop]
            have e2 : passedO opsK L = L := by unfold passedO; rw [if_pos hop]
            rw [e1]
            rw [hop, e2] at hK
            have hq := fun W (hr : Rd W B E d L) => refusal_any hr 81
            unfold refV at hq
            clear e1 e2 he
            replace hK : Hid _ := hK
            replace hq : Hid _ := hq
            replace hop : Hid _ := hop
            have hP0 := hP [84, 82, 85, 69]
            rw [hw0, passed_no hw0] at hP0
            replace hP0 : Hid _ := hP0
            have hP1 := hP [70, 65, 76, 83, 69]
            rw [hw1, passed_no hw1] at hP1
            replace hP1 : Hid _ := hP1
            have hP2 := hP [78, 85, 76, 76]
            rw [hw2, passed_no hw2] at hP2
            replace hP2 : Hid _ := hP2
            have hP3 := hP [67, 79, 85, 78, 84]
            rw [hw3, passed_no hw3] at hP3
            replace hP3 : Hid _ := hP3
            replace hw0 : Hid _ := hw0
            replace hw1 : Hid _ := hw1
            replace hw2 : Hid _ := hw2
            replace hw3 : Hid _ := hw3
            clear hP
            go_enter Tryz.func189, Tryz.ntmps189
            go_wp2_with (first
              | (have hh := hq.out _ hr5; go_at_call 86; (with_reducible refine Calls.mono hh ?_); clear hh; rintro e w6 ⟨rfl, hb6⟩)
              | (have hh := hK.out _ hr4 _ rfl; go_at_call 97; (with_reducible refine Calls.mono hh ?_); clear hh; rintro e w5 ⟨rfl, ho5, hr5⟩; clear hK)
              | (have hh := hP3.out _ hr3; go_at_call 58; (with_reducible refine Calls.mono hh ?_); clear hh; rintro e w4 ⟨rfl, ho4, hr4⟩; clear hP3) | (have hh := hP2.out _ hr2; go_at_call 58; (with_reducible refine Calls.mono hh ?_); clear hh; rintro e w3 ⟨rfl, ho3, hr3⟩; clear hP2) | (have hh := hP1.out _ hr1; go_at_call 58; (with_reducible refine Calls.mono hh ?_); clear hh; rintro e w2 ⟨rfl, ho2, hr2⟩; clear hP1) | (have hh := hP0.out _ h0.out; go_at_call 58; (with_reducible refine Calls.mono hh ?_); clear hh; rintro e w1 ⟨rfl, ho1, hr1⟩; clear hP0))
            exact end_bad rfl (hZ.trans (((((((ho1).trans ho2).trans ho3).trans ho4).trans (only_of_below (below_new _ _))).trans ho5).trans (only_of_below hb6)))
          · have e2 : passedO opsK L = L.tail := by unfold passedO; rw [if_neg hop]
            have hop2 : (opOf opsK L == 0) = false := by rw [beq_eq_false_iff_ne]; exact hop
            rw [e2] at hK
            have hne := List.length_pos_iff.2 (opOf_cons hop)
            have hI := fun W (hr : Rd W B E d L.tail) => inside_any enters25 he hr (by simp; omega)
            clear e2 he
            cases hX : insideP E e d L.tail with
            | bad a y =>
              have e1 : keyedP E e d L = .bad a y := by simp [keyedP, hw0, hw1, hw2, hw3, hop, hX, Res.then]
              rw [e1]
              rw [hX] at hI
              generalize opOf opsK L = op at *
              clear e1
              replace hK : Hid _ := hK
              replace hI : Hid _ := hI
              replace hop : Hid _ := hop
              replace hX : Hid _ := hX
              have hP0 := hP [84, 82, 85, 69]
              rw [hw0, passed_no hw0] at hP0
              replace hP0 : Hid _ := hP0
              have hP1 := hP [70, 65, 76, 83, 69]
              rw [hw1, passed_no hw1] at hP1
              replace hP1 : Hid _ := hP1
              have hP2 := hP [78, 85, 76, 76]
              rw [hw2, passed_no hw2] at hP2
              replace hP2 : Hid _ := hP2
              have hP3 := hP [67, 79, 85, 78, 84]
              rw [hw3, passed_no hw3] at hP3
              replace hP3 : Hid _ := hP3
              replace hw0 : Hid _ := hw0
              replace hw1 : Hid _ := hw1
              replace hw2 : Hid _ := hw2
              replace hw3 : Hid _ := hw3
              clear hP
              go_enter Tryz.func189, Tryz.ntmps189
              go_wp2_with (first
                | (have hh := hI.out _ hr5; go_at_call 190; (with_reducible refine Calls.mono hh ?_); clear hh; rintro e w6 ⟨ho6, rfl⟩)
                | (have hh := hK.out _ hr4 _ rfl; go_at_call 97; (with_reducible refine Calls.mono hh ?_); clear hh; rintro e w5 ⟨rfl, ho5, hr5⟩; clear hK)
                | (have hh := hP3.out _ hr3; go_at_call 58; (with_reducible refine Calls.mono hh ?_); clear hh; rintro e w4 ⟨rfl, ho4, hr4⟩; clear hP3) | (have hh := hP2.out _ hr2; go_at_call 58; (with_reducible refine Calls.mono hh ?_); clear hh; rintro e w3 ⟨rfl, ho3, hr3⟩; clear hP2) | (have hh := hP1.out _ hr1; go_at_call 58; (with_reducible refine Calls.mono hh ?_); clear hh; rintro e w2 ⟨rfl, ho2, hr2⟩; clear hP1) | (have hh := hP0.out _ h0.out; go_at_call 58; (with_reducible refine Calls.mono hh ?_); clear hh; rintro e w1 ⟨rfl, ho1, hr1⟩; clear hP0))
              exact end_bad rfl (hZ.trans (((((((ho1).trans ho2).trans ho3).trans ho4).trans (only_of_below (below_new _ _))).trans ho5).trans ho6))
            | ok x M =>
              have e1 : keyedP E e d L = .ok (.one (opOf opsK L) x) M := by simp [keyedP, hw0, hw1, hw2, hw3, hop, hX, Res.then]
              rw [e1]
              rw [hX] at hI
              generalize opOf opsK L = op at *
              clear e1
              replace hK : Hid _ := hK
              replace hI : Hid _ := hI
              replace hop : Hid _ := hop
              replace hX : Hid _ := hX
              have hP0 := hP [84, 82, 85, 69]
              rw [hw0, passed_no hw0] at hP0
              replace hP0 : Hid _ := hP0
              have hP1 := hP [70, 65, 76, 83, 69]
              rw [hw1, passed_no hw1] at hP1
              replace hP1 : Hid _ := hP1
              have hP2 := hP [78, 85, 76, 76]
              rw [hw2, passed_no hw2] at hP2
              replace hP2 : Hid _ := hP2
              have hP3 := hP [67, 79, 85, 78, 84]
              rw [hw3, passed_no hw3] at hP3
              replace hP3 : Hid _ := hP3
              replace hw0 : Hid _ := hw0
              replace hw1 : Hid _ := hw1
              replace hw2 : Hid _ := hw2
              replace hw3 : Hid _ := hw3
              clear hP
              go_enter Tryz.func189, Tryz.ntmps189
              go_wp2_with (first
                | (go_at_call 98; refine Calls.mono (of_any _ _ _ _ _) ?_; rintro e w7 ⟨rfl, hb4⟩; have hW5 := (((((ho1).trans ho2).trans ho3).trans ho4).trans (only_of_below (below_new _ _))).trans ho5; have hs1 : w.heap.size + 1 ≤ w5.heap.size := (by have := hW5.size; simpa using this); have hW2 := hW5.trans ho6; have hx2 := ExAt.weak (c := w.heap.size + 1) hs1 x _ hx; have hsz : w.heap.size + 1 ≤ w6.heap.size := (by have := (hW2).size; simpa using this); have hx4 := one_at op hx2 hsz hb4; have hb5 := below_on (below_new w6 (.cells #[.int .i64 (opE x), .slice sp sn sc, .string (txt (nmE x)), .string (txt (prE x)), .int .i64 (kE x), .bool (bE x), .int .i64 (nE x), .string (txt (tE x)), .slice none 0 0] 39)) hb4; have hr4 := hr6.below hb5; have hW := (hW2).trans (only_of_below hb5); clear hx hx2 hr6 hb4 hb5; obtain ⟨yf, yl, yn, y0, y1, y2, y3, y4, y5, y6, y7, y8⟩ := res_cells hW hlt; replace hW : Hid _ := hW; replace hx4 : Hid _ := hx4; replace hr4 : Hid _ := hr4)
                | (have hh := hI.out _ hr5; go_at_call 190; (with_reducible refine Calls.mono hh ?_); clear hh; rintro e w6 ⟨ho6, _, rfl, ⟨sp, sn, sc, rfl, hx⟩, hr6⟩)
                | (have hh := hK.out _ hr4 _ rfl; go_at_call 97; (with_reducible refine Calls.mono hh ?_); clear hh; rintro e w5 ⟨rfl, ho5, hr5⟩; clear hK)
                | (have hh := hP3.out _ hr3; go_at_call 58; (with_reducible refine Calls.mono hh ?_); clear hh; rintro e w4 ⟨rfl, ho4, hr4⟩; clear hP3) | (have hh := hP2.out _ hr2; go_at_call 58; (with_reducible refine Calls.mono hh ?_); clear hh; rintro e w3 ⟨rfl, ho3, hr3⟩; clear hP2) | (have hh := hP1.out _ hr1; go_at_call 58; (with_reducible refine Calls.mono hh ?_); clear hh; rintro e w2 ⟨rfl, ho2, hr2⟩; clear hP1) | (have hh := hP0.out _ h0.out; go_at_call 58; (with_reducible refine Calls.mono hh ?_); clear hh; rintro e w1 ⟨rfl, ho1, hr1⟩; clear hP0))
              exact ret_ex (.inl rfl) Tryz.results189 rfl rfl hW.out hlt (x := .one op x) (ks := .slice (some ⟨w6.heap.size, 0, none⟩) 1 1) hx4.out hr4.out rfl rfl rfl rfl rfl rfl rfl rfl rfl
        · have hI := fun W (hr : Rd W B E d L.tail) => inside_any enters160 (counted_any he) hr (by simp; omega)
          have e1 : keyedP E e d L = insideP E (countP E e) d L.tail := by simp [keyedP, hw0, hw1, hw2, hw3]
          rw [e1]
          clear e1 he
          cases hX : insideP E (countP E e) d L.tail with
          | bad a y =>
            rw [hX] at hI
            replace hI : Hid _ := hI
            replace hX : Hid _ := hX
            have hP0 := hP [84, 82, 85, 69]
            rw [hw0, passed_no hw0] at hP0
            replace hP0 : Hid _ := hP0
            have hP1 := hP [70, 65, 76, 83, 69]
            rw [hw1, passed_no hw1] at hP1
            replace hP1 : Hid _ := hP1
            have hP2 := hP [78, 85, 76, 76]
            rw [hw2, passed_no hw2] at hP2
            replace hP2 : Hid _ := hP2
            have hP3 := hP [67, 79, 85, 78, 84]
            rw [hw3, passed_yes hw3] at hP3
            replace hP3 : Hid _ := hP3
            replace hw0 : Hid _ := hw0
            replace hw1 : Hid _ := hw1
            replace hw2 : Hid _ := hw2
            replace hw3 : Hid _ := hw3
            clear hP
            go_enter Tryz.func189, Tryz.ntmps189
            go_wp2_with (first
              | (have hh := hP3.out _ hr3; go_at_call 58; (with_reducible refine Calls.mono hh ?_); clear hh; rintro e w4 ⟨rfl, ho4, hr4⟩; clear hP3) | (have hh := hP2.out _ hr2; go_at_call 58; (with_reducible refine Calls.mono hh ?_); clear hh; rintro e w3 ⟨rfl, ho3, hr3⟩; clear hP2) | (have hh := hP1.out _ hr1; go_at_call 58; (with_reducible refine Calls.mono hh ?_); clear hh; rintro e w2 ⟨rfl, ho2, hr2⟩; clear hP1) | (have hh := hP0.out _ h0.out; go_at_call 58; (with_reducible refine Calls.mono hh ?_); clear hh; rintro e w1 ⟨rfl, ho1, hr1⟩; clear hP0)
              | (have hh := hI.out _ hr4; go_at_call 190; (with_reducible refine Calls.mono hh ?_); clear hh; rintro e w5 ⟨ho5, rfl⟩))
            exact end_bad rfl (hZ.trans (((((ho1).trans ho2).trans ho3).trans ho4).trans ho5))
          | ok x M =>
            rw [hX] at hI
            replace hI : Hid _ := hI
            replace hX : Hid _ := hX
            have hP0 := hP [84, 82, 85, 69]
            rw [hw0, passed_no hw0] at hP0
            replace hP0 : Hid _ := hP0
            have hP1 := hP [70, 65, 76, 83, 69]
            rw [hw1, passed_no hw1] at hP1
            replace hP1 : Hid _ := hP1
            have hP2 := hP [78, 85, 76, 76]
            rw [hw2, passed_no hw2] at hP2
            replace hP2 : Hid _ := hP2
            have hP3 := hP [67, 79, 85, 78, 84]
            rw [hw3, passed_yes hw3] at hP3
            replace hP3 : Hid _ := hP3
            replace hw0 : Hid _ := hw0
            replace hw1 : Hid _ := hw1
            replace hw2 : Hid _ := hw2
            replace hw3 : Hid _ := hw3
            clear hP
            go_enter Tryz.func189, Tryz.ntmps189
            go_wp2_with (first
              | (have hh := hP3.out _ hr3; go_at_call 58; (with_reducible refine Calls.mono hh ?_); clear hh; rintro e w4 ⟨rfl, ho4, hr4⟩; clear hP3) | (have hh := hP2.out _ hr2; go_at_call 58; (with_reducible refine Calls.mono hh ?_); clear hh; rintro e w3 ⟨rfl, ho3, hr3⟩; clear hP2) | (have hh := hP1.out _ hr1; go_at_call 58; (with_reducible refine Calls.mono hh ?_); clear hh; rintro e w2 ⟨rfl, ho2, hr2⟩; clear hP1) | (have hh := hP0.out _ h0.out; go_at_call 58; (with_reducible refine Calls.mono hh ?_); clear hh; rintro e w1 ⟨rfl, ho1, hr1⟩; clear hP0)
              | (have hh := hI.out _ hr4; go_at_call 190; (with_reducible refine Calls.mono hh ?_); clear hh; rintro e w5 ⟨ho5, _, rfl, ⟨sp, sn, sc, rfl, hx⟩, hr5⟩; have hW4 := (((ho1).trans ho2).trans ho3).trans ho4; have hs1 : w.heap.size + 1 ≤ w4.heap.size := (by have := hW4.size; simpa using this); have hx2 := ExAt.weak (c := w.heap.size + 1) hs1 x _ hx; have hW := hW4.trans ho5; clear hx; obtain ⟨yf, yl, yn, y0, y1, y2, y3, y4, y5, y6, y7, y8⟩ := res_cells hW hlt; replace hW : Hid _ := hW; replace hx2 : Hid _ := hx2; replace hr5 : Hid _ := hr5))
            exact ret_ex (.inl rfl) Tryz.results189 rfl rfl hW.out hlt hx2.out hr5.out rfl rfl rfl rfl rfl rfl rfl rfl rfl
      · have e1 : keyedP E e d L = .ok (litE 0 false 0 []) L.tail := by simp [keyedP, hw0, hw1, hw2]
        rw [e1]
        clear e1 he
        have hP0 := hP [84, 82, 85, 69]
        rw [hw0, passed_no hw0] at hP0
        replace hP0 : Hid _ := hP0
        have hP1 := hP [70, 65, 76, 83, 69]
        rw [hw1, passed_no hw1] at hP1
        replace hP1 : Hid _ := hP1
        have hP2 := hP [78, 85, 76, 76]
        rw [hw2, passed_yes hw2] at hP2
        replace hP2 : Hid _ := hP2
        replace hw0 : Hid _ := hw0
        replace hw1 : Hid _ := hw1
        replace hw2 : Hid _ := hw2
        clear hP
        go_enter Tryz.func189, Tryz.ntmps189
        go_wp2_with (first
          | (have hh := hP2.out _ hr2; go_at_call 58; (with_reducible refine Calls.mono hh ?_); clear hh; rintro e w3 ⟨rfl, ho3, hr3⟩; clear hP2) | (have hh := hP1.out _ hr1; go_at_call 58; (with_reducible refine Calls.mono hh ?_); clear hh; rintro e w2 ⟨rfl, ho2, hr2⟩; clear hP1) | (have hh := hP0.out _ h0.out; go_at_call 58; (with_reducible refine Calls.mono hh ?_); clear hh; rintro e w1 ⟨rfl, ho1, hr1⟩; clear hP0)
          | (go_at_call 187; refine Calls.mono (literal_any _ _ _ _ _) ?_; rintro e w9 ⟨rfl, hb9⟩; have hr9 := hr3.below hb9; have hW := (((ho1).trans ho2).trans ho3).trans (only_of_below hb9); clear hb9; obtain ⟨yf, yl, yn, y0, y1, y2, y3, y4, y5, y6, y7, y8⟩ := res_cells hW hlt; replace hW : Hid _ := hW; replace hr9 : Hid _ := hr9))
        exact ret_ex (.inl rfl) Tryz.results189 rfl rfl hW.out hlt (x := litE 0 false 0 []) (ks := .slice none 0 0) (leaf_at _ _ _ _ _ _ _ _ _) hr9.out rfl rfl rfl rfl rfl rfl rfl rfl rfl
    · have e1 : keyedP E e d L = .ok (litE 1 false 0 []) L.tail := by simp [keyedP, hw0, hw1]
      rw [e1]
      clear e1 he
      have hP0 := hP [84, 82, 85, 69]
      rw [hw0, passed_no hw0] at hP0
      replace hP0 : Hid _ := hP0
      have hP1 := hP [70, 65, 76, 83, 69]
      rw [hw1, passed_yes hw1] at hP1
      replace hP1 : Hid _ := hP1
      replace hw0 : Hid _ := hw0
      replace hw1 : Hid _ := hw1
      clear hP
      go_enter Tryz.func189, Tryz.ntmps189
      go_wp2_with (first
        | (have hh := hP1.out _ hr1; go_at_call 58; (with_reducible refine Calls.mono hh ?_); clear hh; rintro e w2 ⟨rfl, ho2, hr2⟩; clear hP1) | (have hh := hP0.out _ h0.out; go_at_call 58; (with_reducible refine Calls.mono hh ?_); clear hh; rintro e w1 ⟨rfl, ho1, hr1⟩; clear hP0)
        | (go_at_call 187; refine Calls.mono (literal_any _ _ _ _ _) ?_; rintro e w9 ⟨rfl, hb9⟩; have hr9 := hr2.below hb9; have hW := ((ho1).trans ho2).trans (only_of_below hb9); clear hb9; obtain ⟨yf, yl, yn, y0, y1, y2, y3, y4, y5, y6, y7, y8⟩ := res_cells hW hlt; replace hW : Hid _ := hW; replace hr9 : Hid _ := hr9))
      exact ret_ex (.inl rfl) Tryz.results189 rfl rfl hW.out hlt (x := litE 1 false 0 []) (ks := .slice none 0 0) (leaf_at _ _ _ _ _ _ _ _ _) hr9.out rfl rfl rfl rfl rfl rfl rfl rfl rfl
  · have e1 : keyedP E e d L = .ok (litE 1 true 0 []) L.tail := by simp [keyedP, hw0]
    rw [e1]
    clear e1 he
    have hP0 := hP [84, 82, 85, 69]
    rw [hw0, passed_yes hw0] at hP0
    replace hP0 : Hid _ := hP0
    replace hw0 : Hid _ := hw0
    clear hP
    go_enter Tryz.func189, Tryz.ntmps189
    go_wp2_with (first
      | (have hh := hP0.out _ h0.out; go_at_call 58; (with_reducible refine Calls.mono hh ?_); clear hh; rintro e w1 ⟨rfl, ho1, hr1⟩; clear hP0)
      | (go_at_call 187; refine Calls.mono (literal_any _ _ _ _ _) ?_; rintro e w9 ⟨rfl, hb9⟩; have hr9 := hr1.below hb9; have hW := (ho1).trans (only_of_below hb9); clear hb9; obtain ⟨yf, yl, yn, y0, y1, y2, y3, y4, y5, y6, y7, y8⟩ := res_cells hW hlt; replace hW : Hid _ := hW; replace hr9 : Hid _ := hr9))
    exact ret_ex (.inl rfl) Tryz.results189 rfl rfl hW.out hlt (x := litE 1 true 0 []) (ks := .slice none 0 0) (leaf_at _ _ _ _ _ _ _ _ _) hr9.out rfl rfl rfl rfl rfl rfl rfl rfl rfl
end Go.Proofs.YtkcnpbckmdgfnaaGreatDoor
