/-
  The readers of names, of what COUNT has inside, of minus and of NOT.
-/
import Derived.Test.YtkcnpbckmdgfnaaGreatDoorLv2
namespace Go.Proofs.YtkcnpbckmdgfnaaGreatDoor
open Go.ChangeShapes Go.WideShapes Go.ChangeAt Go.RowKit
set_option linter.unusedSimpArgs false
set_option linter.unusedVariables false

theorem leaf_at (w : World) (S : Nat → Prop) (op : Int) (n p : List UInt8) (k : Int) (b : Bool) (i : Int) (t : List UInt8) : ExAt w S (.leaf op n p k b i t) (.slice none 0 0) := rfl
set_option maxRecDepth 100000 in
set_option maxHeartbeats 1000000 in
theorem named_any {B E : Nat} {w : World} {d : Nat} {L : List Tk} (h : Rd w B E d L) : Calls Tryz.prog 188 #[rp B] w (Ans w B E d (namedP E d L) (IsEx w.heap.size)) := by
  have hlt := h.lt
  have h0 := h.below (below_new w (.cells #[.int .i64 0, .slice none 0 0, .string ⟨#[]⟩, .string ⟨#[]⟩, .int .i64 0, .bool false, .int .i64 0, .string ⟨#[]⟩, .slice none 0 0] 39))
  have hM1 := fun (_ : Unit) => mustName_any h0
  clear h h0
  cases hN : nameP E L with
  | bad a y =>
    have e : namedP E d L = .bad a y := by simp [namedP, hN, Res.then]
    rw [e]
    rw [hN] at hM1
    replace hM1 : Hid _ := hM1
    replace hN : Hid _ := hN
    clear e
    go_enter Tryz.func188, Tryz.ntmps188
    go_wp2_with (have hh := hM1.out (); go_at_call 90; (with_reducible refine Calls.mono hh ?_); clear hh; rintro e w1 ⟨ho1, rfl⟩)
    exact end_bad rfl ((only_of_below (below_new w (.cells #[.int .i64 0, .slice none 0 0, .string ⟨#[]⟩, .string ⟨#[]⟩, .int .i64 0, .bool false, .int .i64 0, .string ⟨#[]⟩, .slice none 0 0] 39))).trans ho1)
  | ok nm M =>
    rw [hN] at hM1
    have hP := fun W (hr : Rd W B E d M) => pass_any hr [46]
    cases hw : isW [46] M
    · have e : namedP E d L = .ok (.leaf 2 nm [] 0 false 0 []) M := by simp [namedP, hN, Res.then, hw]
      rw [e]
      rw [hw, passed_no hw] at hP
      replace hM1 : Hid _ := hM1
      replace hP : Hid _ := hP
      replace hN : Hid _ := hN
      replace hw : Hid _ := hw
      clear e
      go_enter Tryz.func188, Tryz.ntmps188
      go_wp2_with (first
        | (have hh := hM1.out (); go_at_call 90; (with_reducible refine Calls.mono hh ?_); clear hh hM1; rintro e w1 ⟨ho1, _, rfl, rfl, hr1⟩)
        | (have hh := hP.out _ hr1; go_at_call 58; (with_reducible refine Calls.mono hh ?_); clear hh; rintro e w2 ⟨rfl, ho2, hr2⟩; have hW := ho1.trans ho2; obtain ⟨yf, yl, yn, y0, y1, y2, y3, y4, y5, y6, y7, y8⟩ := res_cells hW hlt; replace hW : Hid _ := hW; clear ho1 ho2; replace hr2 : Hid _ := hr2))
      exact ret_ex (.inl rfl) Tryz.results188 rfl rfl hW.out hlt (x := .leaf 2 nm [] 0 false 0 []) (ks := .slice none 0 0) (leaf_at _ _ _ _ _ _ _ _ _) hr2.out rfl rfl rfl rfl rfl rfl rfl rfl rfl
    · rw [hw, passed_yes hw] at hP
      have hM2 := fun W (hr : Rd W B E d M.tail) => mustName_any hr
      cases hN2 : nameP E M.tail with
      | bad a y =>
        have e : namedP E d L = .bad a y := by simp [namedP, hN, Res.then, hw, hN2]
        rw [e]
        rw [hN2] at hM2
        replace hM1 : Hid _ := hM1
        replace hM2 : Hid _ := hM2
        replace hP : Hid _ := hP
        replace hN : Hid _ := hN
        replace hN2 : Hid _ := hN2
        replace hw : Hid _ := hw
        clear e
        go_enter Tryz.func188, Tryz.ntmps188
        go_wp2_with (first
          | (have hh := hM1.out (); go_at_call 90; (with_reducible refine Calls.mono hh ?_); clear hh hM1; rintro e w1 ⟨ho1, _, rfl, rfl, hr1⟩)
          | (have hh := hP.out _ hr1; go_at_call 58; (with_reducible refine Calls.mono hh ?_); clear hh; rintro e w2 ⟨rfl, ho2, hr2⟩)
          | (have hh := hM2.out _ hr2; go_at_call 90; (with_reducible refine Calls.mono hh ?_); clear hh; rintro e w3 ⟨ho3, rfl⟩))
        exact end_bad rfl ((only_of_below (below_new w (.cells #[.int .i64 0, .slice none 0 0, .string ⟨#[]⟩, .string ⟨#[]⟩, .int .i64 0, .bool false, .int .i64 0, .string ⟨#[]⟩, .slice none 0 0] 39))).trans (ho1.trans (ho2.trans ho3)))
      | ok pr M2 =>
        have e : namedP E d L = .ok (.leaf 3 nm pr 0 false 0 []) M2 := by simp [namedP, hN, Res.then, hw, hN2]
        rw [e]
        rw [hN2] at hM2
        replace hM1 : Hid _ := hM1
        replace hM2 : Hid _ := hM2
        replace hP : Hid _ := hP
        replace hN : Hid _ := hN
        replace hN2 : Hid _ := hN2
        replace hw : Hid _ := hw
        clear e
        go_enter Tryz.func188, Tryz.ntmps188
        go_wp2_with (first
          | (have hh := hM1.out (); go_at_call 90; (with_reducible refine Calls.mono hh ?_); clear hh hM1; rintro e w1 ⟨ho1, _, rfl, rfl, hr1⟩)
          | (have hh := hP.out _ hr1; go_at_call 58; (with_reducible refine Calls.mono hh ?_); clear hh; rintro e w2 ⟨rfl, ho2, hr2⟩)
          | (have hh := hM2.out _ hr2; go_at_call 90; (with_reducible refine Calls.mono hh ?_); clear hh; rintro e w3 ⟨ho3, _, rfl, rfl, hr3⟩; have hW := (ho1.trans ho2).trans ho3; obtain ⟨yf, yl, yn, y0, y1, y2, y3, y4, y5, y6, y7, y8⟩ := res_cells hW hlt; replace hW : Hid _ := hW; clear ho1 ho2 ho3; replace hr3 : Hid _ := hr3))
        exact ret_ex (.inl rfl) Tryz.results188 rfl rfl hW.out hlt (x := .leaf 3 nm pr 0 false 0 []) (ks := .slice none 0 0) (leaf_at _ _ _ _ _ _ _ _ _) hr3.out rfl rfl rfl rfl rfl rfl rfl rfl rfl

set_option maxRecDepth 100000 in
set_option maxHeartbeats 1000000 in
theorem minus_any {B E n : Nat} {m e : PR} (hm : Reads B E 179 m n) (hr0 : Reads B E 185 (plainP E e) (n + 1)) : Reads B E 179 (minusP E m e) (n + 1) := by
  intro w d L hl h
  have hlt := h.lt
  have h0 := h.below (below_new w (.cells #[.int .i64 0, .slice none 0 0, .string ⟨#[]⟩, .string ⟨#[]⟩, .int .i64 0, .bool false, .int .i64 0, .string ⟨#[]⟩, .slice none 0 0] 39))
  have hN := fun g hg => isNext1 h0 [45] _ g (Below.refl _ _) hg
  have hD := fun (hne : L ≠ []) W (hb : Below (w.alloc (.cells #[.int .i64 0, .slice none 0 0, .string ⟨#[]⟩, .string ⟨#[]⟩, .int .i64 0, .bool false, .int .i64 0, .string ⟨#[]⟩, .slice none 0 0] 39)).heap.size (w.alloc (.cells #[.int .i64 0, .slice none 0 0, .string ⟨#[]⟩, .string ⟨#[]⟩, .int .i64 0, .bool false, .int .i64 0, .string ⟨#[]⟩, .slice none 0 0] 39)) W) => deeper_any enters141 hm (h0.below hb) hne (by omega)
  have hR := fun W (hb : Below (w.alloc (.cells #[.int .i64 0, .slice none 0 0, .string ⟨#[]⟩, .string ⟨#[]⟩, .int .i64 0, .bool false, .int .i64 0, .string ⟨#[]⟩, .slice none 0 0] 39)).heap.size (w.alloc (.cells #[.int .i64 0, .slice none 0 0, .string ⟨#[]⟩, .string ⟨#[]⟩, .int .i64 0, .bool false, .int .i64 0, .string ⟨#[]⟩, .slice none 0 0] 39)) W) => hr0 W d L hl (h0.below hb)
  clear h h0 hm hr0
  cases hw : isW [45] L
  · have e1 : (minusP E m e) d L = (plainP E e) d L := by simp [minusP, hw]
    rw [e1]
    rw [hw] at hN
    clear hD e1
    cases hX : (plainP E e) d L with
    | bad a y =>
      rw [hX] at hR
      replace hN : Hid _ := hN
      replace hR : Hid _ := hR
      replace hw : Hid _ := hw
      replace hX : Hid _ := hX
      go_enter Tryz.func179, Tryz.ntmps179
      go_wp2_with (first
        | (go_at_call 61; refine Calls.mono (hN.out _ (by simp)) ?_; rintro e w1 ⟨rfl, hb1⟩)
        | (have hh := hR.out _ hb1; go_at_call 185; (with_reducible refine Calls.mono hh ?_); clear hh; rintro e w2 ⟨ho2, rfl⟩))
      exact end_bad rfl ((only_of_below (below_on (below_new w (.cells #[.int .i64 0, .slice none 0 0, .string ⟨#[]⟩, .string ⟨#[]⟩, .int .i64 0, .bool false, .int .i64 0, .string ⟨#[]⟩, .slice none 0 0] 39)) hb1)).trans ho2)
    | ok x M =>
      rw [hX] at hR
      replace hN : Hid _ := hN
      replace hR : Hid _ := hR
      replace hw : Hid _ := hw
      replace hX : Hid _ := hX
      go_enter Tryz.func179, Tryz.ntmps179
      go_wp2_with (first
        | (go_at_call 61; refine Calls.mono (hN.out _ (by simp)) ?_; rintro e w1 ⟨rfl, hb1⟩)
        | (have hh := hR.out _ hb1; go_at_call 185; (with_reducible refine Calls.mono hh ?_); clear hh; rintro e w2 ⟨ho2, _, rfl, ⟨sp, sn, sc, rfl, hx⟩, hr2⟩; have hW := (only_of_below (B := B) hb1).trans ho2; have hs1 : w.heap.size + 1 ≤ w1.heap.size := (by have := hb1.size; simpa using this); have hx2 := ExAt.weak (c := w.heap.size + 1) hs1 x _ hx; clear hx ho2; obtain ⟨yf, yl, yn, y0, y1, y2, y3, y4, y5, y6, y7, y8⟩ := res_cells hW hlt; replace hW : Hid _ := hW; replace hx2 : Hid _ := hx2; replace hr2 : Hid _ := hr2))
      exact ret_ex (.inl rfl) Tryz.results179 rfl rfl hW.out hlt hx2.out hr2.out rfl rfl rfl rfl rfl rfl rfl rfl rfl
  · have hD := hD (isW_ne hw)
    rw [hw] at hN
    clear hR
    cases hX : deepP E m d L with
    | bad a y =>
      have e1 : (minusP E m e) d L = .bad a y := by simp [minusP, hw, hX, Res.then]
      rw [e1]
      rw [hX] at hD
      replace hN : Hid _ := hN
      replace hD : Hid _ := hD
      replace hw : Hid _ := hw
      replace hX : Hid _ := hX
      clear e1
      have hmf : ∀ (fn : Fn) (first cap : Array Value) (w : World), (Instr.makeFunc fn first cap).run Tryz.prog w = .ok (.func fn first cap) w := fun _ _ _ _ => rfl
      go_enter Tryz.func179, Tryz.ntmps179
      go_wp2_with (first
        | (go_at_call 61; refine Calls.mono (hN.out _ (by simp)) ?_; rintro e w1 ⟨rfl, hb1⟩)
        | (have hh := hD.out _ hb1; go_at_call 126; (with_reducible refine Calls.mono hh ?_); clear hh; rintro e w2 ⟨ho2, rfl⟩))
      exact end_bad rfl ((only_of_below (below_on (below_new w (.cells #[.int .i64 0, .slice none 0 0, .string ⟨#[]⟩, .string ⟨#[]⟩, .int .i64 0, .bool false, .int .i64 0, .string ⟨#[]⟩, .slice none 0 0] 39)) hb1)).trans ho2)
    | ok x M =>
      have e1 : (minusP E m e) d L = .ok (.one 18 x) M := by simp [minusP, hw, hX, Res.then]
      rw [e1]
      rw [hX] at hD
      replace hN : Hid _ := hN
      replace hD : Hid _ := hD
      replace hw : Hid _ := hw
      replace hX : Hid _ := hX
      clear e1
      have hmf : ∀ (fn : Fn) (first cap : Array Value) (w : World), (Instr.makeFunc fn first cap).run Tryz.prog w = .ok (.func fn first cap) w := fun _ _ _ _ => rfl
      go_enter Tryz.func179, Tryz.ntmps179
      go_wp2_with (first
        | (go_at_call 61; refine Calls.mono (hN.out _ (by simp)) ?_; rintro e w1 ⟨rfl, hb1⟩)
        | (have hh := hD.out _ hb1; go_at_call 126; (with_reducible refine Calls.mono hh ?_); clear hh; rintro e w2 ⟨ho2, _, rfl, ⟨sp, sn, sc, rfl, hx⟩, hr2⟩)
        | (go_at_call 98; refine Calls.mono (of_any _ _ _ _ _) ?_; rintro e w4 ⟨rfl, hb4⟩; have hs1 : w.heap.size + 1 ≤ w1.heap.size := (by have := hb1.size; simpa using this); have hx2 := ExAt.weak (c := w.heap.size + 1) hs1 x _ hx; have hsz : w.heap.size + 1 ≤ w2.heap.size := Nat.le_trans hs1 ho2.size; have hx4 := one_at 18 hx2 hsz hb4; have hb5 := below_on (below_new w2 (.cells #[.int .i64 (opE x), .slice sp sn sc, .string (txt (nmE x)), .string (txt (prE x)), .int .i64 (kE x), .bool (bE x), .int .i64 (nE x), .string (txt (tE x)), .slice none 0 0] 39)) hb4; have hr4 := hr2.below hb5; have hW := ((only_of_below (B := B) hb1).trans ho2).trans (only_of_below hb5); clear hx hx2 ho2 hr2 hb4 hb5; obtain ⟨yf, yl, yn, y0, y1, y2, y3, y4, y5, y6, y7, y8⟩ := res_cells hW hlt; replace hW : Hid _ := hW; replace hx4 : Hid _ := hx4; replace hr4 : Hid _ := hr4))
      exact ret_ex (.inl rfl) Tryz.results179 rfl rfl hW.out hlt (x := .one 18 x) (ks := .slice (some ⟨w2.heap.size, 0, none⟩) 1 1) hx4.out hr4.out rfl rfl rfl rfl rfl rfl rfl rfl rfl

set_option maxRecDepth 100000 in
set_option maxHeartbeats 1000000 in
theorem deny_any {B E n : Nat} {m e : PR} (hm : Reads B E 99 m n) (hr0 : Reads B E 127 (testP E e) (n + 1)) : Reads B E 99 (denyP E m e) (n + 1) := by
  intro w d L hl h
  have hlt := h.lt
  have h0 := h.below (below_new w (.cells #[.int .i64 0, .slice none 0 0, .string ⟨#[]⟩, .string ⟨#[]⟩, .int .i64 0, .bool false, .int .i64 0, .string ⟨#[]⟩, .slice none 0 0] 39))
  have hN := fun g hg => isNext1 h0 [78, 79, 84] _ g (Below.refl _ _) hg
  have hD := fun (hne : L ≠ []) W (hb : Below (w.alloc (.cells #[.int .i64 0, .slice none 0 0, .string ⟨#[]⟩, .string ⟨#[]⟩, .int .i64 0, .bool false, .int .i64 0, .string ⟨#[]⟩, .slice none 0 0] 39)).heap.size (w.alloc (.cells #[.int .i64 0, .slice none 0 0, .string ⟨#[]⟩, .string ⟨#[]⟩, .int .i64 0, .bool false, .int .i64 0, .string ⟨#[]⟩, .slice none 0 0] 39)) W) => deeper_any enters77 hm (h0.below hb) hne (by omega)
  have hR := fun W (hb : Below (w.alloc (.cells #[.int .i64 0, .slice none 0 0, .string ⟨#[]⟩, .string ⟨#[]⟩, .int .i64 0, .bool false, .int .i64 0, .string ⟨#[]⟩, .slice none 0 0] 39)).heap.size (w.alloc (.cells #[.int .i64 0, .slice none 0 0, .string ⟨#[]⟩, .string ⟨#[]⟩, .int .i64 0, .bool false, .int .i64 0, .string ⟨#[]⟩, .slice none 0 0] 39)) W) => hr0 W d L hl (h0.below hb)
  clear h h0 hm hr0
  cases hw : isW [78, 79, 84] L
  · have e1 : (denyP E m e) d L = (testP E e) d L := by simp [denyP, hw]
    rw [e1]
    rw [hw] at hN
    clear hD e1
    cases hX : (testP E e) d L with
    | bad a y =>
      rw [hX] at hR
      replace hN : Hid _ := hN
      replace hR : Hid _ := hR
      replace hw : Hid _ := hw
      replace hX : Hid _ := hX
      go_enter Tryz.func99, Tryz.ntmps99
      go_wp2_with (first
        | (go_at_call 61; refine Calls.mono (hN.out _ (by simp)) ?_; rintro e w1 ⟨rfl, hb1⟩)
        | (have hh := hR.out _ hb1; go_at_call 127; (with_reducible refine Calls.mono hh ?_); clear hh; rintro e w2 ⟨ho2, rfl⟩))
      exact end_bad rfl ((only_of_below (below_on (below_new w (.cells #[.int .i64 0, .slice none 0 0, .string ⟨#[]⟩, .string ⟨#[]⟩, .int .i64 0, .bool false, .int .i64 0, .string ⟨#[]⟩, .slice none 0 0] 39)) hb1)).trans ho2)
    | ok x M =>
      rw [hX] at hR
      replace hN : Hid _ := hN
      replace hR : Hid _ := hR
      replace hw : Hid _ := hw
      replace hX : Hid _ := hX
      go_enter Tryz.func99, Tryz.ntmps99
      go_wp2_with (first
        | (go_at_call 61; refine Calls.mono (hN.out _ (by simp)) ?_; rintro e w1 ⟨rfl, hb1⟩)
        | (have hh := hR.out _ hb1; go_at_call 127; (with_reducible refine Calls.mono hh ?_); clear hh; rintro e w2 ⟨ho2, _, rfl, ⟨sp, sn, sc, rfl, hx⟩, hr2⟩; have hW := (only_of_below (B := B) hb1).trans ho2; have hs1 : w.heap.size + 1 ≤ w1.heap.size := (by have := hb1.size; simpa using this); have hx2 := ExAt.weak (c := w.heap.size + 1) hs1 x _ hx; clear hx ho2; obtain ⟨yf, yl, yn, y0, y1, y2, y3, y4, y5, y6, y7, y8⟩ := res_cells hW hlt; replace hW : Hid _ := hW; replace hx2 : Hid _ := hx2; replace hr2 : Hid _ := hr2))
      exact ret_ex (.inl rfl) Tryz.results99 rfl rfl hW.out hlt hx2.out hr2.out rfl rfl rfl rfl rfl rfl rfl rfl rfl
  · have hD := hD (isW_ne hw)
    rw [hw] at hN
    clear hR
    cases hX : deepP E m d L with
    | bad a y =>
      have e1 : (denyP E m e) d L = .bad a y := by simp [denyP, hw, hX, Res.then]
      rw [e1]
      rw [hX] at hD
      replace hN : Hid _ := hN
      replace hD : Hid _ := hD
      replace hw : Hid _ := hw
      replace hX : Hid _ := hX
      clear e1
      have hmf : ∀ (fn : Fn) (first cap : Array Value) (w : World), (Instr.makeFunc fn first cap).run Tryz.prog w = .ok (.func fn first cap) w := fun _ _ _ _ => rfl
      go_enter Tryz.func99, Tryz.ntmps99
      go_wp2_with (first
        | (go_at_call 61; refine Calls.mono (hN.out _ (by simp)) ?_; rintro e w1 ⟨rfl, hb1⟩)
        | (have hh := hD.out _ hb1; go_at_call 126; (with_reducible refine Calls.mono hh ?_); clear hh; rintro e w2 ⟨ho2, rfl⟩))
      exact end_bad rfl ((only_of_below (below_on (below_new w (.cells #[.int .i64 0, .slice none 0 0, .string ⟨#[]⟩, .string ⟨#[]⟩, .int .i64 0, .bool false, .int .i64 0, .string ⟨#[]⟩, .slice none 0 0] 39)) hb1)).trans ho2)
    | ok x M =>
      have e1 : (denyP E m e) d L = .ok (.one 17 x) M := by simp [denyP, hw, hX, Res.then]
      rw [e1]
      rw [hX] at hD
      replace hN : Hid _ := hN
      replace hD : Hid _ := hD
      replace hw : Hid _ := hw
      replace hX : Hid _ := hX
      clear e1
      have hmf : ∀ (fn : Fn) (first cap : Array Value) (w : World), (Instr.makeFunc fn first cap).run Tryz.prog w = .ok (.func fn first cap) w := fun _ _ _ _ => rfl
      go_enter Tryz.func99, Tryz.ntmps99
      go_wp2_with (first
        | (go_at_call 61; refine Calls.mono (hN.out _ (by simp)) ?_; rintro e w1 ⟨rfl, hb1⟩)
        | (have hh := hD.out _ hb1; go_at_call 126; (with_reducible refine Calls.mono hh ?_); clear hh; rintro e w2 ⟨ho2, _, rfl, ⟨sp, sn, sc, rfl, hx⟩, hr2⟩)
        | (go_at_call 98; refine Calls.mono (of_any _ _ _ _ _) ?_; rintro e w4 ⟨rfl, hb4⟩; have hs1 : w.heap.size + 1 ≤ w1.heap.size := (by have := hb1.size; simpa using this); have hx2 := ExAt.weak (c := w.heap.size + 1) hs1 x _ hx; have hsz : w.heap.size + 1 ≤ w2.heap.size := Nat.le_trans hs1 ho2.size; have hx4 := one_at 17 hx2 hsz hb4; have hb5 := below_on (below_new w2 (.cells #[.int .i64 (opE x), .slice sp sn sc, .string (txt (nmE x)), .string (txt (prE x)), .int .i64 (kE x), .bool (bE x), .int .i64 (nE x), .string (txt (tE x)), .slice none 0 0] 39)) hb4; have hr4 := hr2.below hb5; have hW := ((only_of_below (B := B) hb1).trans ho2).trans (only_of_below hb5); clear hx hx2 ho2 hr2 hb4 hb5; obtain ⟨yf, yl, yn, y0, y1, y2, y3, y4, y5, y6, y7, y8⟩ := res_cells hW hlt; replace hW : Hid _ := hW; replace hx4 : Hid _ := hx4; replace hr4 : Hid _ := hr4))
      exact ret_ex (.inl rfl) Tryz.results99 rfl rfl hW.out hlt (x := .one 17 x) (ks := .slice (some ⟨w2.heap.size, 0, none⟩) 1 1) hx4.out hr4.out rfl rfl rfl rfl rfl rfl rfl rfl rfl
end Go.Proofs.YtkcnpbckmdgfnaaGreatDoor
