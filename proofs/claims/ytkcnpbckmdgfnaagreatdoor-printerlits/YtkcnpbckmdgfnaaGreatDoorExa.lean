/-
  The readers of names, of what COUNT has inside, of minus and of NOT.
  The readers of what COUNT has inside, of keys, of what is plain.
  The reader of what is plain.
  The reader of tests.
-/
import Derived.Test.YtkcnpbckmdgfnaaGreatDoorLva
import Derived.Deep.RegionWith
namespace Go.Proofs.YtkcnpbckmdgfnaaGreatDoor
open Go.ChangeShapes Go.WideShapes Go.ChangeAt Go.RowKit
set_option linter.unusedSimpArgs false
set_option linter.unusedVariables false

theorem leaf_at (w : World) (S : Nat → Prop) (op : Int) (n p : List UInt8) (k : Int) (b : Bool) (i : Int) (t : List UInt8) : ExAt w S (.leaf op n p k b i t) (.slice none 0 0) := rfl
set_option maxRecDepth 100000 in
set_option maxHeartbeats 1000000 in
theorem named_any {B E : Nat} {w : World} {d : Nat} {L : List Tk} (h : Rd w B E d L) : Calls Tryz.prog 188 #[rp B] w (Ans w B E d (namedP E d L) (IsEx w.heap.size)) := by
  have hlt := h.lt
  have h0 := h.below (below_new w (.cells #[.int .i64 0, .slice none 0 0, .string ⟨#[]⟩, .string ⟨#[]⟩, .int .i64 0, .bool false, .int .i64 0, .string ⟨#[]⟩, .slice none 0 0] 39))
  have hM1 := fun (_ : Unit) => mustName_any h0
  clear h h0
  cases hN : nameP E L with
  | bad a y =>
    have e : namedP E d L = .bad a y := by simp [namedP, hN, Res.then]
    rw [e]
    rw [hN] at hM1
    replace hM1 : Hid _ := hM1
    replace hN : Hid _ := hN
    clear e
    go_enter Tryz.func188, Tryz.ntmps188
    go_wp2_with (have hh := hM1.out (); go_at_call 90; (with_reducible refine Calls.mono hh ?_); clear hh; rintro e w1 ⟨ho1, rfl⟩)
    exact end_bad rfl ((only_of_below (below_new w (.cells #[.int .i64 0, .slice none 0 0, .string ⟨#[]⟩, .string ⟨#[]⟩, .int .i64 0, .bool false, .int .i64 0, .string ⟨#[]⟩, .slice none 0 0] 39))).trans ho1)
  | ok nm M =>
    rw [hN] at hM1
    have hP := fun W (hr : Rd W B E d M) => pass_any hr [46]
    cases hw : isW [46] M
    · have e : namedP E d L = .ok (.leaf 2 nm [] 0 false 0 []) M := by simp [namedP, hN, Res.then, hw]
      rw [e]
      rw [hw, passed_no hw] at hP
      replace hM1 : Hid _ := hM1
      replace hP : Hid _ := hP
      replace hN : Hid _ := hN
      replace hw : Hid _ := hw
      clear e
      go_enter Tryz.func188, Tryz.ntmps188
      go_wp2_with (first
        | (have hh := hM1.out (); go_at_call 90; (with_reducible refine Calls.mono hh ?_); clear hh hM1; rintro e w1 ⟨ho1, _, rfl, rfl, hr1⟩)
        | (have hh := hP.out _ hr1; go_at_call 58; (with_reducible refine Calls.mono hh ?_); clear hh; rintro e w2 ⟨rfl, ho2, hr2⟩; have hW := ho1.trans ho2; obtain ⟨yf, yl, yn, y0, y1, y2, y3, y4, y5, y6, y7, y8⟩ := res_cells hW hlt; replace hW : Hid _ := hW; clear ho1 ho2; replace hr2 : Hid _ := hr2))
      exact ret_ex (.inl rfl) Tryz.results188 rfl rfl hW.out hlt (x := .leaf 2 nm [] 0 false 0 []) (ks := .slice none 0 0) (leaf_at _ _ _ _ _ _ _ _ _) hr2.out rfl rfl rfl rfl rfl rfl rfl rfl rfl
    · rw [hw, passed_yes hw] at hP
      have hM2 := fun W (hr : Rd W B E d M.tail) => mustName_any hr
      cases hN2 : nameP E M.tail with
      | bad a y =>
        have e : namedP E d L = .bad a y := by simp [namedP, hN, Res.then, hw, hN2]
        rw [e]
        rw [hN2] at hM2
        replace hM1 : Hid _ := hM1
        replace hM2 : Hid _ := hM2
        replace hP : Hid _ := hP
        replace hN : Hid _ := hN
        replace hN2 : Hid _ := hN2
        replace hw : Hid _ := hw
        clear e
        go_enter Tryz.func188, Tryz.ntmps188
        go_wp2_with (first
          | (have hh := hM1.out (); go_at_call 90; (with_reducible refine Calls.mono hh ?_); clear hh hM1; rintro e w1 ⟨ho1, _, rfl, rfl, hr1⟩)
          | (have hh := hP.out _ hr1; go_at_call 58; (with_reducible refine Calls.mono hh ?_); clear hh; rintro e w2 ⟨rfl, ho2, hr2⟩)
          | (have hh := hM2.out _ hr2; go_at_call 90; (with_reducible refine Calls.mono hh ?_); clear hh; rintro e w3 ⟨ho3, rfl⟩))
        exact end_bad rfl ((only_of_below (below_new w (.cells #[.int .i64 0, .slice none 0 0, .string ⟨#[]⟩, .string ⟨#[]⟩, .int .i64 0, .bool false, .int .i64 0, .string ⟨#[]⟩, .slice none 0 0] 39))).trans (ho1.trans (ho2.trans ho3)))
      | ok pr M2 =>
        have e : namedP E d L = .ok (.leaf 3 nm pr 0 false 0 []) M2 := by simp [namedP, hN, Res.then, hw, hN2]
        rw [e]
        rw [hN2] at hM2
        replace hM1 : Hid _ := hM1
        replace hM2 : Hid _ := hM2
        replace hP : Hid _ := hP
        replace hN : Hid _ := hN
        replace hN2 : Hid _ := hN2
        replace hw : Hid _ := hw
        clear e
        go_enter Tryz.func188, Tryz.ntmps188
        go_wp2_with (first
          | (have hh := hM1.out (); go_at_call 90; (with_reducible refine Calls.mono hh ?_); clear hh hM1; rintro e w1 ⟨ho1, _, rfl, rfl, hr1⟩)
          | (have hh := hP.out _ hr1; go_at_call 58; (with_reducible refine Calls.mono hh ?_); clear hh; rintro e w2 ⟨rfl, ho2, hr2⟩)
          | (have hh := hM2.out _ hr2; go_at_call 90; (with_reducible refine Calls.mono hh ?_); clear hh; rintro e w3 ⟨ho3, _, rfl, rfl, hr3⟩; have hW := (ho1.trans ho2).trans ho3; obtain ⟨yf, yl, yn, y0, y1, y2, y3, y4, y5, y6, y7, y8⟩ := res_cells hW hlt; replace hW : Hid _ := hW; clear ho1 ho2 ho3; replace hr3 : Hid _ := hr3))
        exact ret_ex (.inl rfl) Tryz.results188 rfl rfl hW.out hlt (x := .leaf 3 nm pr 0 false 0 []) (ks := .slice none 0 0) (leaf_at _ _ _ _ _ _ _ _ _) hr3.out rfl rfl rfl rfl rfl rfl rfl rfl rfl

set_option maxRecDepth 100000 in
set_option maxHeartbeats 1000000 in
theorem minus_any {B E n : Nat} {m e : PR} (hm : Reads B E 179 m n) (hr0 : Reads B E 185 (plainP E e) (n + 1)) : Reads B E 179 (minusP E m e) (n + 1) := by
  intro w d L hl h
  have hlt := h.lt
  have h0 := h.below (below_new w (.cells #[.int .i64 0, .slice none 0 0, .string ⟨#[]⟩, .string ⟨#[]⟩, .int .i64 0, .bool false, .int .i64 0, .string ⟨#[]⟩, .slice none 0 0] 39))
  have hN := fun g hg => isNext1 h0 [45] _ g (Below.refl _ _) hg
  have hD := fun (hne : L ≠ []) W (hb : Below (w.alloc (.cells #[.int .i64 0, .slice none 0 0, .string ⟨#[]⟩, .string ⟨#[]⟩, .int .i64 0, .bool false, .int .i64 0, .string ⟨#[]⟩, .slice none 0 0] 39)).heap.size (w.alloc (.cells #[.int .i64 0, .slice none 0 0, .string ⟨#[]⟩, .string ⟨#[]⟩, .int .i64 0, .bool false, .int .i64 0, .string ⟨#[]⟩, .slice none 0 0] 39)) W) => deeper_any enters141 hm (h0.below hb) hne (by omega)
  have hR := fun W (hb : Below (w.alloc (.cells #[.int .i64 0, .slice none 0 0, .string ⟨#[]⟩, .string ⟨#[]⟩, .int .i64 0, .bool false, .int .i64 0, .string ⟨#[]⟩, .slice none 0 0] 39)).heap.size (w.alloc (.cells #[.int .i64 0, .slice none 0 0, .string ⟨#[]⟩, .string ⟨#[]⟩, .int .i64 0, .bool false, .int .i64 0, .string ⟨#[]⟩, .slice none 0 0] 39)) W) => hr0 W d L hl (h0.below hb)
  clear h h0 hm hr0
  cases hw : isW [45] L
  · have e1 : (minusP E m e) d L = (plainP E e) d L := by simp [minusP, hw]
    rw [e1]
    rw [hw] at hN
    clear hD e1
    cases hX : (plainP E e) d L with
    | bad a y =>
      rw [hX] at hR
      replace hN : Hid _ := hN
      replace hR : Hid _ := hR
      replace hw : Hid _ := hw
      replace hX : Hid _ := hX
      go_enter Tryz.func179, Tryz.ntmps179
      go_wp2_with (first
        | (go_at_call 61; refine Calls.mono (hN.out _ (by simp)) ?_; rintro e w1 ⟨rfl, hb1⟩)
        | (have hh := hR.out _ hb1; go_at_call 185; (with_reducible refine Calls.mono hh ?_); clear hh; rintro e w2 ⟨ho2, rfl⟩))
      exact end_bad rfl ((only_of_below (below_on (below_new w (.cells #[.int .i64 0, .slice none 0 0, .string ⟨#[]⟩, .string ⟨#[]⟩, .int .i64 0, .bool false, .int .i64 0, .string ⟨#[]⟩, .slice none 0 0] 39)) hb1)).trans ho2)
    | ok x M =>
      rw [hX] at hR
      replace hN : Hid _ := hN
      replace hR : Hid _ := hR
      replace hw : Hid _ := hw
      replace hX : Hid _ := hX
      go_enter Tryz.func179, Tryz.ntmps179
      go_wp2_with (first
        | (go_at_call 61; refine Calls.mono (hN.out _ (by simp)) ?_; rintro e w1 ⟨rfl, hb1⟩)
        | (have hh := hR.out _ hb1; go_at_call 185; (with_reducible refine Calls.mono hh ?_); clear hh; rintro e w2 ⟨ho2, _, rfl, ⟨sp, sn, sc, rfl, hx⟩, hr2⟩; have hW := (only_of_below (B := B) hb1).trans ho2; have hs1 : w.heap.size + 1 ≤ w1.heap.size := (by have := hb1.size; simpa using this); have hx2 := ExAt.weak (c := w.heap.size + 1) hs1 x _ hx; clear hx ho2; obtain ⟨yf, yl, yn, y0, y1, y2, y3, y4, y5, y6, y7, y8⟩ := res_cells hW hlt; replace hW : Hid _ := hW; replace hx2 : Hid _ := hx2; replace hr2 : Hid _ := hr2))
      exact ret_ex (.inl rfl) Tryz.results179 rfl rfl hW.out hlt hx2.out hr2.out rfl rfl rfl rfl rfl rfl rfl rfl rfl
  · have hD := hD (isW_ne hw)
    rw [hw] at hN
    clear hR
    cases hX : deepP E m d L with
    | bad a y =>
      have e1 : (minusP E m e) d L = .bad a y := by simp [minusP, hw, hX, Res.then]
      rw [e1]
      rw [hX] at hD
      replace hN : Hid _ := hN
      replace hD : Hid _ := hD
      replace hw : Hid _ := hw
      replace hX : Hid _ := hX
      clear e1
      have hmf : ∀ (fn : Fn) (first cap : Array Value) (w : World), (Instr.makeFunc fn first cap).run Tryz.prog w = .ok (.func fn first cap) w := fun _ _ _ _ => rfl
      go_enter Tryz.func179, Tryz.ntmps179
      go_wp2_with (first
        | (go_at_call 61; refine Calls.mono (hN.out _ (by simp)) ?_; rintro e w1 ⟨rfl, hb1⟩)
        | (have hh := hD.out _ hb1; go_at_call 126; (with_reducible refine Calls.mono hh ?_); clear hh; rintro e w2 ⟨ho2, rfl⟩))
      exact end_bad rfl ((only_of_below (below_on (below_new w (.cells #[.int .i64 0, .slice none 0 0, .string ⟨#[]⟩, .string ⟨#[]⟩, .int .i64 0, .bool false, .int .i64 0, .string ⟨#[]⟩, .slice none 0 0] 39)) hb1)).trans ho2)
    | ok x M =>
      have e1 : (minusP E m e) d L = .ok (.one 18 x) M := by simp [minusP, hw, hX, Res.then]
      rw [e1]
      rw [hX] at hD
      replace hN : Hid _ := hN
      replace hD : Hid _ := hD
      replace hw : Hid _ := hw
      replace hX : Hid _ := hX
      clear e1
      have hmf : ∀ (fn : Fn) (first cap : Array Value) (w : World), (Instr.makeFunc fn first cap).run Tryz.prog w = .ok (.func fn first cap) w := fun _ _ _ _ => rfl
      go_enter Tryz.func179, Tryz.ntmps179
      go_wp2_with (first
        | (go_at_call 61; refine Calls.mono (hN.out _ (by simp)) ?_; rintro e w1 ⟨rfl, hb1⟩)
        | (have hh := hD.out _ hb1; go_at_call 126; (with_reducible refine Calls.mono hh ?_); clear hh; rintro e w2 ⟨ho2, _, rfl, ⟨sp, sn, sc, rfl, hx⟩, hr2⟩)
        | (go_at_call 98; refine Calls.mono (of_any _ _ _ _ _) ?_; rintro e w4 ⟨rfl, hb4⟩; have hs1 : w.heap.size + 1 ≤ w1.heap.size := (by have := hb1.size; simpa using this); have hx2 := ExAt.weak (c := w.heap.size + 1) hs1 x _ hx; have hsz : w.heap.size + 1 ≤ w2.heap.size := Nat.le_trans hs1 ho2.size; have hx4 := one_at 18 hx2 hsz hb4; have hb5 := below_on (below_new w2 (.cells #[.int .i64 (opE x), .slice sp sn sc, .string (txt (nmE x)), .string (txt (prE x)), .int .i64 (kE x), .bool (bE x), .int .i64 (nE x), .string (txt (tE x)), .slice none 0 0] 39)) hb4; have hr4 := hr2.below hb5; have hW := ((only_of_below (B := B) hb1).trans ho2).trans (only_of_below hb5); clear hx hx2 ho2 hr2 hb4 hb5; obtain ⟨yf, yl, yn, y0, y1, y2, y3, y4, y5, y6, y7, y8⟩ := res_cells hW hlt; replace hW : Hid _ := hW; replace hx4 : Hid _ := hx4; replace hr4 : Hid _ := hr4))
      exact ret_ex (.inl rfl) Tryz.results179 rfl rfl hW.out hlt (x := .one 18 x) (ks := .slice (some ⟨w2.heap.size, 0, none⟩) 1 1) hx4.out hr4.out rfl rfl rfl rfl rfl rfl rfl rfl rfl

set_option maxRecDepth 100000 in
set_option maxHeartbeats 1000000 in
theorem deny_any {B E n : Nat} {m e : PR} (hm : Reads B E 99 m n) (hr0 : Reads B E 127 (testP E e) (n + 1)) : Reads B E 99 (denyP E m e) (n + 1) := by
  intro w d L hl h
  have hlt := h.lt
  have h0 := h.below (below_new w (.cells #[.int .i64 0, .slice none 0 0, .string ⟨#[]⟩, .string ⟨#[]⟩, .int .i64 0, .bool false, .int .i64 0, .string ⟨#[]⟩, .slice none 0 0] 39))
  have hN := fun g hg => isNext1 h0 [78, 79, 84] _ g (Below.refl _ _) hg
  have hD := fun (hne : L ≠ []) W (hb : Below (w.alloc (.cells #[.int .i64 0, .slice none 0 0, .string ⟨#[]⟩, .string ⟨#[]⟩, .int .i64 0, .bool false, .int .i64 0, .string ⟨#[]⟩, .slice none 0 0] 39)).heap.size (w.alloc (.cells #[.int .i64 0, .slice none 0 0, .string ⟨#[]⟩, .string ⟨#[]⟩, .int .i64 0, .bool false, .int .i64 0, .string ⟨#[]⟩, .slice none 0 0] 39)) W) => deeper_any enters77 hm (h0.below hb) hne (by omega)
  have hR := fun W (hb : Below (w.alloc (.cells #[.int .i64 0, .slice none 0 0, .string ⟨#[]⟩, .string ⟨#[]⟩, .int .i64 0, .bool false, .int .i64 0, .string ⟨#[]⟩, .slice none 0 0] 39)).heap.size (w.alloc (.cells #[.int .i64 0, .slice none 0 0, .string ⟨#[]⟩, .string ⟨#[]⟩, .int .i64 0, .bool false, .int .i64 0, .string ⟨#[]⟩, .slice none 0 0] 39)) W) => hr0 W d L hl (h0.below hb)
  clear h h0 hm hr0
  cases hw : isW [78, 79, 84] L
  · have e1 : (denyP E m e) d L = (testP E e) d L := by simp [denyP, hw]
    rw [e1]
    rw [hw] at hN
    clear hD e1
    cases hX : (testP E e) d L with
    | bad a y =>
      rw [hX] at hR
      replace hN : Hid _ := hN
      replace hR : Hid _ := hR
      replace hw : Hid _ := hw
      replace hX : Hid _ := hX
      go_enter Tryz.func99, Tryz.ntmps99
      go_wp2_with (first
        | (go_at_call 61; refine Calls.mono (hN.out _ (by simp)) ?_; rintro e w1 ⟨rfl, hb1⟩)
        | (have hh := hR.out _ hb1; go_at_call 127; (with_reducible refine Calls.mono hh ?_); clear hh; rintro e w2 ⟨ho2, rfl⟩))
      exact end_bad rfl ((only_of_below (below_on (below_new w (.cells #[.int .i64 0, .slice none 0 0, .string ⟨#[]⟩, .string ⟨#[]⟩, .int .i64 0, .bool false, .int .i64 0, .string ⟨#[]⟩, .slice none 0 0] 39)) hb1)).trans ho2)
    | ok x M =>
      rw [hX] at hR
      replace hN : Hid _ := hN
      replace hR : Hid _ := hR
      replace hw : Hid _ := hw
      replace hX : Hid _ := hX
      go_enter Tryz.func99, Tryz.ntmps99
      go_wp2_with (first
        | (go_at_call 61; refine Calls.mono (hN.out _ (by simp)) ?_; rintro e w1 ⟨rfl, hb1⟩)
        | (have hh := hR.out _ hb1; go_at_call 127; (with_reducible refine Calls.mono hh ?_); clear hh; rintro e w2 ⟨ho2, _, rfl, ⟨sp, sn, sc, rfl, hx⟩, hr2⟩; have hW := (only_of_below (B := B) hb1).trans ho2; have hs1 : w.heap.size + 1 ≤ w1.heap.size := (by have := hb1.size; simpa using this); have hx2 := ExAt.weak (c := w.heap.size + 1) hs1 x _ hx; clear hx ho2; obtain ⟨yf, yl, yn, y0, y1, y2, y3, y4, y5, y6, y7, y8⟩ := res_cells hW hlt; replace hW : Hid _ := hW; replace hx2 : Hid _ := hx2; replace hr2 : Hid _ := hr2))
      exact ret_ex (.inl rfl) Tryz.results99 rfl rfl hW.out hlt hx2.out hr2.out rfl rfl rfl rfl rfl rfl rfl rfl rfl
  · have hD := hD (isW_ne hw)
    rw [hw] at hN
    clear hR
    cases hX : deepP E m d L with
    | bad a y =>
      have e1 : (denyP E m e) d L = .bad a y := by simp [denyP, hw, hX, Res.then]
      rw [e1]
      rw [hX] at hD
      replace hN : Hid _ := hN
      replace hD : Hid _ := hD
      replace hw : Hid _ := hw
      replace hX : Hid _ := hX
      clear e1
      have hmf : ∀ (fn : Fn) (first cap : Array Value) (w : World), (Instr.makeFunc fn first cap).run Tryz.prog w = .ok (.func fn first cap) w := fun _ _ _ _ => rfl
      go_enter Tryz.func99, Tryz.ntmps99
      go_wp2_with (first
        | (go_at_call 61; refine Calls.mono (hN.out _ (by simp)) ?_; rintro e w1 ⟨rfl, hb1⟩)
        | (have hh := hD.out _ hb1; go_at_call 126; (with_reducible refine Calls.mono hh ?_); clear hh; rintro e w2 ⟨ho2, rfl⟩))
      exact end_bad rfl ((only_of_below (below_on (below_new w (.cells #[.int .i64 0, .slice none 0 0, .string ⟨#[]⟩, .string ⟨#[]⟩, .int .i64 0, .bool false, .int .i64 0, .string ⟨#[]⟩, .slice none 0 0] 39)) hb1)).trans ho2)
    | ok x M =>
      have e1 : (denyP E m e) d L = .ok (.one 17 x) M := by simp [denyP, hw, hX, Res.then]
      rw [e1]
      rw [hX] at hD
      replace hN : Hid _ := hN
      replace hD : Hid _ := hD
      replace hw : Hid _ := hw
      replace hX : Hid _ := hX
      clear e1
      have hmf : ∀ (fn : Fn) (first cap : Array Value) (w : World), (Instr.makeFunc fn first cap).run Tryz.prog w = .ok (.func fn first cap) w := fun _ _ _ _ => rfl
      go_enter Tryz.func99, Tryz.ntmps99
      go_wp2_with (first
        | (go_at_call 61; refine Calls.mono (hN.out _ (by simp)) ?_; rintro e w1 ⟨rfl, hb1⟩)
        | (have hh := hD.out _ hb1; go_at_call 126; (with_reducible refine Calls.mono hh ?_); clear hh; rintro e w2 ⟨ho2, _, rfl, ⟨sp, sn, sc, rfl, hx⟩, hr2⟩)
        | (go_at_call 98; refine Calls.mono (of_any _ _ _ _ _) ?_; rintro e w4 ⟨rfl, hb4⟩; have hs1 : w.heap.size + 1 ≤ w1.heap.size := (by have := hb1.size; simpa using this); have hx2 := ExAt.weak (c := w.heap.size + 1) hs1 x _ hx; have hsz : w.heap.size + 1 ≤ w2.heap.size := Nat.le_trans hs1 ho2.size; have hx4 := one_at 17 hx2 hsz hb4; have hb5 := below_on (below_new w2 (.cells #[.int .i64 (opE x), .slice sp sn sc, .string (txt (nmE x)), .string (txt (prE x)), .int .i64 (kE x), .bool (bE x), .int .i64 (nE x), .string (txt (tE x)), .slice none 0 0] 39)) hb4; have hr4 := hr2.below hb5; have hW := ((only_of_below (B := B) hb1).trans ho2).trans (only_of_below hb5); clear hx hx2 ho2 hr2 hb4 hb5; obtain ⟨yf, yl, yn, y0, y1, y2, y3, y4, y5, y6, y7, y8⟩ := res_cells hW hlt; replace hW : Hid _ := hW; replace hx4 : Hid _ := hx4; replace hr4 : Hid _ := hr4))
      exact ret_ex (.inl rfl) Tryz.results99 rfl rfl hW.out hlt (x := .one 17 x) (ks := .slice (some ⟨w2.heap.size, 0, none⟩) 1 1) hx4.out hr4.out rfl rfl rfl rfl rfl rfl rfl rfl rfl
end Go.Proofs.YtkcnpbckmdgfnaaGreatDoor
namespace Go.Proofs.YtkcnpbckmdgfnaaGreatDoor
open Go.ChangeShapes Go.WideShapes Go.ChangeAt Go.RowKit
set_option linter.unusedSimpArgs false
set_option linter.unusedVariables false

set_option maxRecDepth 100000 in
set_option maxHeartbeats 1000000 in
theorem counted_any {B E n : Nat} {e : PR} (he : Reads B E 31 e n) : Reads B E 191 (countP E e) n := by
  intro w d L hl h
  have hlt := h.lt
  have h0 := h.below (below_new w (.cells #[.int .i64 0, .slice none 0 0, .string ⟨#[]⟩, .string ⟨#[]⟩, .int .i64 0, .bool false, .int .i64 0, .string ⟨#[]⟩, .slice none 0 0] 39))
  have hP := fun (_ : Unit) => pass_any h0 [42]
  cases hw : isW [42] L
  · rw [hw, passed_no hw] at hP
    have hE := fun W (hr : Rd W B E d L) => he W d L hl hr
    clear he h h0
    cases hX : e d L with
    | bad a y =>
      have e1 : countP E e d L = .bad a y := by simp [countP, hw, hX, Res.then]
      rw [e1]
      rw [hX] at hE
      clear e1
      replace hP : Hid _ := hP
      replace hE : Hid _ := hE
      replace hw : Hid _ := hw
      replace hX : Hid _ := hX
      go_enter Tryz.func191, Tryz.ntmps191
      go_wp2_with (first
        | (have hh := hP.out (); go_at_call 58; (with_reducible refine Calls.mono hh ?_); clear hh; rintro e w1 ⟨rfl, ho1, hr1⟩)
        | (have hh := hE.out _ hr1; go_at_call 31; (with_reducible refine Calls.mono hh ?_); clear hh; rintro e w2 ⟨ho2, rfl⟩))
      exact end_bad rfl ((only_of_below (below_new w (.cells #[.int .i64 0, .slice none 0 0, .string ⟨#[]⟩, .string ⟨#[]⟩, .int .i64 0, .bool false, .int .i64 0, .string ⟨#[]⟩, .slice none 0 0] 39))).trans (ho1.trans ho2))
    | ok x M =>
      have e1 : countP E e d L = .ok (.one 22 x) M := by simp [countP, hw, hX, Res.then]
      rw [e1]
      rw [hX] at hE
      clear e1
      replace hP : Hid _ := hP
      replace hE : Hid _ := hE
      replace hw : Hid _ := hw
      replace hX : Hid _ := hX
      go_enter Tryz.func191, Tryz.ntmps191
      go_wp2_with (first
        | (have hh := hP.out (); go_at_call 58; (with_reducible refine Calls.mono hh ?_); clear hh; rintro e w1 ⟨rfl, ho1, hr1⟩)
        | (have hh := hE.out _ hr1; go_at_call 31; (with_reducible refine Calls.mono hh ?_); clear hh; rintro e w2 ⟨ho2, _, rfl, ⟨sp, sn, sc, rfl, hx⟩, hr2⟩)
        | (go_at_call 98; refine Calls.mono (of_any _ _ _ _ _) ?_; rintro e w4 ⟨rfl, hb4⟩; have hs1 : w.heap.size + 1 ≤ w1.heap.size := (by have := ho1.size; simpa using this); have hx2 := ExAt.weak (c := w.heap.size + 1) hs1 x _ hx; have hsz : w.heap.size + 1 ≤ w2.heap.size := (by have := (ho1.trans ho2).size; simpa using this); have hx4 := one_at 22 hx2 hsz hb4; have hb5 := below_on (below_new w2 (.cells #[.int .i64 (opE x), .slice sp sn sc, .string (txt (nmE x)), .string (txt (prE x)), .int .i64 (kE x), .bool (bE x), .int .i64 (nE x), .string (txt (tE x)), .slice none 0 0] 39)) hb4; have hr4 := hr2.below hb5; have hW := (ho1.trans ho2).trans (only_of_below hb5); clear hx hx2 hr2 hb4 hb5; obtain ⟨yf, yl, yn, y0, y1, y2, y3, y4, y5, y6, y7, y8⟩ := res_cells hW hlt; replace hW : Hid _ := hW; replace hx4 : Hid _ := hx4; replace hr4 : Hid _ := hr4))
      exact ret_ex (.inl rfl) Tryz.results191 rfl rfl hW.out hlt (x := .one 22 x) (ks := .slice (some ⟨w2.heap.size, 0, none⟩) 1 1) hx4.out hr4.out rfl rfl rfl rfl rfl rfl rfl rfl rfl
  · rw [hw, passed_yes hw] at hP
    have e1 : countP E e d L = .ok (.leaf 26 [] [] 0 false 0 []) L.tail := by simp [countP, hw]
    rw [e1]
    clear e1 he h h0
    replace hP : Hid _ := hP
    replace hw : Hid _ := hw
    go_enter Tryz.func191, Tryz.ntmps191
    go_wp2_with (first
      | (have hh := hP.out (); go_at_call 58; (with_reducible refine Calls.mono hh ?_); clear hh; rintro e w1 ⟨rfl, ho1, hr1⟩)
      | (go_at_call 98; refine Calls.mono (of_any _ _ _ _ _) ?_; rintro e w4 ⟨rfl, hb4⟩; have hr4 := hr1.below hb4; have hW := ho1.trans (only_of_below hb4); clear ho1 hr1 hb4; obtain ⟨yf, yl, yn, y0, y1, y2, y3, y4, y5, y6, y7, y8⟩ := res_cells hW hlt; replace hW : Hid _ := hW; replace hr4 : Hid _ := hr4))
    exact ret_ex (.inl rfl) Tryz.results191 rfl rfl hW.out hlt (x := .leaf 26 [] [] 0 false 0 []) (ks := .slice none 0 0) (leaf_at _ _ _ _ _ _ _ _ _) hr4.out rfl rfl rfl rfl rfl rfl rfl rfl rfl

theorem opsK_ne : ∀ i, i < opsK.length → (opsK.getD i ([], 0)).2 ≠ 0 := by decide
theorem opsK_at (w : World) (B g : Nat) (hB : B < w.heap.size) (hg : g = w.heap.size) : OpsAt (w.alloc (.cells #[.string ⟨#[76, 69, 78, 71, 84, 72]⟩, .int .i64 21, .string ⟨#[83, 85, 77]⟩, .int .i64 23, .string ⟨#[77, 73, 78]⟩, .int .i64 24, .string ⟨#[77, 65, 88]⟩, .int .i64 25] 131)) B (some ⟨g, 0, none⟩) opsK := by
  subst hg
  refine .inr ⟨w.heap.size, 0, rfl, hB, fun i hi => ?_⟩
  have hi' : i < 4 := hi
  obtain rfl | rfl | rfl | rfl : i = 0 ∨ i = 1 ∨ i = 2 ∨ i = 3 := by omega
  all_goals exact ⟨alloc_cell w rfl, alloc_cell w rfl⟩
theorem passK {W : World} {B E d : Nat} {L : List Tk} (h : Rd W B E d L) (g : Nat) (hg : g = W.heap.size) :
    Calls Tryz.prog 97 #[rp B, .slice (some ⟨g, 0, none⟩) 4 4] (W.alloc (.cells #[.string ⟨#[76, 69, 78, 71, 84, 72]⟩, .int .i64 21, .string ⟨#[83, 85, 77]⟩, .int .i64 23, .string ⟨#[77, 73, 78]⟩, .int .i64 24, .string ⟨#[77, 65, 88]⟩, .int .i64 25] 131)) fun e w' => e = .returned (.int .i64 (opOf opsK L)) ∧ Only (· = B) (W.alloc (.cells #[.string ⟨#[76, 69, 78, 71, 84, 72]⟩, .int .i64 21, .string ⟨#[83, 85, 77]⟩, .int .i64 23, .string ⟨#[77, 73, 78]⟩, .int .i64 24, .string ⟨#[77, 65, 88]⟩, .int .i64 25] 131)) w' ∧ Rd w' B E d (passedO opsK L) :=
  passOne_any (h.below (below_new W (.cells #[.string ⟨#[76, 69, 78, 71, 84, 72]⟩, .int .i64 21, .string ⟨#[83, 85, 77]⟩, .int .i64 23, .string ⟨#[77, 73, 78]⟩, .int .i64 24, .string ⟨#[77, 65, 88]⟩, .int .i64 25] 131))) opsK (some ⟨g, 0, none⟩) 4 (opsK_at W B g h.lt hg) (by decide) opsK_ne
set_option maxRecDepth 100000 in
set_option maxHeartbeats 2000000 in
theorem keyed_any {B E n : Nat} {e : PR} (he : Reads B E 31 e n) : Reads B E 189 (keyedP E e) (n + 1) := by
  intro w d L hl h
  have hlt := h.lt
  have h0 := h.below (below_new w (.cells #[.int .i64 0, .slice none 0 0, .string ⟨#[]⟩, .string ⟨#[]⟩, .int .i64 0, .bool false, .int .i64 0, .string ⟨#[]⟩, .slice none 0 0] 39))
  have hP := fun (s : List UInt8) W (hr : Rd W B E d L) => pass_any hr s
  have hmf : ∀ (fn : Fn) (first cap : Array Value) (w : World), (Instr.makeFunc fn first cap).run Tryz.prog w = .ok (.func fn first cap) w := fun _ _ _ _ => rfl
  have hZ := only_of_below (B := B) (below_new w (.cells #[.int .i64 0, .slice none 0 0, .string ⟨#[]⟩, .string ⟨#[]⟩, .int .i64 0, .bool false, .int .i64 0, .string ⟨#[]⟩, .slice none 0 0] 39))
  replace h0 : Hid _ := h0
  clear h
  cases hw0 : isW [84, 82, 85, 69] L
  · cases hw1 : isW [70, 65, 76, 83, 69] L
    · cases hw2 : isW [78, 85, 76, 76] L
      · cases hw3 : isW [67, 79, 85, 78, 84] L
        · have hK := fun W (hr : Rd W B E d L) g hg => passK hr g hg
          by_cases hop : opOf opsK L = 0
          · have e1 : keyedP E e d L = .bad (placeL E L) 81 := by simp [keyedP, hw0, hw1, hw2, hw3, hop]
            have e2 : passedO opsK L = L := by unfold passedO; rw [if_pos hop]
            rw [e1]
            rw [hop, e2] at hK
            have hq := fun W (hr : Rd W B E d L) => refusal_any hr 81
            unfold refV at hq
            clear e1 e2 he
            replace hK : Hid _ := hK
            replace hq : Hid _ := hq
            replace hop : Hid _ := hop
            have hP0 := hP [84, 82, 85, 69]
            rw [hw0, passed_no hw0] at hP0
            replace hP0 : Hid _ := hP0
            have hP1 := hP [70, 65, 76, 83, 69]
            rw [hw1, passed_no hw1] at hP1
            replace hP1 : Hid _ := hP1
            have hP2 := hP [78, 85, 76, 76]
            rw [hw2, passed_no hw2] at hP2
            replace hP2 : Hid _ := hP2
            have hP3 := hP [67, 79, 85, 78, 84]
            rw [hw3, passed_no hw3] at hP3
            replace hP3 : Hid _ := hP3
            replace hw0 : Hid _ := hw0
            replace hw1 : Hid _ := hw1
            replace hw2 : Hid _ := hw2
            replace hw3 : Hid _ := hw3
            clear hP
            go_enter Tryz.func189, Tryz.ntmps189
            go_wp2_with (first
              | (have hh := hq.out _ hr5; go_at_call 86; (with_reducible refine Calls.mono hh ?_); clear hh; rintro e w6 ⟨rfl, hb6⟩)
              | (have hh := hK.out _ hr4 _ rfl; go_at_call 97; (with_reducible refine Calls.mono hh ?_); clear hh; rintro e w5 ⟨rfl, ho5, hr5⟩; clear hK)
              | (have hh := hP3.out _ hr3; go_at_call 58; (with_reducible refine Calls.mono hh ?_); clear hh; rintro e w4 ⟨rfl, ho4, hr4⟩; clear hP3) | (have hh := hP2.out _ hr2; go_at_call 58; (with_reducible refine Calls.mono hh ?_); clear hh; rintro e w3 ⟨rfl, ho3, hr3⟩; clear hP2) | (have hh := hP1.out _ hr1; go_at_call 58; (with_reducible refine Calls.mono hh ?_); clear hh; rintro e w2 ⟨rfl, ho2, hr2⟩; clear hP1) | (have hh := hP0.out _ h0.out; go_at_call 58; (with_reducible refine Calls.mono hh ?_); clear hh; rintro e w1 ⟨rfl, ho1, hr1⟩; clear hP0))
            exact end_bad rfl (hZ.trans (((((((ho1).trans ho2).trans ho3).trans ho4).trans (only_of_below (below_new _ _))).trans ho5).trans (only_of_below hb6)))
          · have e2 : passedO opsK L = L.tail := by unfold passedO; rw [if_neg hop]
            have hop2 : (opOf opsK L == 0) = false := by rw [beq_eq_false_iff_ne]; exact hop
            rw [e2] at hK
            have hne := List.length_pos_iff.2 (opOf_cons hop)
            have hI := fun W (hr : Rd W B E d L.tail) => inside_any enters25 he hr (by simp; omega)
            clear e2 he
            cases hX : insideP E e d L.tail with
            | bad a y =>
              have e1 : keyedP E e d L = .bad a y := by simp [keyedP, hw0, hw1, hw2, hw3, hop, hX, Res.then]
              rw [e1]
              rw [hX] at hI
              generalize opOf opsK L = op at *
              clear e1
              replace hK : Hid _ := hK
              replace hI : Hid _ := hI
              replace hop : Hid _ := hop
              replace hX : Hid _ := hX
              have hP0 := hP [84, 82, 85, 69]
              rw [hw0, passed_no hw0] at hP0
              replace hP0 : Hid _ := hP0
              have hP1 := hP [70, 65, 76, 83, 69]
              rw [hw1, passed_no hw1] at hP1
              replace hP1 : Hid _ := hP1
              have hP2 := hP [78, 85, 76, 76]
              rw [hw2, passed_no hw2] at hP2
              replace hP2 : Hid _ := hP2
              have hP3 := hP [67, 79, 85, 78, 84]
              rw [hw3, passed_no hw3] at hP3
              replace hP3 : Hid _ := hP3
              replace hw0 : Hid _ := hw0
              replace hw1 : Hid _ := hw1
              replace hw2 : Hid _ := hw2
              replace hw3 : Hid _ := hw3
              clear hP
              go_enter Tryz.func189, Tryz.ntmps189
              go_wp2_with (first
                | (have hh := hI.out _ hr5; go_at_call 190; (with_reducible refine Calls.mono hh ?_); clear hh; rintro e w6 ⟨ho6, rfl⟩)
                | (have hh := hK.out _ hr4 _ rfl; go_at_call 97; (with_reducible refine Calls.mono hh ?_); clear hh; rintro e w5 ⟨rfl, ho5, hr5⟩; clear hK)
                | (have hh := hP3.out _ hr3; go_at_call 58; (with_reducible refine Calls.mono hh ?_); clear hh; rintro e w4 ⟨rfl, ho4, hr4⟩; clear hP3) | (have hh := hP2.out _ hr2; go_at_call 58; (with_reducible refine Calls.mono hh ?_); clear hh; rintro e w3 ⟨rfl, ho3, hr3⟩; clear hP2) | (have hh := hP1.out _ hr1; go_at_call 58; (with_reducible refine Calls.mono hh ?_); clear hh; rintro e w2 ⟨rfl, ho2, hr2⟩; clear hP1) | (have hh := hP0.out _ h0.out; go_at_call 58; (with_reducible refine Calls.mono hh ?_); clear hh; rintro e w1 ⟨rfl, ho1, hr1⟩; clear hP0))
              exact end_bad rfl (hZ.trans (((((((ho1).trans ho2).trans ho3).trans ho4).trans (only_of_below (below_new _ _))).trans ho5).trans ho6))
            | ok x M =>
              have e1 : keyedP E e d L = .ok (.one (opOf opsK L) x) M := by simp [keyedP, hw0, hw1, hw2, hw3, hop, hX, Res.then]
              rw [e1]
              rw [hX] at hI
              generalize opOf opsK L = op at *
              clear e1
              replace hK : Hid _ := hK
              replace hI : Hid _ := hI
              replace hop : Hid _ := hop
              replace hX : Hid _ := hX
              have hP0 := hP [84, 82, 85, 69]
              rw [hw0, passed_no hw0] at hP0
              replace hP0 : Hid _ := hP0
              have hP1 := hP [70, 65, 76, 83, 69]
              rw [hw1, passed_no hw1] at hP1
              replace hP1 : Hid _ := hP1
              have hP2 := hP [78, 85, 76, 76]
              rw [hw2, passed_no hw2] at hP2
              replace hP2 : Hid _ := hP2
              have hP3 := hP [67, 79, 85, 78, 84]
              rw [hw3, passed_no hw3] at hP3
              replace hP3 : Hid _ := hP3
              replace hw0 : Hid _ := hw0
              replace hw1 : Hid _ := hw1
              replace hw2 : Hid _ := hw2
              replace hw3 : Hid _ := hw3
              clear hP
              go_enter Tryz.func189, Tryz.ntmps189
              go_wp2_with (first
                | (go_at_call 98; refine Calls.mono (of_any _ _ _ _ _) ?_; rintro e w7 ⟨rfl, hb4⟩; have hW5 := (((((ho1).trans ho2).trans ho3).trans ho4).trans (only_of_below (below_new _ _))).trans ho5; have hs1 : w.heap.size + 1 ≤ w5.heap.size := (by have := hW5.size; simpa using this); have hW2 := hW5.trans ho6; have hx2 := ExAt.weak (c := w.heap.size + 1) hs1 x _ hx; have hsz : w.heap.size + 1 ≤ w6.heap.size := (by have := (hW2).size; simpa using this); have hx4 := one_at op hx2 hsz hb4; have hb5 := below_on (below_new w6 (.cells #[.int .i64 (opE x), .slice sp sn sc, .string (txt (nmE x)), .string (txt (prE x)), .int .i64 (kE x), .bool (bE x), .int .i64 (nE x), .string (txt (tE x)), .slice none 0 0] 39)) hb4; have hr4 := hr6.below hb5; have hW := (hW2).trans (only_of_below hb5); clear hx hx2 hr6 hb4 hb5; obtain ⟨yf, yl, yn, y0, y1, y2, y3, y4, y5, y6, y7, y8⟩ := res_cells hW hlt; replace hW : Hid _ := hW; replace hx4 : Hid _ := hx4; replace hr4 : Hid _ := hr4)
                | (have hh := hI.out _ hr5; go_at_call 190; (with_reducible refine Calls.mono hh ?_); clear hh; rintro e w6 ⟨ho6, _, rfl, ⟨sp, sn, sc, rfl, hx⟩, hr6⟩)
                | (have hh := hK.out _ hr4 _ rfl; go_at_call 97; (with_reducible refine Calls.mono hh ?_); clear hh; rintro e w5 ⟨rfl, ho5, hr5⟩; clear hK)
                | (have hh := hP3.out _ hr3; go_at_call 58; (with_reducible refine Calls.mono hh ?_); clear hh; rintro e w4 ⟨rfl, ho4, hr4⟩; clear hP3) | (have hh := hP2.out _ hr2; go_at_call 58; (with_reducible refine Calls.mono hh ?_); clear hh; rintro e w3 ⟨rfl, ho3, hr3⟩; clear hP2) | (have hh := hP1.out _ hr1; go_at_call 58; (with_reducible refine Calls.mono hh ?_); clear hh; rintro e w2 ⟨rfl, ho2, hr2⟩; clear hP1) | (have hh := hP0.out _ h0.out; go_at_call 58; (with_reducible refine Calls.mono hh ?_); clear hh; rintro e w1 ⟨rfl, ho1, hr1⟩; clear hP0))
              exact ret_ex (.inl rfl) Tryz.results189 rfl rfl hW.out hlt (x := .one op x) (ks := .slice (some ⟨w6.heap.size, 0, none⟩) 1 1) hx4.out hr4.out rfl rfl rfl rfl rfl rfl rfl rfl rfl
        · have hI := fun W (hr : Rd W B E d L.tail) => inside_any enters160 (counted_any he) hr (by simp; omega)
          have e1 : keyedP E e d L = insideP E (countP E e) d L.tail := by simp [keyedP, hw0, hw1, hw2, hw3]
          rw [e1]
          clear e1 he
          cases hX : insideP E (countP E e) d L.tail with
          | bad a y =>
            rw [hX] at hI
            replace hI : Hid _ := hI
            replace hX : Hid _ := hX
            have hP0 := hP [84, 82, 85, 69]
            rw [hw0, passed_no hw0] at hP0
            replace hP0 : Hid _ := hP0
            have hP1 := hP [70, 65, 76, 83, 69]
            rw [hw1, passed_no hw1] at hP1
            replace hP1 : Hid _ := hP1
            have hP2 := hP [78, 85, 76, 76]
            rw [hw2, passed_no hw2] at hP2
            replace hP2 : Hid _ := hP2
            have hP3 := hP [67, 79, 85, 78, 84]
            rw [hw3, passed_yes hw3] at hP3
            replace hP3 : Hid _ := hP3
            replace hw0 : Hid _ := hw0
            replace hw1 : Hid _ := hw1
            replace hw2 : Hid _ := hw2
            replace hw3 : Hid _ := hw3
            clear hP
            go_enter Tryz.func189, Tryz.ntmps189
            go_wp2_with (first
              | (have hh := hP3.out _ hr3; go_at_call 58; (with_reducible refine Calls.mono hh ?_); clear hh; rintro e w4 ⟨rfl, ho4, hr4⟩; clear hP3) | (have hh := hP2.out _ hr2; go_at_call 58; (with_reducible refine Calls.mono hh ?_); clear hh; rintro e w3 ⟨rfl, ho3, hr3⟩; clear hP2) | (have hh := hP1.out _ hr1; go_at_call 58; (with_reducible refine Calls.mono hh ?_); clear hh; rintro e w2 ⟨rfl, ho2, hr2⟩; clear hP1) | (have hh := hP0.out _ h0.out; go_at_call 58; (with_reducible refine Calls.mono hh ?_); clear hh; rintro e w1 ⟨rfl, ho1, hr1⟩; clear hP0)
              | (have hh := hI.out _ hr4; go_at_call 190; (with_reducible refine Calls.mono hh ?_); clear hh; rintro e w5 ⟨ho5, rfl⟩))
            exact end_bad rfl (hZ.trans (((((ho1).trans ho2).trans ho3).trans ho4).trans ho5))
          | ok x M =>
            rw [hX] at hI
            replace hI : Hid _ := hI
            replace hX : Hid _ := hX
            have hP0 := hP [84, 82, 85, 69]
            rw [hw0, passed_no hw0] at hP0
            replace hP0 : Hid _ := hP0
            have hP1 := hP [70, 65, 76, 83, 69]
            rw [hw1, passed_no hw1] at hP1
            replace hP1 : Hid _ := hP1
            have hP2 := hP [78, 85, 76, 76]
            rw [hw2, passed_no hw2] at hP2
            replace hP2 : Hid _ := hP2
            have hP3 := hP [67, 79, 85, 78, 84]
            rw [hw3, passed_yes hw3] at hP3
            replace hP3 : Hid _ := hP3
            replace hw0 : Hid _ := hw0
            replace hw1 : Hid _ := hw1
            replace hw2 : Hid _ := hw2
            replace hw3 : Hid _ := hw3
            clear hP
            go_enter Tryz.func189, Tryz.ntmps189
            go_wp2_with (first
              | (have hh := hP3.out _ hr3; go_at_call 58; (with_reducible refine Calls.mono hh ?_); clear hh; rintro e w4 ⟨rfl, ho4, hr4⟩; clear hP3) | (have hh := hP2.out _ hr2; go_at_call 58; (with_reducible refine Calls.mono hh ?_); clear hh; rintro e w3 ⟨rfl, ho3, hr3⟩; clear hP2) | (have hh := hP1.out _ hr1; go_at_call 58; (with_reducible refine Calls.mono hh ?_); clear hh; rintro e w2 ⟨rfl, ho2, hr2⟩; clear hP1) | (have hh := hP0.out _ h0.out; go_at_call 58; (with_reducible refine Calls.mono hh ?_); clear hh; rintro e w1 ⟨rfl, ho1, hr1⟩; clear hP0)
              | (have hh := hI.out _ hr4; go_at_call 190; (with_reducible refine Calls.mono hh ?_); clear hh; rintro e w5 ⟨ho5, _, rfl, ⟨sp, sn, sc, rfl, hx⟩, hr5⟩; have hW4 := (((ho1).trans ho2).trans ho3).trans ho4; have hs1 : w.heap.size + 1 ≤ w4.heap.size := (by have := hW4.size; simpa using this); have hx2 := ExAt.weak (c := w.heap.size + 1) hs1 x _ hx; have hW := hW4.trans ho5; clear hx; obtain ⟨yf, yl, yn, y0, y1, y2, y3, y4, y5, y6, y7, y8⟩ := res_cells hW hlt; replace hW : Hid _ := hW; replace hx2 : Hid _ := hx2; replace hr5 : Hid _ := hr5))
            exact ret_ex (.inl rfl) Tryz.results189 rfl rfl hW.out hlt hx2.out hr5.out rfl rfl rfl rfl rfl rfl rfl rfl rfl
      · have e1 : keyedP E e d L = .ok (litE 0 false 0 []) L.tail := by simp [keyedP, hw0, hw1, hw2]
        rw [e1]
        clear e1 he
        have hP0 := hP [84, 82, 85, 69]
        rw [hw0, passed_no hw0] at hP0
        replace hP0 : Hid _ := hP0
        have hP1 := hP [70, 65, 76, 83, 69]
        rw [hw1, passed_no hw1] at hP1
        replace hP1 : Hid _ := hP1
        have hP2 := hP [78, 85, 76, 76]
        rw [hw2, passed_yes hw2] at hP2
        replace hP2 : Hid _ := hP2
        replace hw0 : Hid _ := hw0
        replace hw1 : Hid _ := hw1
        replace hw2 : Hid _ := hw2
        clear hP
        go_enter Tryz.func189, Tryz.ntmps189
        go_wp2_with (first
          | (have hh := hP2.out _ hr2; go_at_call 58; (with_reducible refine Calls.mono hh ?_); clear hh; rintro e w3 ⟨rfl, ho3, hr3⟩; clear hP2) | (have hh := hP1.out _ hr1; go_at_call 58; (with_reducible refine Calls.mono hh ?_); clear hh; rintro e w2 ⟨rfl, ho2, hr2⟩; clear hP1) | (have hh := hP0.out _ h0.out; go_at_call 58; (with_reducible refine Calls.mono hh ?_); clear hh; rintro e w1 ⟨rfl, ho1, hr1⟩; clear hP0)
          | (go_at_call 187; refine Calls.mono (literal_any _ _ _ _ _) ?_; rintro e w9 ⟨rfl, hb9⟩; have hr9 := hr3.below hb9; have hW := (((ho1).trans ho2).trans ho3).trans (only_of_below hb9); clear hb9; obtain ⟨yf, yl, yn, y0, y1, y2, y3, y4, y5, y6, y7, y8⟩ := res_cells hW hlt; replace hW : Hid _ := hW; replace hr9 : Hid _ := hr9))
        exact ret_ex (.inl rfl) Tryz.results189 rfl rfl hW.out hlt (x := litE 0 false 0 []) (ks := .slice none 0 0) (leaf_at _ _ _ _ _ _ _ _ _) hr9.out rfl rfl rfl rfl rfl rfl rfl rfl rfl
    · have e1 : keyedP E e d L = .ok (litE 1 false 0 []) L.tail := by simp [keyedP, hw0, hw1]
      rw [e1]
      clear e1 he
      have hP0 := hP [84, 82, 85, 69]
      rw [hw0, passed_no hw0] at hP0
      replace hP0 : Hid _ := hP0
      have hP1 := hP [70, 65, 76, 83, 69]
      rw [hw1, passed_yes hw1] at hP1
      replace hP1 : Hid _ := hP1
      replace hw0 : Hid _ := hw0
      replace hw1 : Hid _ := hw1
      clear hP
      go_enter Tryz.func189, Tryz.ntmps189
      go_wp2_with (first
        | (have hh := hP1.out _ hr1; go_at_call 58; (with_reducible refine Calls.mono hh ?_); clear hh; rintro e w2 ⟨rfl, ho2, hr2⟩; clear hP1) | (have hh := hP0.out _ h0.out; go_at_call 58; (with_reducible refine Calls.mono hh ?_); clear hh; rintro e w1 ⟨rfl, ho1, hr1⟩; clear hP0)
        | (go_at_call 187; refine Calls.mono (literal_any _ _ _ _ _) ?_; rintro e w9 ⟨rfl, hb9⟩; have hr9 := hr2.below hb9; have hW := ((ho1).trans ho2).trans (only_of_below hb9); clear hb9; obtain ⟨yf, yl, yn, y0, y1, y2, y3, y4, y5, y6, y7, y8⟩ := res_cells hW hlt; replace hW : Hid _ := hW; replace hr9 : Hid _ := hr9))
      exact ret_ex (.inl rfl) Tryz.results189 rfl rfl hW.out hlt (x := litE 1 false 0 []) (ks := .slice none 0 0) (leaf_at _ _ _ _ _ _ _ _ _) hr9.out rfl rfl rfl rfl rfl rfl rfl rfl rfl
  · have e1 : keyedP E e d L = .ok (litE 1 true 0 []) L.tail := by simp [keyedP, hw0]
    rw [e1]
    clear e1 he
    have hP0 := hP [84, 82, 85, 69]
    rw [hw0, passed_yes hw0] at hP0
    replace hP0 : Hid _ := hP0
    replace hw0 : Hid _ := hw0
    clear hP
    go_enter Tryz.func189, Tryz.ntmps189
    go_wp2_with (first
      | (have hh := hP0.out _ h0.out; go_at_call 58; (with_reducible refine Calls.mono hh ?_); clear hh; rintro e w1 ⟨rfl, ho1, hr1⟩; clear hP0)
      | (go_at_call 187; refine Calls.mono (literal_any _ _ _ _ _) ?_; rintro e w9 ⟨rfl, hb9⟩; have hr9 := hr1.below hb9; have hW := (ho1).trans (only_of_below hb9); clear hb9; obtain ⟨yf, yl, yn, y0, y1, y2, y3, y4, y5, y6, y7, y8⟩ := res_cells hW hlt; replace hW : Hid _ := hW; replace hr9 : Hid _ := hr9))
    exact ret_ex (.inl rfl) Tryz.results189 rfl rfl hW.out hlt (x := litE 1 true 0 []) (ks := .slice none 0 0) (leaf_at _ _ _ _ _ _ _ _ _) hr9.out rfl rfl rfl rfl rfl rfl rfl rfl rfl
end Go.Proofs.YtkcnpbckmdgfnaaGreatDoor
namespace Go.Proofs.YtkcnpbckmdgfnaaGreatDoor
open Go.ChangeShapes Go.WideShapes Go.ChangeAt Go.RowKit
set_option linter.unusedSimpArgs false
set_option linter.unusedVariables false

set_option maxRecDepth 100000 in
set_option maxHeartbeats 2000000 in
theorem plain_any {B E n : Nat} {e : PR} (he : Reads B E 31 e n) : Reads B E 185 (plainP E e) (n + 1) := by
  intro w d L hl h
  have hlt := h.lt
  have h0 := h.below (below_new w (.cells #[.int .i64 0, .slice none 0 0, .string ⟨#[]⟩, .string ⟨#[]⟩, .int .i64 0, .bool false, .int .i64 0, .string ⟨#[]⟩, .slice none 0 0] 39))
  have hN := fun (_ : Unit) => next_kind h0
  have hR := fun W (hb : Below (w.alloc (.cells #[.int .i64 0, .slice none 0 0, .string ⟨#[]⟩, .string ⟨#[]⟩, .int .i64 0, .bool false, .int .i64 0, .string ⟨#[]⟩, .slice none 0 0] 39)).heap.size (w.alloc (.cells #[.int .i64 0, .slice none 0 0, .string ⟨#[]⟩, .string ⟨#[]⟩, .int .i64 0, .bool false, .int .i64 0, .string ⟨#[]⟩, .slice none 0 0] 39)) W) => h0.below hb
  have hZ := only_of_below (B := B) (below_new w (.cells #[.int .i64 0, .slice none 0 0, .string ⟨#[]⟩, .string ⟨#[]⟩, .int .i64 0, .bool false, .int .i64 0, .string ⟨#[]⟩, .slice none 0 0] 39))
  have hmf : ∀ (fn : Fn) (first cap : Array Value) (w : World), (Instr.makeFunc fn first cap).run Tryz.prog w = .ok (.func fn first cap) w := fun _ _ _ _ => rfl
  clear h h0
  generalize hk : kindL L = k at *
  generalize ht : (headL E L).t = t at *
  generalize hn : (headL E L).n = nn at *
  generalize (placeL E L) = a at *
  replace hN : Hid _ := hN
  have hTok := fun w1 (hb1 : Below (w.alloc (.cells #[.int .i64 0, .slice none 0 0, .string ⟨#[]⟩, .string ⟨#[]⟩, .int .i64 0, .bool false, .int .i64 0, .string ⟨#[]⟩, .slice none 0 0] 39)).heap.size (w.alloc (.cells #[.int .i64 0, .slice none 0 0, .string ⟨#[]⟩, .string ⟨#[]⟩, .int .i64 0, .bool false, .int .i64 0, .string ⟨#[]⟩, .slice none 0 0] 39)) w1) => below_on hb1 (below_new w1 (.cells #[.int .i64 k, .string (txt t), .int .i64 nn, .int .i64 a] 147))
  by_cases h3 : k = 3
  · subst h3
    have e1 : plainP E e d L = .ok (litE 2 false nn []) L.tail := by simp [plainP, hk, ht, hn]
    rw [e1]
    have hne := kind_ne hk (by decide)
    have hT := fun W hb => take_ne (hR W hb) hne
    clear he e1 hne hR
    replace hT : Hid _ := hT
    replace hk : Hid _ := hk
    replace ht : Hid _ := ht
    replace hn : Hid _ := hn
    replace hTok : Hid _ := hTok
    go_enter Tryz.func185, Tryz.ntmps185
    go_wp2_with (first
      | (go_at_call 187; refine Calls.mono (literal_any _ _ _ _ _) ?_; rintro e w9 ⟨rfl, hb9⟩; have hr9 := hr2.below hb9; have hW := ((only_of_below (B := B) hb2).trans ho2).trans (only_of_below hb9); clear hb9; obtain ⟨yf, yl, yn, y0, y1, y2, y3, y4, y5, y6, y7, y8⟩ := res_cells hW hlt; replace hW : Hid _ := hW; replace hr9 : Hid _ := hr9)
      | (have hh := hT.out _ hb2; go_at_call 89; (with_reducible refine Calls.mono hh ?_); clear hh; rintro e w2 ⟨rfl, ho2, hr2⟩; obtain ⟨x0, x1, x2, x3⟩ := tok_cells ho2 hl1)
      | (have hh := hN.out (); go_at_call 91; (with_reducible refine Calls.mono hh ?_); clear hh; rintro e w1 ⟨rfl, hb1⟩; have hb2 := hTok.out _ hb1; have hl1 : B < w1.heap.size := (by have := hb1.size; simp at this; omega)))
    exact ret_ex (.inl rfl) Tryz.results185 rfl rfl hW.out hlt (x := litE 2 false nn []) (ks := .slice none 0 0) (leaf_at _ _ _ _ _ _ _ _ _) hr9.out rfl rfl rfl rfl rfl rfl rfl rfl rfl
  have e3 : (k == 3) = false := by rw [beq_eq_false_iff_ne]; exact h3
  by_cases h4 : k = 4
  · subst h4
    have e1 : plainP E e d L = .ok (litE 3 false 0 t) L.tail := by simp [plainP, hk, ht, hn]
    rw [e1]
    have hne := kind_ne hk (by decide)
    have hT := fun W hb => take_ne (hR W hb) hne
    clear he e1 hne hR
    replace hT : Hid _ := hT
    replace hk : Hid _ := hk
    replace ht : Hid _ := ht
    replace hn : Hid _ := hn
    replace hTok : Hid _ := hTok
    go_enter Tryz.func185, Tryz.ntmps185
    go_wp2_with (first
      | (go_at_call 187; refine Calls.mono (literal_any _ _ _ _ _) ?_; rintro e w9 ⟨rfl, hb9⟩; have hr9 := hr2.below hb9; have hW := ((only_of_below (B := B) hb2).trans ho2).trans (only_of_below hb9); clear hb9; obtain ⟨yf, yl, yn, y0, y1, y2, y3, y4, y5, y6, y7, y8⟩ := res_cells hW hlt; replace hW : Hid _ := hW; replace hr9 : Hid _ := hr9)
      | (have hh := hT.out _ hb2; go_at_call 89; (with_reducible refine Calls.mono hh ?_); clear hh; rintro e w2 ⟨rfl, ho2, hr2⟩; obtain ⟨x0, x1, x2, x3⟩ := tok_cells ho2 hl1)
      | (have hh := hN.out (); go_at_call 91; (with_reducible refine Calls.mono hh ?_); clear hh; rintro e w1 ⟨rfl, hb1⟩; have hb2 := hTok.out _ hb1; have hl1 : B < w1.heap.size := (by have := hb1.size; simp at this; omega)))
    exact ret_ex (.inl rfl) Tryz.results185 rfl rfl hW.out hlt (x := litE 3 false 0 t) (ks := .slice none 0 0) (leaf_at _ _ _ _ _ _ _ _ _) hr9.out rfl rfl rfl rfl rfl rfl rfl rfl rfl
  have e4 : (k == 4) = false := by rw [beq_eq_false_iff_ne]; exact h4
  by_cases h1 : k = 1
  · subst h1
    have e1 : plainP E e d L = namedP E d L := by simp [plainP, hk]
    rw [e1]
    have hC := fun W hb => named_any (hR W hb)
    clear he e1 hR h3 h4
    cases hX : namedP E d L with
    | bad a2 y =>
      rw [hX] at hC
      replace hC : Hid _ := hC
      replace hX : Hid _ := hX
      replace hk : Hid _ := hk
      replace ht : Hid _ := ht
      replace hn : Hid _ := hn
      replace hTok : Hid _ := hTok
      go_enter Tryz.func185, Tryz.ntmps185
      go_wp2_with (first
        | (have hh := hC.out _ hb2; go_at_call 188; (with_reducible refine Calls.mono hh ?_); clear hh; rintro e w2 ⟨ho2, rfl⟩)
        | (have hh := hN.out (); go_at_call 91; (with_reducible refine Calls.mono hh ?_); clear hh; rintro e w1 ⟨rfl, hb1⟩; have hb2 := hTok.out _ hb1))
      exact end_bad rfl (hZ.trans ((only_of_below hb2).trans ho2))
    | ok x M =>
      rw [hX] at hC
      replace hC : Hid _ := hC
      replace hX : Hid _ := hX
      replace hk : Hid _ := hk
      replace ht : Hid _ := ht
      replace hn : Hid _ := hn
      replace hTok : Hid _ := hTok
      go_enter Tryz.func185, Tryz.ntmps185
      go_wp2_with (first
        | (have hh := hC.out _ hb2; go_at_call 188; (with_reducible refine Calls.mono hh ?_); clear hh; rintro e w2 ⟨ho2, _, rfl, ⟨sp, sn, sc, rfl, hx⟩, hr2⟩; have hx2 := ExAt.weak (c := w.heap.size + 1) (by have := hb2.size; rw [show (w.alloc (.cells #[.int .i64 0, .slice none 0 0, .string ⟨#[]⟩, .string ⟨#[]⟩, .int .i64 0, .bool false, .int .i64 0, .string ⟨#[]⟩, .slice none 0 0] 39)).heap.size = w.heap.size + 1 from (by simp)] at this; exact this) x _ hx; have hW := (only_of_below (B := B) hb2).trans ho2; clear hx ho2; obtain ⟨yf, yl, yn, y0, y1, y2, y3, y4, y5, y6, y7, y8⟩ := res_cells hW hlt; replace hW : Hid _ := hW; replace hx2 : Hid _ := hx2; replace hr2 : Hid _ := hr2)
        | (have hh := hN.out (); go_at_call 91; (with_reducible refine Calls.mono hh ?_); clear hh; rintro e w1 ⟨rfl, hb1⟩; have hb2 := hTok.out _ hb1))
      exact ret_ex (.inl rfl) Tryz.results185 rfl rfl hW.out hlt hx2.out hr2.out rfl rfl rfl rfl rfl rfl rfl rfl rfl
  have e5 : (k == 1) = false := by rw [beq_eq_false_iff_ne]; exact h1
  by_cases h2 : k = 2
  · subst h2
    have e1 : plainP E e d L = keyedP E e d L := by simp [plainP, hk]
    rw [e1]
    have hC := fun W hb => keyed_any he W d L hl (hR W hb)
    clear he e1 hR h3 h4 h1
    cases hX : keyedP E e d L with
    | bad a2 y =>
      rw [hX] at hC
      replace hC : Hid _ := hC
      replace hX : Hid _ := hX
      replace hk : Hid _ := hk
      replace ht : Hid _ := ht
      replace hn : Hid _ := hn
      replace hTok : Hid _ := hTok
      go_enter Tryz.func185, Tryz.ntmps185
      go_wp2_with (first
        | (have hh := hC.out _ hb2; go_at_call 189; (with_reducible refine Calls.mono hh ?_); clear hh; rintro e w2 ⟨ho2, rfl⟩)
        | (have hh := hN.out (); go_at_call 91; (with_reducible refine Calls.mono hh ?_); clear hh; rintro e w1 ⟨rfl, hb1⟩; have hb2 := hTok.out _ hb1))
      exact end_bad rfl (hZ.trans ((only_of_below hb2).trans ho2))
    | ok x M =>
      rw [hX] at hC
      replace hC : Hid _ := hC
      replace hX : Hid _ := hX
      replace hk : Hid _ := hk
      replace ht : Hid _ := ht
      replace hn : Hid _ := hn
      replace hTok : Hid _ := hTok
      go_enter Tryz.func185, Tryz.ntmps185
      go_wp2_with (first
        | (have hh := hC.out _ hb2; go_at_call 189; (with_reducible refine Calls.mono hh ?_); clear hh; rintro e w2 ⟨ho2, _, rfl, ⟨sp, sn, sc, rfl, hx⟩, hr2⟩; have hx2 := ExAt.weak (c := w.heap.size + 1) (by have := hb2.size; rw [show (w.alloc (.cells #[.int .i64 0, .slice none 0 0, .string ⟨#[]⟩, .string ⟨#[]⟩, .int .i64 0, .bool false, .int .i64 0, .string ⟨#[]⟩, .slice none 0 0] 39)).heap.size = w.heap.size + 1 from (by simp)] at this; exact this) x _ hx; have hW := (only_of_below (B := B) hb2).trans ho2; clear hx ho2; obtain ⟨yf, yl, yn, y0, y1, y2, y3, y4, y5, y6, y7, y8⟩ := res_cells hW hlt; replace hW : Hid _ := hW; replace hx2 : Hid _ := hx2; replace hr2 : Hid _ := hr2)
        | (have hh := hN.out (); go_at_call 91; (with_reducible refine Calls.mono hh ?_); clear hh; rintro e w1 ⟨rfl, hb1⟩; have hb2 := hTok.out _ hb1))
      exact ret_ex (.inl rfl) Tryz.results185 rfl rfl hW.out hlt hx2.out hr2.out rfl rfl rfl rfl rfl rfl rfl rfl rfl
  · have e6 : (k == 2) = false := by rw [beq_eq_false_iff_ne]; exact h2
    have e1 : plainP E e d L = insideP E e d L := by simp [plainP, hk, h1, h2, h3, h4]
    rw [e1]
    have hC := fun W hb => inside_any enters25 he (hR W hb) (by omega)
    clear he e1 hR h3 h4 h1 h2
    cases hX : insideP E e d L with
    | bad a2 y =>
      rw [hX] at hC
      replace hC : Hid _ := hC
      replace hX : Hid _ := hX
      replace hk : Hid _ := hk
      replace ht : Hid _ := ht
      replace hn : Hid _ := hn
      replace hTok : Hid _ := hTok
      go_enter Tryz.func185, Tryz.ntmps185
      go_wp2_with (first
        | (have hh := hC.out _ hb2; go_at_call 190; (with_reducible refine Calls.mono hh ?_); clear hh; rintro e w2 ⟨ho2, rfl⟩)
        | (have hh := hN.out (); go_at_call 91; (with_reducible refine Calls.mono hh ?_); clear hh; rintro e w1 ⟨rfl, hb1⟩; have hb2 := hTok.out _ hb1))
      exact end_bad rfl (hZ.trans ((only_of_below hb2).trans ho2))
    | ok x M =>
      rw [hX] at hC
      replace hC : Hid _ := hC
      replace hX : Hid _ := hX
      replace hk : Hid _ := hk
      replace ht : Hid _ := ht
      replace hn : Hid _ := hn
      replace hTok : Hid _ := hTok
      go_enter Tryz.func185, Tryz.ntmps185
      go_wp2_with (first
        | (have hh := hC.out _ hb2; go_at_call 190; (with_reducible refine Calls.mono hh ?_); clear hh; rintro e w2 ⟨ho2, _, rfl, ⟨sp, sn, sc, rfl, hx⟩, hr2⟩; have hx2 := ExAt.weak (c := w.heap.size + 1) (by have := hb2.size; rw [show (w.alloc (.cells #[.int .i64 0, .slice none 0 0, .string ⟨#[]⟩, .string ⟨#[]⟩, .int .i64 0, .bool false, .int .i64 0, .string ⟨#[]⟩, .slice none 0 0] 39)).heap.size = w.heap.size + 1 from (by simp)] at this; exact this) x _ hx; have hW := (only_of_below (B := B) hb2).trans ho2; clear hx ho2; obtain ⟨yf, yl, yn, y0, y1, y2, y3, y4, y5, y6, y7, y8⟩ := res_cells hW hlt; replace hW : Hid _ := hW; replace hx2 : Hid _ := hx2; replace hr2 : Hid _ := hr2)
        | (have hh := hN.out (); go_at_call 91; (with_reducible refine Calls.mono hh ?_); clear hh; rintro e w1 ⟨rfl, hb1⟩; have hb2 := hTok.out _ hb1))
      exact ret_ex (.inl rfl) Tryz.results185 rfl rfl hW.out hlt hx2.out hr2.out rfl rfl rfl rfl rfl rfl rfl rfl rfl
end Go.Proofs.YtkcnpbckmdgfnaaGreatDoor
namespace Go.Proofs.YtkcnpbckmdgfnaaGreatDoor
open Go.ChangeShapes Go.WideShapes Go.ChangeAt Go.RowKit
set_option linter.unusedSimpArgs false
set_option linter.unusedVariables false

theorem opsT_ne : ∀ i, i < opsT.length → (opsT.getD i ([], 0)).2 ≠ 0 := by decide
theorem opsT_at (w : World) (B g : Nat) (hB : B < w.heap.size) (hg : g = w.heap.size) : OpsAt (w.alloc (.cells #[.string ⟨#[61]⟩, .int .i64 6, .string ⟨#[60, 62]⟩, .int .i64 7, .string ⟨#[60]⟩, .int .i64 8, .string ⟨#[60, 61]⟩, .int .i64 9, .string ⟨#[62]⟩, .int .i64 10, .string ⟨#[62, 61]⟩, .int .i64 11] 131)) B (some ⟨g, 0, none⟩) opsT := by
  subst hg
  refine .inr ⟨w.heap.size, 0, rfl, hB, fun i hi => ?_⟩
  have hi' : i < 6 := hi
  obtain rfl | rfl | rfl | rfl | rfl | rfl : i = 0 ∨ i = 1 ∨ i = 2 ∨ i = 3 ∨ i = 4 ∨ i = 5 := by omega
  all_goals exact ⟨alloc_cell w rfl, alloc_cell w rfl⟩
theorem passT {W : World} {B E d : Nat} {L : List Tk} (h : Rd W B E d L) (g : Nat) (hg : g = W.heap.size) :
    Calls Tryz.prog 97 #[rp B, .slice (some ⟨g, 0, none⟩) 6 6] (W.alloc (.cells #[.string ⟨#[61]⟩, .int .i64 6, .string ⟨#[60, 62]⟩, .int .i64 7, .string ⟨#[60]⟩, .int .i64 8, .string ⟨#[60, 61]⟩, .int .i64 9, .string ⟨#[62]⟩, .int .i64 10, .string ⟨#[62, 61]⟩, .int .i64 11] 131)) fun e w' => e = .returned (.int .i64 (opOf opsT L)) ∧ Only (· = B) (W.alloc (.cells #[.string ⟨#[61]⟩, .int .i64 6, .string ⟨#[60, 62]⟩, .int .i64 7, .string ⟨#[60]⟩, .int .i64 8, .string ⟨#[60, 61]⟩, .int .i64 9, .string ⟨#[62]⟩, .int .i64 10, .string ⟨#[62, 61]⟩, .int .i64 11] 131)) w' ∧ Rd w' B E d (passedO opsT L) :=
  passOne_any (h.below (below_new W (.cells #[.string ⟨#[61]⟩, .int .i64 6, .string ⟨#[60, 62]⟩, .int .i64 7, .string ⟨#[60]⟩, .int .i64 8, .string ⟨#[60, 61]⟩, .int .i64 9, .string ⟨#[62]⟩, .int .i64 10, .string ⟨#[62, 61]⟩, .int .i64 11] 131))) opsT (some ⟨g, 0, none⟩) 6 (opsT_at W B g h.lt hg) (by decide) opsT_ne
/-- The cells of an expression in a block, and what it leads to. -/
theorem XAt.open {w : World} {X b : Nat} {x : Ex} (h : XAt w X b x) : ∃ sp sn sc, w.cell? ⟨X, 0, none⟩ = some (.int .i64 (opE x)) ∧ w.cell? ⟨X, 1, none⟩ = some (.slice sp sn sc) ∧ w.cell? ⟨X, 2, none⟩ = some (.string (txt (nmE x))) ∧ w.cell? ⟨X, 3, none⟩ = some (.string (txt (prE x))) ∧
    w.cell? ⟨X, 4, none⟩ = some (.int .i64 (kE x)) ∧ w.cell? ⟨X, 5, none⟩ = some (.bool (bE x)) ∧ w.cell? ⟨X, 6, none⟩ = some (.int .i64 (nE x)) ∧ w.cell? ⟨X, 7, none⟩ = some (.string (txt (tE x))) ∧ w.cell? ⟨X, 8, none⟩ = some (.slice none 0 0) ∧ ExAt w (b ≤ ·) x (.slice sp sn sc) := by
  obtain ⟨sp, sn, sc, ⟨c0, c1, c2, c3, c4, c5, c6, c7, c8⟩, hx⟩ := h.cells
  exact ⟨sp, sn, sc, c0, c1, c2, c3, c4, c5, c6, c7, c8, ExAt.weakS (fun g hg => hg.1) x _ hx⟩
set_option maxRecDepth 100000 in
set_option maxHeartbeats 4000000 in
theorem test_any {B E n : Nat} {m : PR} (hs : Reads B E 154 (sumP m) n) (hsh : Sh (sumP m)) : Reads B E 127 (testP E m) n := by
  intro w d L hl h
  have hlt := h.lt
  have h0 := h.below (below_new w (.cells #[.int .i64 0, .slice none 0 0, .string ⟨#[]⟩, .string ⟨#[]⟩, .int .i64 0, .bool false, .int .i64 0, .string ⟨#[]⟩, .slice none 0 0] 39))
  have hS := fun (_ : Unit) => hs _ d L hl h0
  have hZ := only_of_below (B := B) (below_new w (.cells #[.int .i64 0, .slice none 0 0, .string ⟨#[]⟩, .string ⟨#[]⟩, .int .i64 0, .bool false, .int .i64 0, .string ⟨#[]⟩, .slice none 0 0] 39))
  clear h h0
  cases hX : sumP m d L with
  | bad a y =>
    have e1 : testP E m d L = .bad a y := by simp [testP, hX, Res.then]
    rw [e1]
    rw [hX] at hS
    clear e1 hs
    replace hS : Hid _ := hS
    replace hX : Hid _ := hX
    go_enter Tryz.func127, Tryz.ntmps127
    go_wp2_with (have hh := hS.out (); go_at_call 154; (with_reducible refine Calls.mono hh ?_); clear hh; rintro e w1 ⟨ho1, rfl⟩)
    exact end_bad rfl (hZ.trans ho1)
  | ok x M =>
    rw [hX] at hS
    have hML := hsh d L x M hX
    generalize hF : testP E m d L = F
    have hF1 : ((Res.ok x M).then fun x L => if isW [73, 83] L then (if isW [78, 79, 84] L.tail then (mustL E [78, 85, 76, 76] L.tail.tail).then fun _ L => .ok (.one 20 x) L else (mustL E [78, 85, 76, 76] L.tail).then fun _ L => .ok (.one 19 x) L) else if opOf opsT L = 0 then .ok x L else (sumP m d L.tail).then fun y L' => .ok (.two (opOf opsT L) x y) L') = F := by rw [← hF, ← hX]; rfl
    replace hF1 := hF1
    simp only [Res.then] at hF1
    clear hF
    replace hS : Hid _ := hS
    replace hX : Hid _ := hX
    replace hF1 : Hid _ := hF1
    go_enter Tryz.func127, Tryz.ntmps127
    go_upto_region 2 with (have hh := hS.out (); go_at_call 154; (with_reducible refine Calls.mono hh ?_); clear hh; rintro e w1 ⟨ho1, _, rfl, ⟨sp, sn, sc, rfl, hx⟩, hr1⟩)
    have hs1 : w.heap.size + 1 ≤ w1.heap.size := by have := ho1.size; simpa using this
    have hXn := XAt.new (w := w1) (b := w.heap.size + 1) (ExAt.weak (c := w.heap.size + 1) (by simp) x _ hx)
    have hr2 := hr1.below (below_new w1 (.cells #[.int .i64 (opE x), .slice sp sn sc, .string (txt (nmE x)), .string (txt (prE x)), .int .i64 (kE x), .bool (bE x), .int .i64 (nE x), .string (txt (tE x)), .slice none 0 0] 39))
    have ho2 := ho1.trans (only_of_below (B := B) (below_new w1 (.cells #[.int .i64 (opE x), .slice sp sn sc, .string (txt (nmE x)), .string (txt (prE x)), .int .i64 (kE x), .bool (bE x), .int .i64 (nE x), .string (txt (tE x)), .slice none 0 0] 39)))
    have hBX : B < w1.heap.size := by omega
    generalize w1.alloc (.cells #[.int .i64 (opE x), .slice sp sn sc, .string (txt (nmE x)), .string (txt (prE x)), .int .i64 (kE x), .bool (bE x), .int .i64 (nE x), .string (txt (tE x)), .slice none 0 0] 39) = W at *
    generalize w1.heap.size = Xb at *
    clear hx hr1 ho1 hS
    have hP := fun s => pass_any hr2 s
    replace hXn : Hid _ := hXn
    replace ho2 : Hid _ := ho2
    cases hw : isW [73, 83] M
    · have hF2 : (if opOf opsT M = 0 then Res.ok x M else (sumP m d M.tail).then fun y L' => .ok (.two (opOf opsT M) x y) L') = F := by rw [← hF1.out, hw]; rfl
      have hPI := fun (_ : Unit) => hP [73, 83]
      rw [hw, passed_no hw] at hPI
      clear hP hF1 hr2
      have hK := fun W (hr : Rd W B E d M) g hg => passT hr g hg
      replace hPI : Hid _ := hPI
      replace hw : Hid _ := hw
      by_cases hop : opOf opsT M = 0
      · rw [if_pos hop] at hF2
        subst hF2
        have e2 : passedO opsT M = M := by unfold passedO; rw [if_pos hop]
        rw [hop, e2] at hK
        clear e2
        replace hK : Hid _ := hK
        replace hop : Hid _ := hop
        go_upto_region 10 with (first
          | (have hh := hK.out _ hr3 _ rfl; go_at_call 97; (with_reducible refine Calls.mono hh ?_); clear hh; rintro e w3 ⟨rfl, ho4, hr4⟩)
          | (have hh := hPI.out (); go_at_call 58; (with_reducible refine Calls.mono hh ?_); clear hh; rintro e w2 ⟨rfl, ho3, hr3⟩))
        have hoX := (ho3.trans (only_of_below (B := B) (below_new w2 (.cells #[.string ⟨#[61]⟩, .int .i64 6, .string ⟨#[60, 62]⟩, .int .i64 7, .string ⟨#[60]⟩, .int .i64 8, .string ⟨#[60, 61]⟩, .int .i64 9, .string ⟨#[62]⟩, .int .i64 10, .string ⟨#[62, 61]⟩, .int .i64 11] 131)))).trans ho4
        obtain ⟨sp, sn, sc, z0, z1, z2, z3, z4, z5, z6, z7, z8, hx4⟩ := (hXn.out.only hoX (by omega) (by omega)).open
        have hW := ho2.out.trans hoX
        obtain ⟨yf, yl, yn, y0, y1, y2, y3, y4, y5, y6, y7, y8⟩ := res_cells hW hlt
        clear hoX ho3 ho4 hr3
        replace hW : Hid _ := hW
        replace hx4 : Hid _ := hx4
        replace hr4 : Hid _ := hr4
        go_wp2_with fail
        exact ret_ex (.inl rfl) Tryz.results127 rfl rfl hW.out hlt hx4.out hr4.out rfl rfl rfl rfl rfl rfl rfl rfl rfl
      · rw [if_neg hop] at hF2
        have e2 : passedO opsT M = M.tail := by unfold passedO; rw [if_neg hop]
        have hop2 : (opOf opsT M == 0) = false := by rw [beq_eq_false_iff_ne]; exact hop
        rw [e2] at hK
        have hpt := fun (w2 : World) (hr : Rd w2 B E d M.tail) => hs w2 d M.tail (by simp; omega) hr
        clear e2 hs
        generalize opOf opsT M = op at *
        cases hY : sumP m d M.tail with
        | bad a y =>
          rw [hY] at hpt hF2
          have hF3 : Res.bad a y = F := hF2
          subst hF3
          clear hF2 hY
          replace hK : Hid _ := hK
          replace hpt : Hid _ := hpt
          replace hop : Hid _ := hop
          go_upto_region 11 with (first
            | (have hh := hK.out _ hr3 _ rfl; go_at_call 97; (with_reducible refine Calls.mono hh ?_); clear hh; rintro e w3 ⟨rfl, ho4, hr4⟩)
            | (have hh := hPI.out (); go_at_call 58; (with_reducible refine Calls.mono hh ?_); clear hh; rintro e w2 ⟨rfl, ho3, hr3⟩))
          have hoX := (ho3.trans (only_of_below (B := B) (below_new w2 (.cells #[.string ⟨#[61]⟩, .int .i64 6, .string ⟨#[60, 62]⟩, .int .i64 7, .string ⟨#[60]⟩, .int .i64 8, .string ⟨#[60, 61]⟩, .int .i64 9, .string ⟨#[62]⟩, .int .i64 10, .string ⟨#[62, 61]⟩, .int .i64 11] 131)))).trans ho4
          obtain ⟨sp, sn, sc, z0, z1, z2, z3, z4, z5, z6, z7, z8, hx4⟩ := (hXn.out.only hoX (by omega) (by omega)).open
          have hW := ho2.out.trans hoX
          have hq3 := fun (_ : Unit) => hpt.out _ (hr4.below (Below.drew (Below.refl w3.heap.size w3)))
          have hfin : ∀ act w5, act.defers = [] → Only (· = B) w3.drew w5 → bodyPost Tryz.prog Tryz.f127 (Ans w B E d (.bad a y) (IsEx w.heap.size)) (.panic [{ v := .iface 109 (refV a y), recovered := false }]) act w5 := fun act w5 hd ho5 =>
            end_bad hd (hZ.trans (hW.trans ((only_of_below (B := B) (Below.drew (Below.refl w3.heap.size w3))).trans ho5)))
          clear hoX ho3 ho4 hr3 hr4 hx4 hW
          replace hq3 : Hid _ := hq3
          replace hfin : Hid _ := hfin
          refine wp_region_any (by kernel_rfl) ?_
          change wpAny _ _ _ _ _ _ _ (World.drew _)
          refine wpAny_take (i := 0) (v := .int .i64 op) rfl (by kernel_rfl) (by kernel_rfl) (by kernel_rfl) (fun _ _ _ h => h) (Or.inl ⟨by rfl, by intro w; go_simp⟩) ?_
          refine wpAny_take (i := 2) (v := rp B) rfl (by kernel_rfl) (by kernel_rfl) (by kernel_rfl) (fun _ _ _ h => h) (Or.inl ⟨by rfl, by intro w; go_simp⟩) ?_
          refine wpAny_ready (rs := [1, 3]) (by kernel_rfl) (by simp) ?_
          refine AllReady.cons rfl (fun K hK => ?_) ?_
          · go_simp
            (refine hK _ _ ?_; clear hK K)
            refine wpAny_ready (rs := [3]) (by kernel_rfl) (by simp) ?_
            refine AllReady.cons rfl (fun K hK => ?_) AllReady.nil
            go_simp
            have hh := hq3.out ()
            (with_reducible refine Calls.mono hh ?_)
            rintro e w5 ⟨ho5, rfl⟩
            exact hfin.out _ _ rfl ho5
          · refine AllReady.cons rfl (fun K hK => ?_) AllReady.nil
            go_simp
            have hh := hq3.out ()
            (with_reducible refine Calls.mono hh ?_)
            rintro e w5 ⟨ho5, rfl⟩
            exact hfin.out _ _ rfl ho5
        | ok y M2 =>
          rw [hY] at hpt hF2
          have hF3 : Res.ok (.two op x y) M2 = F := hF2
          subst hF3
          clear hF2 hY
          replace hK : Hid _ := hK
          replace hpt : Hid _ := hpt
          replace hop : Hid _ := hop
          go_upto_region 11 with (first
            | (have hh := hK.out _ hr3 _ rfl; go_at_call 97; (with_reducible refine Calls.mono hh ?_); clear hh; rintro e w3 ⟨rfl, ho4, hr4⟩)
            | (have hh := hPI.out (); go_at_call 58; (with_reducible refine Calls.mono hh ?_); clear hh; rintro e w2 ⟨rfl, ho3, hr3⟩))
          have hoX := (ho3.trans (only_of_below (B := B) (below_new w2 (.cells #[.string ⟨#[61]⟩, .int .i64 6, .string ⟨#[60, 62]⟩, .int .i64 7, .string ⟨#[60]⟩, .int .i64 8, .string ⟨#[60, 61]⟩, .int .i64 9, .string ⟨#[62]⟩, .int .i64 10, .string ⟨#[62, 61]⟩, .int .i64 11] 131)))).trans ho4
          have hXa := hXn.out.only hoX (by omega) (by omega)
          obtain ⟨sp, sn, sc, z0, z1, z2, z3, z4, z5, z6, z7, z8, hx4⟩ := hXa.open
          have hrow4 : Row9 w3 Xb 0 x (.slice sp sn sc) := ⟨z0, z1, z2, z3, z4, z5, z6, z7, z8⟩
          have hW := ho2.out.trans hoX
          have hq2 := fun W (hb : Below w3.heap.size w3 W) => hpt.out W (hr4.below hb)
          have hXB : Xb ≠ B := by omega
          clear hoX ho3 ho4 hr3 hr4 hXa
          replace hq2 : Hid _ := hq2
          replace hW : Hid _ := hW
          replace hrow4 : Hid _ := hrow4
          replace hx4 : Hid _ := hx4
          go_region_with (first
            | (have hh := hq2.out _ (Below.drew (Below.refl _ _)); (go_at_call 154); (with_reducible refine Calls.mono hh ?_); clear hh; rintro e w5 ⟨ho5, _, rfl, ⟨tp, tn, tc, rfl, hy⟩, hr5⟩; have ho5' := (only_of_below (B := B) (Below.drew (Below.refl w3.heap.size w3))).trans ho5; clear ho5; obtain ⟨t0, t1, t2, t3, t4, t5, t6, t7, t8⟩ := Row9.only (x := x) (ks := .slice sp sn sc) hrow4.out ho5' hXB)
            | (go_at_call 98; refine Calls.mono (of_any _ _ _ _ _) ?_; rintro e w6 ⟨rfl, hb6⟩; have hs3 : w.heap.size + 1 ≤ w3.heap.size := (by have := hW.out.size; simpa using this); have hx5 := ExAt.only ho5' (by omega) x _ hx4.out; have hy5 := ExAt.weak (c := w.heap.size + 1) hs3 y _ hy; have h2 := two_at op hx5 hy5 (Nat.le_trans hs3 ho5'.size) hb6; have hk6 := Below.trans (B := w5.heap.size) (a := w5) (by repeat (first | exact Below.refl _ _ | refine Below.drew ?_ | refine Below.alloc ?_ (by simp) _)) (hb6.mono (by simp)); have hr6 := hr5.below hk6; have hW6 := (hW.out.trans ho5').trans (only_of_below hk6); obtain ⟨yf, yl, yn, y0, y1, y2, y3, y4, y5, y6, y7, y8⟩ := res_cells hW6 hlt; replace hW6 : Hid _ := hW6; replace h2 : Hid _ := h2; replace hr6 : Hid _ := hr6; clear hx5 hy5))
          all_goals
            go_wp2_with fail
            exact ret_ex (.inl rfl) Tryz.results127 rfl rfl hW6.out hlt (x := .two op x y) (ks := .slice (some ⟨w5.heap.size, 0, none⟩) 2 2) h2.out hr6.out rfl rfl rfl rfl rfl rfl rfl rfl rfl
    · have hF2 : (if isW [78, 79, 84] M.tail then (mustL E [78, 85, 76, 76] M.tail.tail).then fun _ L => Res.ok (.one 20 x) L else (mustL E [78, 85, 76, 76] M.tail).then fun _ L => .ok (.one 19 x) L) = F := by rw [← hF1.out, hw]; rfl
      have hPI := fun (_ : Unit) => hP [73, 83]
      rw [hw, passed_yes hw] at hPI
      clear hP hF1 hr2 hs
      have hPN := fun W (hr : Rd W B E d M.tail) => pass_any hr [78, 79, 84]
      replace hPI : Hid _ := hPI
      replace hw : Hid _ := hw
      cases hn : isW [78, 79, 84] M.tail
      · have hF3 : (mustL E [78, 85, 76, 76] M.tail).then (fun _ L => Res.ok (Ex.one 19 x) L) = F := by rw [← hF2, hn]; rfl
        rw [hn, passed_no hn] at hPN
        have hM := fun W (hr : Rd W B E d M.tail) g hg => must1 hr [78, 85, 76, 76] g hg
        clear hF2
        replace hPN : Hid _ := hPN
        replace hn : Hid _ := hn
        cases hY : mustL E [78, 85, 76, 76] M.tail with
        | bad a y =>
          rw [hY] at hM hF3
          have hF4 : Res.bad a y = F := hF3
          subst hF4
          clear hF3
          replace hM : Hid _ := hM
          replace hY : Hid _ := hY
          go_wp2_with (first
            | (have hh := hM.out _ hr4 _ rfl; go_at_call 55; (with_reducible refine Calls.mono hh ?_); clear hh; rintro e w4 ⟨ho5, rfl⟩)
            | (have hh := hPN.out _ hr3; go_at_call 58; (with_reducible refine Calls.mono hh ?_); clear hh hPN; rintro e w3 ⟨rfl, ho4, hr4⟩)
            | (have hh := hPI.out (); go_at_call 58; (with_reducible refine Calls.mono hh ?_); clear hh; rintro e w2 ⟨rfl, ho3, hr3⟩))
          exact end_bad rfl (hZ.trans (ho2.out.trans (ho3.trans (ho4.trans ((only_of_below (below_new _ _)).trans ho5)))))
        | ok u M2 =>
          rw [hY] at hM hF3
          have hF4 : Res.ok (Ex.one 19 x) M2 = F := hF3
          subst hF4
          clear hF3
          replace hM : Hid _ := hM
          replace hY : Hid _ := hY
          go_upto_region 7 with (first
            | (have hh := hM.out _ hr4 _ rfl; go_at_call 55; (with_reducible refine Calls.mono hh ?_); clear hh; rintro e w4 ⟨ho5, _, rfl, rfl, hr5⟩)
            | (have hh := hPN.out _ hr3; go_at_call 58; (with_reducible refine Calls.mono hh ?_); clear hh hPN; rintro e w3 ⟨rfl, ho4, hr4⟩)
            | (have hh := hPI.out (); go_at_call 58; (with_reducible refine Calls.mono hh ?_); clear hh; rintro e w2 ⟨rfl, ho3, hr3⟩))
          have hoX := (ho3.trans ho4).trans ((only_of_below (B := B) (below_new w3 (.cells #[.string ⟨#[78, 85, 76, 76]⟩] 9))).trans ho5)
          obtain ⟨sp, sn, sc, z0, z1, z2, z3, z4, z5, z6, z7, z8, hx4⟩ := (hXn.out.only hoX (by omega) (by omega)).open
          have hW4 := ho2.out.trans hoX
          have hs4 : w.heap.size + 1 ≤ w4.heap.size := by have := hW4.size; simpa using this
          clear hoX ho3 ho4 ho5 hr3 hr4
          replace hW4 : Hid _ := hW4
          replace hx4 : Hid _ := hx4
          go_wp2_with (go_at_call 98; refine Calls.mono (of_any _ _ _ _ _) ?_; rintro e w6 ⟨rfl, hb6⟩; have h2 := one_at 19 hx4.out hs4 hb6; have hk6 := below_on (below_new w4 (.cells #[.int .i64 (opE x), .slice sp sn sc, .string (txt (nmE x)), .string (txt (prE x)), .int .i64 (kE x), .bool (bE x), .int .i64 (nE x), .string (txt (tE x)), .slice none 0 0] 39)) hb6; have hr6 := hr5.below hk6; have hW := hW4.out.trans (only_of_below hk6); clear hk6; obtain ⟨yf, yl, yn, y0, y1, y2, y3, y4, y5, y6, y7, y8⟩ := res_cells hW hlt; replace hW : Hid _ := hW; replace h2 : Hid _ := h2; replace hr6 : Hid _ := hr6)
          exact ret_ex (.inl rfl) Tryz.results127 rfl rfl hW.out hlt (x := .one 19 x) (ks := .slice (some ⟨w4.heap.size, 0, none⟩) 1 1) h2.out hr6.out rfl rfl rfl rfl rfl rfl rfl rfl rfl
      · have hF3 : (mustL E [78, 85, 76, 76] M.tail.tail).then (fun _ L => Res.ok (Ex.one 20 x) L) = F := by rw [← hF2, hn]; rfl
        rw [hn, passed_yes hn] at hPN
        have hM := fun W (hr : Rd W B E d M.tail.tail) g hg => must1 hr [78, 85, 76, 76] g hg
        clear hF2
        replace hPN : Hid _ := hPN
        replace hn : Hid _ := hn
        cases hY : mustL E [78, 85, 76, 76] M.tail.tail with
        | bad a y =>
          rw [hY] at hM hF3
          have hF4 : Res.bad a y = F := hF3
          subst hF4
          clear hF3
          replace hM : Hid _ := hM
          replace hY : Hid _ := hY
          go_wp2_with (first
            | (have hh := hM.out _ hr4 _ rfl; go_at_call 55; (with_reducible refine Calls.mono hh ?_); clear hh; rintro e w4 ⟨ho5, rfl⟩)
            | (have hh := hPN.out _ hr3; go_at_call 58; (with_reducible refine Calls.mono hh ?_); clear hh hPN; rintro e w3 ⟨rfl, ho4, hr4⟩)
            | (have hh := hPI.out (); go_at_call 58; (with_reducible refine Calls.mono hh ?_); clear hh; rintro e w2 ⟨rfl, ho3, hr3⟩))
          exact end_bad rfl (hZ.trans (ho2.out.trans (ho3.trans (ho4.trans ((only_of_below (below_new _ _)).trans ho5)))))
        | ok u M2 =>
          rw [hY] at hM hF3
          have hF4 : Res.ok (Ex.one 20 x) M2 = F := hF3
          subst hF4
          clear hF3
          replace hM : Hid _ := hM
          replace hY : Hid _ := hY
          go_upto_region 7 with (first
            | (have hh := hM.out _ hr4 _ rfl; go_at_call 55; (with_reducible refine Calls.mono hh ?_); clear hh; rintro e w4 ⟨ho5, _, rfl, rfl, hr5⟩)
            | (have hh := hPN.out _ hr3; go_at_call 58; (with_reducible refine Calls.mono hh ?_); clear hh hPN; rintro e w3 ⟨rfl, ho4, hr4⟩)
            | (have hh := hPI.out (); go_at_call 58; (with_reducible refine Calls.mono hh ?_); clear hh; rintro e w2 ⟨rfl, ho3, hr3⟩))
          have hoX := (ho3.trans ho4).trans ((only_of_below (B := B) (below_new w3 (.cells #[.string ⟨#[78, 85, 76, 76]⟩] 9))).trans ho5)
          obtain ⟨sp, sn, sc, z0, z1, z2, z3, z4, z5, z6, z7, z8, hx4⟩ := (hXn.out.only hoX (by omega) (by omega)).open
          have hW4 := ho2.out.trans hoX
          have hs4 : w.heap.size + 1 ≤ w4.heap.size := by have := hW4.size; simpa using this
          clear hoX ho3 ho4 ho5 hr3 hr4
          replace hW4 : Hid _ := hW4
          replace hx4 : Hid _ := hx4
          go_wp2_with (go_at_call 98; refine Calls.mono (of_any _ _ _ _ _) ?_; rintro e w6 ⟨rfl, hb6⟩; have h2 := one_at 20 hx4.out hs4 hb6; have hk6 := below_on (below_new w4 (.cells #[.int .i64 (opE x), .slice sp sn sc, .string (txt (nmE x)), .string (txt (prE x)), .int .i64 (kE x), .bool (bE x), .int .i64 (nE x), .string (txt (tE x)), .slice none 0 0] 39)) hb6; have hr6 := hr5.below hk6; have hW := hW4.out.trans (only_of_below hk6); clear hk6; obtain ⟨yf, yl, yn, y0, y1, y2, y3, y4, y5, y6, y7, y8⟩ := res_cells hW hlt; replace hW : Hid _ := hW; replace h2 : Hid _ := h2; replace hr6 : Hid _ := hr6)
          exact ret_ex (.inl rfl) Tryz.results127 rfl rfl hW.out hlt (x := .one 20 x) (ks := .slice (some ⟨w4.heap.size, 0, none⟩) 1 1) h2.out hr6.out rfl rfl rfl rfl rfl rfl rfl rfl rfl
end Go.Proofs.YtkcnpbckmdgfnaaGreatDoor
