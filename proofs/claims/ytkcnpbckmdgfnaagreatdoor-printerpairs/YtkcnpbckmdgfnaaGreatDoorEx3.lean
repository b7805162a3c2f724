/-
  The reader of what is plain.
-/
import Derived.Test.YtkcnpbckmdgfnaaGreatDoorEx2
namespace Go.Proofs.YtkcnpbckmdgfnaaGreatDoor
open Go.ChangeShapes Go.WideShapes Go.ChangeAt Go.RowKit
set_option linter.unusedSimpArgs false
set_option linter.unusedVariables false

set_option maxRecDepth 100000 in
set_option maxHeartbeats 2000000 in
theorem plain_any {B E n : Nat} {e : PR} (he : Reads B E 31 e n) : Reads B E 185 (plainP E e) (n + 1) := by
  intro w d L hl h
  have hlt := h.lt
  have h0 := h.below (below_new w (.cells #[.int .i64 0, .slice none 0 0, .string ⟨#[]⟩, .string ⟨#[]⟩, .int .i64 0, .bool false, .int .i64 0, .string ⟨#[]⟩, .slice none 0 0] 39))
  have hN := fun (_ : Unit) => next_kind h0
  have hR := fun W (hb : Below (w.alloc (.cells #[.int .i64 0, .slice none 0 0, .string ⟨#[]⟩, .string ⟨#[]⟩, .int .i64 0, .bool false, .int .i64 0, .string ⟨#[]⟩, .slice none 0 0] 39)).heap.size (w.alloc (.cells #[.int .i64 0, .slice none 0 0, .string ⟨#[]⟩, .string ⟨#[]⟩, .int .i64 0, .bool false, .int .i64 0, .string ⟨#[]⟩, .slice none 0 0] 39)) W) => h0.below hb
  have hZ := only_of_below (B := B) (below_new w (.cells #[.int .i64 0, .slice none 0 0, .string ⟨#[]⟩, .string ⟨#[]⟩, .int .i64 0, .bool false, .int .i64 0, .string ⟨#[]⟩, .slice none 0 0] 39))
  have hmf : ∀ (fn : Fn) (first cap : Array Value) (w : World), (Instr.makeFunc fn first cap).run Tryz.prog w = .ok (.func fn first cap) w := fun _ _ _ _ => rfl
  clear h h0
  generalize hk : kindL L = k at *
  generalize ht : (headL E L).t = t at *
  generalize hn : (headL E L).n = nn at *
  generalize (placeL E L) = a at *
  replace hN : Hid _ := hN
  have hTok := fun w1 (hb1 : Below (w.alloc (.cells #[.int .i64 0, .slice none 0 0, .string ⟨#[]⟩, .string ⟨#[]⟩, .int .i64 0, .bool false, .int .i64 0, .string ⟨#[]⟩, .slice none 0 0] 39)).heap.size (w.alloc (.cells #[.int .i64 0, .slice none 0 0, .string ⟨#[]⟩, .string ⟨#[]⟩, .int .i64 0, .bool false, .int .i64 0, .string ⟨#[]⟩, .slice none 0 0] 39)) w1) => below_on hb1 (below_new w1 (.cells #[.int .i64 k, .string (txt t), .int .i64 nn, .int .i64 a] 147))
  by_cases h3 : k = 3
  · subst h3
    have e1 : plainP E e d L = .ok (litE 2 false nn []) L.tail := by simp [plainP, hk, ht, hn]
    rw [e1]
    have hne := kind_ne hk (by decide)
    have hT := fun W hb => take_ne (hR W hb) hne
    clear he e1 hne hR
    replace hT : Hid _ := hT
    replace hk : Hid _ := hk
    replace ht : Hid _ := ht
    replace hn : Hid _ := hn
    replace hTok : Hid _ := hTok
    go_enter Tryz.func185, Tryz.ntmps185
    go_wp2_with (first
      | (go_at_call 187; refine Calls.mono (literal_any _ _ _ _ _) ?_; rintro e w9 ⟨rfl, hb9⟩; have hr9 := hr2.below hb9; have hW := ((only_of_below (B := B) hb2).trans ho2).trans (only_of_below hb9); clear hb9; obtain ⟨yf, yl, yn, y0, y1, y2, y3, y4, y5, y6, y7, y8⟩ := res_cells hW hlt; replace hW : Hid _ := hW; replace hr9 : Hid _ := hr9)
      | (have hh := hT.out _ hb2; go_at_call 89; (with_reducible refine Calls.mono hh ?_); clear hh; rintro e w2 ⟨rfl, ho2, hr2⟩; obtain ⟨x0, x1, x2, x3⟩ := tok_cells ho2 hl1)
      | (have hh := hN.out (); go_at_call 91; (with_reducible refine Calls.mono hh ?_); clear hh; rintro e w1 ⟨rfl, hb1⟩; have hb2 := hTok.out _ hb1; have hl1 : B < w1.heap.size := (by have := hb1.size; simp at this; omega)))
    exact ret_ex (.inl rfl) Tryz.results185 rfl rfl hW.out hlt (x := litE 2 false nn []) (ks := .slice none 0 0) (leaf_at _ _ _ _ _ _ _ _ _) hr9.out rfl rfl rfl rfl rfl rfl rfl rfl rfl
  have e3 : (k == 3) = false := by rw [beq_eq_false_iff_ne]; exact h3
  by_cases h4 : k = 4
  · subst h4
    have e1 : plainP E e d L = .ok (litE 3 false 0 t) L.tail := by simp [plainP, hk, ht, hn]
    rw [e1]
    have hne := kind_ne hk (by decide)
    have hT := fun W hb => take_ne (hR W hb) hne
    clear he e1 hne hR
    replace hT : Hid _ := hT
    replace hk : Hid _ := hk
    replace ht : Hid _ := ht
    replace hn : Hid _ := hn
    replace hTok : Hid _ := hTok
    go_enter Tryz.func185, Tryz.ntmps185
    go_wp2_with (first
      | (go_at_call 187; refine Calls.mono (literal_any _ _ _ _ _) ?_; rintro e w9 ⟨rfl, hb9⟩; have hr9 := hr2.below hb9; have hW := ((only_of_below (B := B) hb2).trans ho2).trans (only_of_below hb9); clear hb9; obtain ⟨yf, yl, yn, y0, y1, y2, y3, y4, y5, y6, y7, y8⟩ := res_cells hW hlt; replace hW : Hid _ := hW; replace hr9 : Hid _ := hr9)
      | (have hh := hT.out _ hb2; go_at_call 89; (with_reducible refine Calls.mono hh ?_); clear hh; rintro e w2 ⟨rfl, ho2, hr2⟩; obtain ⟨x0, x1, x2, x3⟩ := tok_cells ho2 hl1)
      | (have hh := hN.out (); go_at_call 91; (with_reducible refine Calls.mono hh ?_); clear hh; rintro e w1 ⟨rfl, hb1⟩; have hb2 := hTok.out _ hb1; have hl1 : B < w1.heap.size := (by have := hb1.size; simp at this; omega)))
    exact ret_ex (.inl rfl) Tryz.results185 rfl rfl hW.out hlt (x := litE 3 false 0 t) (ks := .slice none 0 0) (leaf_at _ _ _ _ _ _ _ _ _) hr9.out rfl rfl rfl rfl rfl rfl rfl rfl rfl
  have e4 : (k == 4) = false := by rw [beq_eq_false_iff_ne]; exact h4
  by_cases h1 : k = 1
  · subst h1
    have e1 : plainP E e d L = namedP E d L := by simp [plainP, hk]
    rw [e1]
    have hC := fun W hb => named_any (hR W hb)
    clear he e1 hR h3 h4
    cases hX : namedP E d L with
    | bad a2 y =>
      rw [hX] at hC
      replace hC : Hid _ := hC
      replace hX : Hid _ := hX
      replace hk : Hid _ := hk
      replace ht : Hid _ := ht
      replace hn : Hid _ := hn
      replace hTok : Hid _ := hTok
      go_enter Tryz.func185, Tryz.ntmps185
      go_wp2_with (first
        | (have hh := hC.out _ hb2; go_at_call 188; (with_reducible refine Calls.mono hh ?_); clear hh; rintro e w2 ⟨ho2, rfl⟩)
        | (have hh := hN.out (); go_at_call 91; (with_reducible refine Calls.mono hh ?_); clear hh; rintro e w1 ⟨rfl, hb1⟩; have hb2 := hTok.out _ hb1))
      exact end_bad rfl (hZ.trans ((only_of_below hb2).trans ho2))
    | ok x M =>
      rw [hX] at hC
      replace hC : Hid _ := hC
      replace hX : Hid _ := hX
      replace hk : Hid _ := hk
      replace ht : Hid _ := ht
      replace hn : Hid _ := hn
      replace hTok : Hid _ := hTok
      go_enter Tryz.func185, Tryz.ntmps185
      go_wp2_with (first
        | (have hh := hC.out _ hb2; go_at_call 188; (with_reducible refine Calls.mono hh ?_); clear hh; rintro e w2 ⟨ho2, _, rfl, ⟨sp, sn, sc, rfl, hx⟩, hr2⟩; have hx2 := ExAt.weak (c := w.heap.size + 1) (by have := hb2.size; rw [show (w.alloc (.cells #[.int .i64 0, .slice none 0 0, .string ⟨#[]⟩, .string ⟨#[]⟩, .int .i64 0, .bool false, .int .i64 0, .string ⟨#[]⟩, .slice none 0 0] 39)).heap.size = w.heap.size + 1 from (by simp)] at this; exact this) x _ hx; have hW := (only_of_below (B := B) hb2).trans ho2; clear hx ho2; obtain ⟨yf, yl, yn, y0, y1, y2, y3, y4, y5, y6, y7, y8⟩ := res_cells hW hlt; replace hW : Hid _ := hW; replace hx2 : Hid _ := hx2; replace hr2 : Hid _ := hr2)
        | (have hh := hN.out (); go_at_call 91; (with_reducible refine Calls.mono hh ?_); clear hh; rintro e w1 ⟨rfl, hb1⟩; have hb2 := hTok.out _ hb1))
      exact ret_ex (.inl rfl) Tryz.results185 rfl rfl hW.out hlt hx2.out hr2.out rfl rfl rfl rfl rfl rfl rfl rfl rfl
  have e5 : (k == 1) = false := by rw [beq_eq_false_iff_ne]; exact h1
  by_cases h2 : k = 2
  · subst h2
    have e1 : plainP E e d L = keyedP E e d L := by simp [plainP, hk]
    rw [e1]
    have hC := fun W hb => keyed_any he W d L hl (hR W hb)
    clear he e1 hR h3 h4 h1
    cases hX : keyedP E e d L with
    | bad a2 y =>
      rw [hX] at hC
      replace hC : Hid _ := hC
      replace hX : Hid _ := hX
      replace hk : Hid _ := hk
      replace ht : Hid _ := ht
      replace hn : Hid _ := hn
      replace hTok : Hid _ := hTok
      go_enter Tryz.func185, Tryz.ntmps185
      go_wp2_with (first
        | (have hh := hC.out _ hb2; go_at_call 189; (with_reducible refine Calls.mono hh ?_); clear hh; rintro e w2 ⟨ho2, rfl⟩)
        | (have hh := hN.out (); go_at_call 91; (with_reducible refine Calls.mono hh ?_); clear hh; rintro e w1 ⟨rfl, hb1⟩; have hb2 := hTok.out _ hb1))
      exact end_bad rfl (hZ.trans ((only_of_below hb2).trans ho2))
    | ok x M =>
      rw [hX] at hC
      replace hC : Hid _ := hC
      replace hX : Hid _ := hX
      replace hk : Hid _ := hk
      replace ht : Hid _ := ht
      replace hn : Hid _ := hn
      replace hTok : Hid _ := hTok
      go_enter Tryz.func185, Tryz.ntmps185
      go_wp2_with (first
        | (have hh := hC.out _ hb2; go_at_call 189; (with_reducible refine Calls.mono hh ?_); clear hh; rintro e w2 ⟨ho2, _, rfl, ⟨sp, sn, sc, rfl, hx⟩, hr2⟩; have hx2 := ExAt.weak (c := w.heap.size + 1) (by have := hb2.size; rw [show (w.alloc (.cells #[.int .i64 0, .slice none 0 0, .string ⟨#[]⟩, .string ⟨#[]⟩, .int .i64 0, .bool false, .int .i64 0, .string ⟨#[]⟩, .slice none 0 0] 39)).heap.size = w.heap.size + 1 from (by simp)] at this; exact this) x _ hx; have hW := (only_of_below (B := B) hb2).trans ho2; clear hx ho2; obtain ⟨yf, yl, yn, y0, y1, y2, y3, y4, y5, y6, y7, y8⟩ := res_cells hW hlt; replace hW : Hid _ := hW; replace hx2 : Hid _ := hx2; replace hr2 : Hid _ := hr2)
        | (have hh := hN.out (); go_at_call 91; (with_reducible refine Calls.mono hh ?_); clear hh; rintro e w1 ⟨rfl, hb1⟩; have hb2 := hTok.out _ hb1))
      exact ret_ex (.inl rfl) Tryz.results185 rfl rfl hW.out hlt hx2.out hr2.out rfl rfl rfl rfl rfl rfl rfl rfl rfl
  · have e6 : (k == 2) = false := by rw [beq_eq_false_iff_ne]; exact h2
    have e1 : plainP E e d L = insideP E e d L := by simp [plainP, hk, h1, h2, h3, h4]
    rw [e1]
    have hC := fun W hb => inside_any enters25 he (hR W hb) (by omega)
    clear he e1 hR h3 h4 h1 h2
    cases hX : insideP E e d L with
    | bad a2 y =>
      rw [hX] at hC
      replace hC : Hid _ := hC
      replace hX : Hid _ := hX
      replace hk : Hid _ := hk
      replace ht : Hid _ := ht
      replace hn : Hid _ := hn
      replace hTok : Hid _ := hTok
      go_enter Tryz.func185, Tryz.ntmps185
      go_wp2_with (first
        | (have hh := hC.out _ hb2; go_at_call 190; (with_reducible refine Calls.mono hh ?_); clear hh; rintro e w2 ⟨ho2, rfl⟩)
        | (have hh := hN.out (); go_at_call 91; (with_reducible refine Calls.mono hh ?_); clear hh; rintro e w1 ⟨rfl, hb1⟩; have hb2 := hTok.out _ hb1))
      exact end_bad rfl (hZ.trans ((only_of_below hb2).trans ho2))
    | ok x M =>
      rw [hX] at hC
      replace hC : Hid _ := hC
      replace hX : Hid _ := hX
      replace hk : Hid _ := hk
      replace ht : Hid _ := ht
      replace hn : Hid _ := hn
      replace hTok : Hid _ := hTok
      go_enter Tryz.func185, Tryz.ntmps185
      go_wp2_with (first
        | (have hh := hC.out _ hb2; go_at_call 190; (with_reducible refine Calls.mono hh ?_); clear hh; rintro e w2 ⟨ho2, _, rfl, ⟨sp, sn, sc, rfl, hx⟩, hr2⟩; have hx2 := ExAt.weak (c := w.heap.size + 1) (by have := hb2.size; rw [show (w.alloc (.cells #[.int .i64 0, .slice none 0 0, .string ⟨#[]⟩, .string ⟨#[]⟩, .int .i64 0, .bool false, .int .i64 0, .string ⟨#[]⟩, .slice none 0 0] 39)).heap.size = w.heap.size + 1 from (by simp)] at this; exact this) x _ hx; have hW := (only_of_below (B := B) hb2).trans ho2; clear hx ho2; obtain ⟨yf, yl, yn, y0, y1, y2, y3, y4, y5, y6, y7, y8⟩ := res_cells hW hlt; replace hW : Hid _ := hW; replace hx2 : Hid _ := hx2; replace hr2 : Hid _ := hr2)
        | (have hh := hN.out (); go_at_call 91; (with_reducible refine Calls.mono hh ?_); clear hh; rintro e w1 ⟨rfl, hb1⟩; have hb2 := hTok.out _ hb1))
      exact ret_ex (.inl rfl) Tryz.results185 rfl rfl hW.out hlt hx2.out hr2.out rfl rfl rfl rfl rfl rfl rfl rfl rfl
end Go.Proofs.YtkcnpbckmdgfnaaGreatDoor
