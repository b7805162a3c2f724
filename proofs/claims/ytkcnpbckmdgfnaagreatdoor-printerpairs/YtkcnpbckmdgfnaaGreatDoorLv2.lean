/-
  The readers of sums, products, of AND and OR.
-/
import Derived.Test.YtkcnpbckmdgfnaaGreatDoorLev
namespace Go.Proofs.YtkcnpbckmdgfnaaGreatDoor
open Go.ChangeShapes Go.WideShapes Go.ChangeAt Go.RowKit
set_option linter.unusedSimpArgs false
set_option linter.unusedVariables false

theorem enters25 : Enters 31 := enters_of Tryz.func31 (by kernel_rfl) rfl
theorem enters53 : Enters 71 := enters_of Tryz.func71 (by kernel_rfl) rfl
theorem enters74 : Enters 96 := enters_of Tryz.func96 (by kernel_rfl) rfl
theorem enters77 : Enters 99 := enters_of Tryz.func99 (by kernel_rfl) rfl
theorem enters131 : Enters 168 := enters_of Tryz.func168 (by kernel_rfl) rfl
theorem enters141 : Enters 179 := enters_of Tryz.func179 (by kernel_rfl) rfl
theorem enters160 : Enters 191 := enters_of Tryz.func191 (by kernel_rfl) rfl

theorem opsM_ne : ∀ i, i < opsM.length → (opsM.getD i ([], 0)).2 ≠ 0 := by decide
theorem opsM_at (w : World) (B : Nat) (hB : B < w.heap.size) : OpsAt (w.alloc (.cells #[.string ⟨#[42]⟩, .int .i64 14, .string ⟨#[47]⟩, .int .i64 15, .string ⟨#[37]⟩, .int .i64 16] 131)) B (some ⟨w.heap.size, 0, none⟩) opsM := by
  refine .inr ⟨w.heap.size, 0, rfl, hB, fun i hi => ?_⟩
  have hi' : i < 3 := hi
  obtain rfl | rfl | rfl : i = 0 ∨ i = 1 ∨ i = 2 := by omega
  all_goals exact ⟨alloc_cell w rfl, alloc_cell w rfl⟩
set_option maxRecDepth 100000 in
set_option maxHeartbeats 1000000 in
theorem prod_any {B E n : Nat} {p : PR} (hp : Reads B E 179 p n) (hsh : Sh p) : Reads B E 168 (levelP opsM p) n := by
  intro w d L hl h
  have hlt := h.lt
  have hb4 : Below w.heap.size w ((((w.alloc (.cells #[.int .i64 0, .slice none 0 0, .string ⟨#[]⟩, .string ⟨#[]⟩, .int .i64 0, .bool false, .int .i64 0, .string ⟨#[]⟩, .slice none 0 0] 39)).alloc (.cells #[.string ⟨#[42]⟩, .int .i64 14, .string ⟨#[47]⟩, .int .i64 15, .string ⟨#[37]⟩, .int .i64 16] 131)).alloc (.cells #[rp B] 75)).alloc (.cells #[.slice (some ⟨w.heap.size + 1, 0, none⟩) 3 3] 156)) := (((Below.refl _ _).alloc (Nat.le_refl _) _).alloc (by first | (simp; done) | (simp; omega)) _).alloc (by first | (simp; done) | (simp; omega)) _ |>.alloc (by first | (simp; done) | (simp; omega)) _
  have hb0 : Below (w.alloc (.cells #[.int .i64 0, .slice none 0 0, .string ⟨#[]⟩, .string ⟨#[]⟩, .int .i64 0, .bool false, .int .i64 0, .string ⟨#[]⟩, .slice none 0 0] 39)).heap.size (w.alloc (.cells #[.int .i64 0, .slice none 0 0, .string ⟨#[]⟩, .string ⟨#[]⟩, .int .i64 0, .bool false, .int .i64 0, .string ⟨#[]⟩, .slice none 0 0] 39)) ((((w.alloc (.cells #[.int .i64 0, .slice none 0 0, .string ⟨#[]⟩, .string ⟨#[]⟩, .int .i64 0, .bool false, .int .i64 0, .string ⟨#[]⟩, .slice none 0 0] 39)).alloc (.cells #[.string ⟨#[42]⟩, .int .i64 14, .string ⟨#[47]⟩, .int .i64 15, .string ⟨#[37]⟩, .int .i64 16] 131)).alloc (.cells #[rp B] 75)).alloc (.cells #[.slice (some ⟨w.heap.size + 1, 0, none⟩) 3 3] 156)) := ((Below.refl _ _).alloc (Nat.le_refl _) _).alloc (by first | (simp; done) | (simp; omega)) _ |>.alloc (by first | (simp; done) | (simp; omega)) _
  have hS : OpsAt ((((w.alloc (.cells #[.int .i64 0, .slice none 0 0, .string ⟨#[]⟩, .string ⟨#[]⟩, .int .i64 0, .bool false, .int .i64 0, .string ⟨#[]⟩, .slice none 0 0] 39)).alloc (.cells #[.string ⟨#[42]⟩, .int .i64 14, .string ⟨#[47]⟩, .int .i64 15, .string ⟨#[37]⟩, .int .i64 16] 131)).alloc (.cells #[rp B] 75)).alloc (.cells #[.slice (some ⟨w.heap.size + 1, 0, none⟩) 3 3] 156)) B (some ⟨w.heap.size + 1, 0, none⟩) opsM := by
    have h1 := opsM_at (w.alloc (.cells #[.int .i64 0, .slice none 0 0, .string ⟨#[]⟩, .string ⟨#[]⟩, .int .i64 0, .bool false, .int .i64 0, .string ⟨#[]⟩, .slice none 0 0] 39)) B (by simp; omega)
    have h2 : OpsAt ((w.alloc (.cells #[.int .i64 0, .slice none 0 0, .string ⟨#[]⟩, .string ⟨#[]⟩, .int .i64 0, .bool false, .int .i64 0, .string ⟨#[]⟩, .slice none 0 0] 39)).alloc (.cells #[.string ⟨#[42]⟩, .int .i64 14, .string ⟨#[47]⟩, .int .i64 15, .string ⟨#[37]⟩, .int .i64 16] 131)) B (some ⟨w.heap.size + 1, 0, none⟩) opsM := by simpa using h1
    exact (h2.only (only_of_below (below_new _ _))).only (only_of_below (below_new _ _))
  have k2 : World.cell? ((((w.alloc (.cells #[.int .i64 0, .slice none 0 0, .string ⟨#[]⟩, .string ⟨#[]⟩, .int .i64 0, .bool false, .int .i64 0, .string ⟨#[]⟩, .slice none 0 0] 39)).alloc (.cells #[.string ⟨#[42]⟩, .int .i64 14, .string ⟨#[47]⟩, .int .i64 15, .string ⟨#[37]⟩, .int .i64 16] 131)).alloc (.cells #[rp B] 75)).alloc (.cells #[.slice (some ⟨w.heap.size + 1, 0, none⟩) 3 3] 156)) ⟨w.heap.size + 3, 0, none⟩ = some (.slice (some ⟨w.heap.size + 1, 0, none⟩) 3 3) := by
    have := alloc_cell (i := 0) (t := 156) (cs := #[.slice (some ⟨w.heap.size + 1, 0, none⟩) 3 3]) (((w.alloc (.cells #[.int .i64 0, .slice none 0 0, .string ⟨#[]⟩, .string ⟨#[]⟩, .int .i64 0, .bool false, .int .i64 0, .string ⟨#[]⟩, .slice none 0 0] 39)).alloc (.cells #[.string ⟨#[42]⟩, .int .i64 14, .string ⟨#[47]⟩, .int .i64 15, .string ⟨#[37]⟩, .int .i64 16] 131)).alloc (.cells #[rp B] 75)) rfl
    simpa using this
  have k1 : World.cell? ((((w.alloc (.cells #[.int .i64 0, .slice none 0 0, .string ⟨#[]⟩, .string ⟨#[]⟩, .int .i64 0, .bool false, .int .i64 0, .string ⟨#[]⟩, .slice none 0 0] 39)).alloc (.cells #[.string ⟨#[42]⟩, .int .i64 14, .string ⟨#[47]⟩, .int .i64 15, .string ⟨#[37]⟩, .int .i64 16] 131)).alloc (.cells #[rp B] 75)).alloc (.cells #[.slice (some ⟨w.heap.size + 1, 0, none⟩) 3 3] 156)) ⟨w.heap.size + 2, 0, none⟩ = some (rp B) := by
    have := alloc_cell (i := 0) (t := 75) (cs := #[rp B]) ((w.alloc (.cells #[.int .i64 0, .slice none 0 0, .string ⟨#[]⟩, .string ⟨#[]⟩, .int .i64 0, .bool false, .int .i64 0, .string ⟨#[]⟩, .slice none 0 0] 39)).alloc (.cells #[.string ⟨#[42]⟩, .int .i64 14, .string ⟨#[47]⟩, .int .i64 15, .string ⟨#[37]⟩, .int .i64 16] 131)) rfl
    have h3 := cell_keep (.cells #[.slice (some ⟨w.heap.size + 1, 0, none⟩) 3 3] 156) this
    simpa using h3
  have hC := fun b1 b2 (e1 : b1 = w.heap.size + 2) (e2 : b2 = w.heap.size + 3) => level1_any enters141 hp hsh opsM (by decide) opsM_ne (h.below hb4) hl b1 b2 (some ⟨w.heap.size + 1, 0, none⟩) 3 (by omega) (by omega) (by subst e1; exact k1) (by subst e2; exact k2) hS
  have hne := enters74
  have hmf : ∀ (fn : Fn) (first cap : Array Value) (w : World), (Instr.makeFunc fn first cap).run Tryz.prog w = .ok (.func fn first cap) w := fun _ _ _ _ => rfl
  unfold Enters at hne
  clear hS k1 k2 hp h
  cases hX : levelP opsM p d L with
  | bad a y =>
    rw [hX] at hC
    replace hC : Hid _ := hC
    replace hb4 : Hid _ := hb4
    replace hb0 : Hid _ := hb0
    replace hX : Hid _ := hX
    go_enter Tryz.func168, Tryz.ntmps168
    go_wp2_with (first
      | (go_at_call 70; refine Calls.mono (level_any _ _ _ _ _) ?_; rintro e w1 ⟨rfl, rfl⟩)
      | (have hh := hC.out (w.heap.size + 1 + 1) (w.heap.size + 1 + 1 + 1) rfl rfl; (go_at_call 96); (with_reducible refine Calls.mono hh ?_); clear hh; rintro e w2 ⟨ho2, rfl⟩))
    exact end_bad rfl ((only_of_below hb4.out).trans ho2)
  | ok x M =>
    rw [hX] at hC
    replace hC : Hid _ := hC
    replace hb4 : Hid _ := hb4
    replace hb0 : Hid _ := hb0
    replace hX : Hid _ := hX
    go_enter Tryz.func168, Tryz.ntmps168
    go_wp2_with (first
      | (go_at_call 70; refine Calls.mono (level_any _ _ _ _ _) ?_; rintro e w1 ⟨rfl, rfl⟩)
      | (have hh := hC.out (w.heap.size + 1 + 1) (w.heap.size + 1 + 1 + 1) rfl rfl; (go_at_call 96); (with_reducible refine Calls.mono hh ?_); clear hh; rintro e w2 ⟨ho2, _, rfl, ⟨sp, sn, sc, rfl, hx⟩, hr2⟩; have hW := (only_of_below (B := B) hb0.out).trans ho2; have hx2 := ExAt.weak (c := w.heap.size + 1) (by first | (simp; done) | (simp; omega)) x _ hx; clear hx ho2; obtain ⟨yf, yl, yn, y0, y1, y2, y3, y4, y5, y6, y7, y8⟩ := res_cells hW hlt; replace hW : Hid _ := hW; replace hx2 : Hid _ := hx2; replace hr2 : Hid _ := hr2))
    exact ret_ex (.inl rfl) Tryz.results168 rfl rfl hW.out hlt hx2.out hr2.out rfl rfl rfl rfl rfl rfl rfl rfl rfl

theorem opsS_ne : ∀ i, i < opsS.length → (opsS.getD i ([], 0)).2 ≠ 0 := by decide
theorem opsS_at (w : World) (B : Nat) (hB : B < w.heap.size) : OpsAt (w.alloc (.cells #[.string ⟨#[43]⟩, .int .i64 12, .string ⟨#[45]⟩, .int .i64 13] 131)) B (some ⟨w.heap.size, 0, none⟩) opsS := by
  refine .inr ⟨w.heap.size, 0, rfl, hB, fun i hi => ?_⟩
  have hi' : i < 2 := hi
  obtain rfl | rfl : i = 0 ∨ i = 1 := by omega
  all_goals exact ⟨alloc_cell w rfl, alloc_cell w rfl⟩
set_option maxRecDepth 100000 in
set_option maxHeartbeats 1000000 in
theorem sum_any {B E n : Nat} {p : PR} (hp : Reads B E 168 p n) (hsh : Sh p) : Reads B E 154 (levelP opsS p) n := by
  intro w d L hl h
  have hlt := h.lt
  have hb4 : Below w.heap.size w ((((w.alloc (.cells #[.int .i64 0, .slice none 0 0, .string ⟨#[]⟩, .string ⟨#[]⟩, .int .i64 0, .bool false, .int .i64 0, .string ⟨#[]⟩, .slice none 0 0] 39)).alloc (.cells #[.string ⟨#[43]⟩, .int .i64 12, .string ⟨#[45]⟩, .int .i64 13] 131)).alloc (.cells #[rp B] 75)).alloc (.cells #[.slice (some ⟨w.heap.size + 1, 0, none⟩) 2 2] 156)) := (((Below.refl _ _).alloc (Nat.le_refl _) _).alloc (by first | (simp; done) | (simp; omega)) _).alloc (by first | (simp; done) | (simp; omega)) _ |>.alloc (by first | (simp; done) | (simp; omega)) _
  have hb0 : Below (w.alloc (.cells #[.int .i64 0, .slice none 0 0, .string ⟨#[]⟩, .string ⟨#[]⟩, .int .i64 0, .bool false, .int .i64 0, .string ⟨#[]⟩, .slice none 0 0] 39)).heap.size (w.alloc (.cells #[.int .i64 0, .slice none 0 0, .string ⟨#[]⟩, .string ⟨#[]⟩, .int .i64 0, .bool false, .int .i64 0, .string ⟨#[]⟩, .slice none 0 0] 39)) ((((w.alloc (.cells #[.int .i64 0, .slice none 0 0, .string ⟨#[]⟩, .string ⟨#[]⟩, .int .i64 0, .bool false, .int .i64 0, .string ⟨#[]⟩, .slice none 0 0] 39)).alloc (.cells #[.string ⟨#[43]⟩, .int .i64 12, .string ⟨#[45]⟩, .int .i64 13] 131)).alloc (.cells #[rp B] 75)).alloc (.cells #[.slice (some ⟨w.heap.size + 1, 0, none⟩) 2 2] 156)) := ((Below.refl _ _).alloc (Nat.le_refl _) _).alloc (by first | (simp; done) | (simp; omega)) _ |>.alloc (by first | (simp; done) | (simp; omega)) _
  have hS : OpsAt ((((w.alloc (.cells #[.int .i64 0, .slice none 0 0, .string ⟨#[]⟩, .string ⟨#[]⟩, .int .i64 0, .bool false, .int .i64 0, .string ⟨#[]⟩, .slice none 0 0] 39)).alloc (.cells #[.string ⟨#[43]⟩, .int .i64 12, .string ⟨#[45]⟩, .int .i64 13] 131)).alloc (.cells #[rp B] 75)).alloc (.cells #[.slice (some ⟨w.heap.size + 1, 0, none⟩) 2 2] 156)) B (some ⟨w.heap.size + 1, 0, none⟩) opsS := by
    have h1 := opsS_at (w.alloc (.cells #[.int .i64 0, .slice none 0 0, .string ⟨#[]⟩, .string ⟨#[]⟩, .int .i64 0, .bool false, .int .i64 0, .string ⟨#[]⟩, .slice none 0 0] 39)) B (by simp; omega)
    have h2 : OpsAt ((w.alloc (.cells #[.int .i64 0, .slice none 0 0, .string ⟨#[]⟩, .string ⟨#[]⟩, .int .i64 0, .bool false, .int .i64 0, .string ⟨#[]⟩, .slice none 0 0] 39)).alloc (.cells #[.string ⟨#[43]⟩, .int .i64 12, .string ⟨#[45]⟩, .int .i64 13] 131)) B (some ⟨w.heap.size + 1, 0, none⟩) opsS := by simpa using h1
    exact (h2.only (only_of_below (below_new _ _))).only (only_of_below (below_new _ _))
  have k2 : World.cell? ((((w.alloc (.cells #[.int .i64 0, .slice none 0 0, .string ⟨#[]⟩, .string ⟨#[]⟩, .int .i64 0, .bool false, .int .i64 0, .string ⟨#[]⟩, .slice none 0 0] 39)).alloc (.cells #[.string ⟨#[43]⟩, .int .i64 12, .string ⟨#[45]⟩, .int .i64 13] 131)).alloc (.cells #[rp B] 75)).alloc (.cells #[.slice (some ⟨w.heap.size + 1, 0, none⟩) 2 2] 156)) ⟨w.heap.size + 3, 0, none⟩ = some (.slice (some ⟨w.heap.size + 1, 0, none⟩) 2 2) := by
    have := alloc_cell (i := 0) (t := 156) (cs := #[.slice (some ⟨w.heap.size + 1, 0, none⟩) 2 2]) (((w.alloc (.cells #[.int .i64 0, .slice none 0 0, .string ⟨#[]⟩, .string ⟨#[]⟩, .int .i64 0, .bool false, .int .i64 0, .string ⟨#[]⟩, .slice none 0 0] 39)).alloc (.cells #[.string ⟨#[43]⟩, .int .i64 12, .string ⟨#[45]⟩, .int .i64 13] 131)).alloc (.cells #[rp B] 75)) rfl
    simpa using this
  have k1 : World.cell? ((((w.alloc (.cells #[.int .i64 0, .slice none 0 0, .string ⟨#[]⟩, .string ⟨#[]⟩, .int .i64 0, .bool false, .int .i64 0, .string ⟨#[]⟩, .slice none 0 0] 39)).alloc (.cells #[.string ⟨#[43]⟩, .int .i64 12, .string ⟨#[45]⟩, .int .i64 13] 131)).alloc (.cells #[rp B] 75)).alloc (.cells #[.slice (some ⟨w.heap.size + 1, 0, none⟩) 2 2] 156)) ⟨w.heap.size + 2, 0, none⟩ = some (rp B) := by
    have := alloc_cell (i := 0) (t := 75) (cs := #[rp B]) ((w.alloc (.cells #[.int .i64 0, .slice none 0 0, .string ⟨#[]⟩, .string ⟨#[]⟩, .int .i64 0, .bool false, .int .i64 0, .string ⟨#[]⟩, .slice none 0 0] 39)).alloc (.cells #[.string ⟨#[43]⟩, .int .i64 12, .string ⟨#[45]⟩, .int .i64 13] 131)) rfl
    have h3 := cell_keep (.cells #[.slice (some ⟨w.heap.size + 1, 0, none⟩) 2 2] 156) this
    simpa using h3
  have hC := fun b1 b2 (e1 : b1 = w.heap.size + 2) (e2 : b2 = w.heap.size + 3) => level1_any enters131 hp hsh opsS (by decide) opsS_ne (h.below hb4) hl b1 b2 (some ⟨w.heap.size + 1, 0, none⟩) 2 (by omega) (by omega) (by subst e1; exact k1) (by subst e2; exact k2) hS
  have hne := enters74
  have hmf : ∀ (fn : Fn) (first cap : Array Value) (w : World), (Instr.makeFunc fn first cap).run Tryz.prog w = .ok (.func fn first cap) w := fun _ _ _ _ => rfl
  unfold Enters at hne
  clear hS k1 k2 hp h
  cases hX : levelP opsS p d L with
  | bad a y =>
    rw [hX] at hC
    replace hC : Hid _ := hC
    replace hb4 : Hid _ := hb4
    replace hb0 : Hid _ := hb0
    replace hX : Hid _ := hX
    go_enter Tryz.func154, Tryz.ntmps154
    go_wp2_with (first
      | (go_at_call 70; refine Calls.mono (level_any _ _ _ _ _) ?_; rintro e w1 ⟨rfl, rfl⟩)
      | (have hh := hC.out (w.heap.size + 1 + 1) (w.heap.size + 1 + 1 + 1) rfl rfl; (go_at_call 96); (with_reducible refine Calls.mono hh ?_); clear hh; rintro e w2 ⟨ho2, rfl⟩))
    exact end_bad rfl ((only_of_below hb4.out).trans ho2)
  | ok x M =>
    rw [hX] at hC
    replace hC : Hid _ := hC
    replace hb4 : Hid _ := hb4
    replace hb0 : Hid _ := hb0
    replace hX : Hid _ := hX
    go_enter Tryz.func154, Tryz.ntmps154
    go_wp2_with (first
      | (go_at_call 70; refine Calls.mono (level_any _ _ _ _ _) ?_; rintro e w1 ⟨rfl, rfl⟩)
      | (have hh := hC.out (w.heap.size + 1 + 1) (w.heap.size + 1 + 1 + 1) rfl rfl; (go_at_call 96); (with_reducible refine Calls.mono hh ?_); clear hh; rintro e w2 ⟨ho2, _, rfl, ⟨sp, sn, sc, rfl, hx⟩, hr2⟩; have hW := (only_of_below (B := B) hb0.out).trans ho2; have hx2 := ExAt.weak (c := w.heap.size + 1) (by first | (simp; done) | (simp; omega)) x _ hx; clear hx ho2; obtain ⟨yf, yl, yn, y0, y1, y2, y3, y4, y5, y6, y7, y8⟩ := res_cells hW hlt; replace hW : Hid _ := hW; replace hx2 : Hid _ := hx2; replace hr2 : Hid _ := hr2))
    exact ret_ex (.inl rfl) Tryz.results154 rfl rfl hW.out hlt hx2.out hr2.out rfl rfl rfl rfl rfl rfl rfl rfl rfl

theorem opsA_ne : ∀ i, i < opsA.length → (opsA.getD i ([], 0)).2 ≠ 0 := by decide
theorem opsA_at (w : World) (B : Nat) (hB : B < w.heap.size) : OpsAt (w.alloc (.cells #[.string ⟨#[65, 78, 68]⟩, .int .i64 5] 131)) B (some ⟨w.heap.size, 0, none⟩) opsA := by
  refine .inr ⟨w.heap.size, 0, rfl, hB, fun i hi => ?_⟩
  have hi' : i < 1 := hi
  obtain rfl : i = 0 := by omega
  all_goals exact ⟨alloc_cell w rfl, alloc_cell w rfl⟩
set_option maxRecDepth 100000 in
set_option maxHeartbeats 1000000 in
theorem both_any {B E n : Nat} {p : PR} (hp : Reads B E 99 p n) (hsh : Sh p) : Reads B E 71 (levelP opsA p) n := by
  intro w d L hl h
  have hlt := h.lt
  have hb4 : Below w.heap.size w ((((w.alloc (.cells #[.int .i64 0, .slice none 0 0, .string ⟨#[]⟩, .string ⟨#[]⟩, .int .i64 0, .bool false, .int .i64 0, .string ⟨#[]⟩, .slice none 0 0] 39)).alloc (.cells #[.string ⟨#[65, 78, 68]⟩, .int .i64 5] 131)).alloc (.cells #[rp B] 75)).alloc (.cells #[.slice (some ⟨w.heap.size + 1, 0, none⟩) 1 1] 156)) := (((Below.refl _ _).alloc (Nat.le_refl _) _).alloc (by first | (simp; done) | (simp; omega)) _).alloc (by first | (simp; done) | (simp; omega)) _ |>.alloc (by first | (simp; done) | (simp; omega)) _
  have hb0 : Below (w.alloc (.cells #[.int .i64 0, .slice none 0 0, .string ⟨#[]⟩, .string ⟨#[]⟩, .int .i64 0, .bool false, .int .i64 0, .string ⟨#[]⟩, .slice none 0 0] 39)).heap.size (w.alloc (.cells #[.int .i64 0, .slice none 0 0, .string ⟨#[]⟩, .string ⟨#[]⟩, .int .i64 0, .bool false, .int .i64 0, .string ⟨#[]⟩, .slice none 0 0] 39)) ((((w.alloc (.cells #[.int .i64 0, .slice none 0 0, .string ⟨#[]⟩, .string ⟨#[]⟩, .int .i64 0, .bool false, .int .i64 0, .string ⟨#[]⟩, .slice none 0 0] 39)).alloc (.cells #[.string ⟨#[65, 78, 68]⟩, .int .i64 5] 131)).alloc (.cells #[rp B] 75)).alloc (.cells #[.slice (some ⟨w.heap.size + 1, 0, none⟩) 1 1] 156)) := ((Below.refl _ _).alloc (Nat.le_refl _) _).alloc (by first | (simp; done) | (simp; omega)) _ |>.alloc (by first | (simp; done) | (simp; omega)) _
  have hS : OpsAt ((((w.alloc (.cells #[.int .i64 0, .slice none 0 0, .string ⟨#[]⟩, .string ⟨#[]⟩, .int .i64 0, .bool false, .int .i64 0, .string ⟨#[]⟩, .slice none 0 0] 39)).alloc (.cells #[.string ⟨#[65, 78, 68]⟩, .int .i64 5] 131)).alloc (.cells #[rp B] 75)).alloc (.cells #[.slice (some ⟨w.heap.size + 1, 0, none⟩) 1 1] 156)) B (some ⟨w.heap.size + 1, 0, none⟩) opsA := by
    have h1 := opsA_at (w.alloc (.cells #[.int .i64 0, .slice none 0 0, .string ⟨#[]⟩, .string ⟨#[]⟩, .int .i64 0, .bool false, .int .i64 0, .string ⟨#[]⟩, .slice none 0 0] 39)) B (by simp; omega)
    have h2 : OpsAt ((w.alloc (.cells #[.int .i64 0, .slice none 0 0, .string ⟨#[]⟩, .string ⟨#[]⟩, .int .i64 0, .bool false, .int .i64 0, .string ⟨#[]⟩, .slice none 0 0] 39)).alloc (.cells #[.string ⟨#[65, 78, 68]⟩, .int .i64 5] 131)) B (some ⟨w.heap.size + 1, 0, none⟩) opsA := by simpa using h1
    exact (h2.only (only_of_below (below_new _ _))).only (only_of_below (below_new _ _))
  have k2 : World.cell? ((((w.alloc (.cells #[.int .i64 0, .slice none 0 0, .string ⟨#[]⟩, .string ⟨#[]⟩, .int .i64 0, .bool false, .int .i64 0, .string ⟨#[]⟩, .slice none 0 0] 39)).alloc (.cells #[.string ⟨#[65, 78, 68]⟩, .int .i64 5] 131)).alloc (.cells #[rp B] 75)).alloc (.cells #[.slice (some ⟨w.heap.size + 1, 0, none⟩) 1 1] 156)) ⟨w.heap.size + 3, 0, none⟩ = some (.slice (some ⟨w.heap.size + 1, 0, none⟩) 1 1) := by
    have := alloc_cell (i := 0) (t := 156) (cs := #[.slice (some ⟨w.heap.size + 1, 0, none⟩) 1 1]) (((w.alloc (.cells #[.int .i64 0, .slice none 0 0, .string ⟨#[]⟩, .string ⟨#[]⟩, .int .i64 0, .bool false, .int .i64 0, .string ⟨#[]⟩, .slice none 0 0] 39)).alloc (.cells #[.string ⟨#[65, 78, 68]⟩, .int .i64 5] 131)).alloc (.cells #[rp B] 75)) rfl
    simpa using this
  have k1 : World.cell? ((((w.alloc (.cells #[.int .i64 0, .slice none 0 0, .string ⟨#[]⟩, .string ⟨#[]⟩, .int .i64 0, .bool false, .int .i64 0, .string ⟨#[]⟩, .slice none 0 0] 39)).alloc (.cells #[.string ⟨#[65, 78, 68]⟩, .int .i64 5] 131)).alloc (.cells #[rp B] 75)).alloc (.cells #[.slice (some ⟨w.heap.size + 1, 0, none⟩) 1 1] 156)) ⟨w.heap.size + 2, 0, none⟩ = some (rp B) := by
    have := alloc_cell (i := 0) (t := 75) (cs := #[rp B]) ((w.alloc (.cells #[.int .i64 0, .slice none 0 0, .string ⟨#[]⟩, .string ⟨#[]⟩, .int .i64 0, .bool false, .int .i64 0, .string ⟨#[]⟩, .slice none 0 0] 39)).alloc (.cells #[.string ⟨#[65, 78, 68]⟩, .int .i64 5] 131)) rfl
    have h3 := cell_keep (.cells #[.slice (some ⟨w.heap.size + 1, 0, none⟩) 1 1] 156) this
    simpa using h3
  have hC := fun b1 b2 (e1 : b1 = w.heap.size + 2) (e2 : b2 = w.heap.size + 3) => level1_any enters77 hp hsh opsA (by decide) opsA_ne (h.below hb4) hl b1 b2 (some ⟨w.heap.size + 1, 0, none⟩) 1 (by omega) (by omega) (by subst e1; exact k1) (by subst e2; exact k2) hS
  have hne := enters74
  have hmf : ∀ (fn : Fn) (first cap : Array Value) (w : World), (Instr.makeFunc fn first cap).run Tryz.prog w = .ok (.func fn first cap) w := fun _ _ _ _ => rfl
  unfold Enters at hne
  clear hS k1 k2 hp h
  cases hX : levelP opsA p d L with
  | bad a y =>
    rw [hX] at hC
    replace hC : Hid _ := hC
    replace hb4 : Hid _ := hb4
    replace hb0 : Hid _ := hb0
    replace hX : Hid _ := hX
    go_enter Tryz.func71, Tryz.ntmps71
    go_wp2_with (first
      | (go_at_call 70; refine Calls.mono (level_any _ _ _ _ _) ?_; rintro e w1 ⟨rfl, rfl⟩)
      | (have hh := hC.out (w.heap.size + 1 + 1) (w.heap.size + 1 + 1 + 1) rfl rfl; (go_at_call 96); (with_reducible refine Calls.mono hh ?_); clear hh; rintro e w2 ⟨ho2, rfl⟩))
    exact end_bad rfl ((only_of_below hb4.out).trans ho2)
  | ok x M =>
    rw [hX] at hC
    replace hC : Hid _ := hC
    replace hb4 : Hid _ := hb4
    replace hb0 : Hid _ := hb0
    replace hX : Hid _ := hX
    go_enter Tryz.func71, Tryz.ntmps71
    go_wp2_with (first
      | (go_at_call 70; refine Calls.mono (level_any _ _ _ _ _) ?_; rintro e w1 ⟨rfl, rfl⟩)
      | (have hh := hC.out (w.heap.size + 1 + 1) (w.heap.size + 1 + 1 + 1) rfl rfl; (go_at_call 96); (with_reducible refine Calls.mono hh ?_); clear hh; rintro e w2 ⟨ho2, _, rfl, ⟨sp, sn, sc, rfl, hx⟩, hr2⟩; have hW := (only_of_below (B := B) hb0.out).trans ho2; have hx2 := ExAt.weak (c := w.heap.size + 1) (by first | (simp; done) | (simp; omega)) x _ hx; clear hx ho2; obtain ⟨yf, yl, yn, y0, y1, y2, y3, y4, y5, y6, y7, y8⟩ := res_cells hW hlt; replace hW : Hid _ := hW; replace hx2 : Hid _ := hx2; replace hr2 : Hid _ := hr2))
    exact ret_ex (.inl rfl) Tryz.results71 rfl rfl hW.out hlt hx2.out hr2.out rfl rfl rfl rfl rfl rfl rfl rfl rfl

theorem opsO_ne : ∀ i, i < opsO.length → (opsO.getD i ([], 0)).2 ≠ 0 := by decide
theorem opsO_at (w : World) (B : Nat) (hB : B < w.heap.size) : OpsAt (w.alloc (.cells #[.string ⟨#[79, 82]⟩, .int .i64 4] 131)) B (some ⟨w.heap.size, 0, none⟩) opsO := by
  refine .inr ⟨w.heap.size, 0, rfl, hB, fun i hi => ?_⟩
  have hi' : i < 1 := hi
  obtain rfl : i = 0 := by omega
  all_goals exact ⟨alloc_cell w rfl, alloc_cell w rfl⟩
set_option maxRecDepth 100000 in
set_option maxHeartbeats 1000000 in
theorem expr_any {B E n : Nat} {p : PR} (hp : Reads B E 71 p n) (hsh : Sh p) : Reads B E 31 (levelP opsO p) n := by
  intro w d L hl h
  have hlt := h.lt
  have hb4 : Below w.heap.size w ((((w.alloc (.cells #[.int .i64 0, .slice none 0 0, .string ⟨#[]⟩, .string ⟨#[]⟩, .int .i64 0, .bool false, .int .i64 0, .string ⟨#[]⟩, .slice none 0 0] 39)).alloc (.cells #[.string ⟨#[79, 82]⟩, .int .i64 4] 131)).alloc (.cells #[rp B] 75)).alloc (.cells #[.slice (some ⟨w.heap.size + 1, 0, none⟩) 1 1] 156)) := (((Below.refl _ _).alloc (Nat.le_refl _) _).alloc (by first | (simp; done) | (simp; omega)) _).alloc (by first | (simp; done) | (simp; omega)) _ |>.alloc (by first | (simp; done) | (simp; omega)) _
  have hb0 : Below (w.alloc (.cells #[.int .i64 0, .slice none 0 0, .string ⟨#[]⟩, .string ⟨#[]⟩, .int .i64 0, .bool false, .int .i64 0, .string ⟨#[]⟩, .slice none 0 0] 39)).heap.size (w.alloc (.cells #[.int .i64 0, .slice none 0 0, .string ⟨#[]⟩, .string ⟨#[]⟩, .int .i64 0, .bool false, .int .i64 0, .string ⟨#[]⟩, .slice none 0 0] 39)) ((((w.alloc (.cells #[.int .i64 0, .slice none 0 0, .string ⟨#[]⟩, .string ⟨#[]⟩, .int .i64 0, .bool false, .int .i64 0, .string ⟨#[]⟩, .slice none 0 0] 39)).alloc (.cells #[.string ⟨#[79, 82]⟩, .int .i64 4] 131)).alloc (.cells #[rp B] 75)).alloc (.cells #[.slice (some ⟨w.heap.size + 1, 0, none⟩) 1 1] 156)) := ((Below.refl _ _).alloc (Nat.le_refl _) _).alloc (by first | (simp; done) | (simp; omega)) _ |>.alloc (by first | (simp; done) | (simp; omega)) _
  have hS : OpsAt ((((w.alloc (.cells #[.int .i64 0, .slice none 0 0, .string ⟨#[]⟩, .string ⟨#[]⟩, .int .i64 0, .bool false, .int .i64 0, .string ⟨#[]⟩, .slice none 0 0] 39)).alloc (.cells #[.string ⟨#[79, 82]⟩, .int .i64 4] 131)).alloc (.cells #[rp B] 75)).alloc (.cells #[.slice (some ⟨w.heap.size + 1, 0, none⟩) 1 1] 156)) B (some ⟨w.heap.size + 1, 0, none⟩) opsO := by
    have h1 := opsO_at (w.alloc (.cells #[.int .i64 0, .slice none 0 0, .string ⟨#[]⟩, .string ⟨#[]⟩, .int .i64 0, .bool false, .int .i64 0, .string ⟨#[]⟩, .slice none 0 0] 39)) B (by simp; omega)
    have h2 : OpsAt ((w.alloc (.cells #[.int .i64 0, .slice none 0 0, .string ⟨#[]⟩, .string ⟨#[]⟩, .int .i64 0, .bool false, .int .i64 0, .string ⟨#[]⟩, .slice none 0 0] 39)).alloc (.cells #[.string ⟨#[79, 82]⟩, .int .i64 4] 131)) B (some ⟨w.heap.size + 1, 0, none⟩) opsO := by simpa using h1
    exact (h2.only (only_of_below (below_new _ _))).only (only_of_below (below_new _ _))
  have k2 : World.cell? ((((w.alloc (.cells #[.int .i64 0, .slice none 0 0, .string ⟨#[]⟩, .string ⟨#[]⟩, .int .i64 0, .bool false, .int .i64 0, .string ⟨#[]⟩, .slice none 0 0] 39)).alloc (.cells #[.string ⟨#[79, 82]⟩, .int .i64 4] 131)).alloc (.cells #[rp B] 75)).alloc (.cells #[.slice (some ⟨w.heap.size + 1, 0, none⟩) 1 1] 156)) ⟨w.heap.size + 3, 0, none⟩ = some (.slice (some ⟨w.heap.size + 1, 0, none⟩) 1 1) := by
    have := alloc_cell (i := 0) (t := 156) (cs := #[.slice (some ⟨w.heap.size + 1, 0, none⟩) 1 1]) (((w.alloc (.cells #[.int .i64 0, .slice none 0 0, .string ⟨#[]⟩, .string ⟨#[]⟩, .int .i64 0, .bool false, .int .i64 0, .string ⟨#[]⟩, .slice none 0 0] 39)).alloc (.cells #[.string ⟨#[79, 82]⟩, .int .i64 4] 131)).alloc (.cells #[rp B] 75)) rfl
    simpa using this
  have k1 : World.cell? ((((w.alloc (.cells #[.int .i64 0, .slice none 0 0, .string ⟨#[]⟩, .string ⟨#[]⟩, .int .i64 0, .bool false, .int .i64 0, .string ⟨#[]⟩, .slice none 0 0] 39)).alloc (.cells #[.string ⟨#[79, 82]⟩, .int .i64 4] 131)).alloc (.cells #[rp B] 75)).alloc (.cells #[.slice (some ⟨w.heap.size + 1, 0, none⟩) 1 1] 156)) ⟨w.heap.size + 2, 0, none⟩ = some (rp B) := by
    have := alloc_cell (i := 0) (t := 75) (cs := #[rp B]) ((w.alloc (.cells #[.int .i64 0, .slice none 0 0, .string ⟨#[]⟩, .string ⟨#[]⟩, .int .i64 0, .bool false, .int .i64 0, .string ⟨#[]⟩, .slice none 0 0] 39)).alloc (.cells #[.string ⟨#[79, 82]⟩, .int .i64 4] 131)) rfl
    have h3 := cell_keep (.cells #[.slice (some ⟨w.heap.size + 1, 0, none⟩) 1 1] 156) this
    simpa using h3
  have hC := fun b1 b2 (e1 : b1 = w.heap.size + 2) (e2 : b2 = w.heap.size + 3) => level1_any enters53 hp hsh opsO (by decide) opsO_ne (h.below hb4) hl b1 b2 (some ⟨w.heap.size + 1, 0, none⟩) 1 (by omega) (by omega) (by subst e1; exact k1) (by subst e2; exact k2) hS
  have hne := enters74
  have hmf : ∀ (fn : Fn) (first cap : Array Value) (w : World), (Instr.makeFunc fn first cap).run Tryz.prog w = .ok (.func fn first cap) w := fun _ _ _ _ => rfl
  unfold Enters at hne
  clear hS k1 k2 hp h
  cases hX : levelP opsO p d L with
  | bad a y =>
    rw [hX] at hC
    replace hC : Hid _ := hC
    replace hb4 : Hid _ := hb4
    replace hb0 : Hid _ := hb0
    replace hX : Hid _ := hX
    go_enter Tryz.func31, Tryz.ntmps31
    go_wp2_with (first
      | (go_at_call 70; refine Calls.mono (level_any _ _ _ _ _) ?_; rintro e w1 ⟨rfl, rfl⟩)
      | (have hh := hC.out (w.heap.size + 1 + 1) (w.heap.size + 1 + 1 + 1) rfl rfl; (go_at_call 96); (with_reducible refine Calls.mono hh ?_); clear hh; rintro e w2 ⟨ho2, rfl⟩))
    exact end_bad rfl ((only_of_below hb4.out).trans ho2)
  | ok x M =>
    rw [hX] at hC
    replace hC : Hid _ := hC
    replace hb4 : Hid _ := hb4
    replace hb0 : Hid _ := hb0
    replace hX : Hid _ := hX
    go_enter Tryz.func31, Tryz.ntmps31
    go_wp2_with (first
      | (go_at_call 70; refine Calls.mono (level_any _ _ _ _ _) ?_; rintro e w1 ⟨rfl, rfl⟩)
      | (have hh := hC.out (w.heap.size + 1 + 1) (w.heap.size + 1 + 1 + 1) rfl rfl; (go_at_call 96); (with_reducible refine Calls.mono hh ?_); clear hh; rintro e w2 ⟨ho2, _, rfl, ⟨sp, sn, sc, rfl, hx⟩, hr2⟩; have hW := (only_of_below (B := B) hb0.out).trans ho2; have hx2 := ExAt.weak (c := w.heap.size + 1) (by first | (simp; done) | (simp; omega)) x _ hx; clear hx ho2; obtain ⟨yf, yl, yn, y0, y1, y2, y3, y4, y5, y6, y7, y8⟩ := res_cells hW hlt; replace hW : Hid _ := hW; replace hx2 : Hid _ := hx2; replace hr2 : Hid _ := hr2))
    exact ret_ex (.inl rfl) Tryz.results31 rfl rfl hW.out hlt hx2.out hr2.out rfl rfl rfl rfl rfl rfl rfl rfl rfl
end Go.Proofs.YtkcnpbckmdgfnaaGreatDoor
