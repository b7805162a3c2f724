/-
  A name, a number that must be next; a name that may.
-/
import Derived.Test.YtkcnpbckmdgfnaaGreatDoorRdp
namespace Go.Proofs.YtkcnpbckmdgfnaaGreatDoor
open Go.ChangeShapes Go.WideShapes Go.ChangeAt Go.RowKit
set_option linter.unusedSimpArgs false
set_option linter.unusedVariables false

def IsTxt (x : List UInt8) (v : Value) (_ : World) : Prop := v = .string (txt x)
def IsInt (x : Int) (v : Value) (_ : World) : Prop := v = .int .i64 x
theorem kind_ne {L : List Tk} {k : Int} (h : kindL L = k) (hk : k ≠ 0) : L ≠ [] := fun e => by rw [e] at h; exact hk h.symm
theorem take_ne {w : World} {B E d : Nat} {L : List Tk} (h : Rd w B E d L) (hl : L ≠ []) :
    Calls Tryz.prog 89 #[rp B] w fun e w' => e = .returned (.tuple #[]) ∧ Only (· = B) w w' ∧ Rd w' B E d L.tail := by
  cases L with
  | nil => exact absurd rfl hl
  | cons t M => exact take_any h
theorem next_kind {w : World} {B E d : Nat} {L : List Tk} (h : Rd w B E d L) :
    Calls Tryz.prog 91 #[rp B] w fun e w' => e = .returned (.agg #[.int .i64 (kindL L), .string (txt (headL E L).t), .int .i64 (headL E L).n, .int .i64 (placeL E L)]) ∧ Below w.heap.size w w' := by
  have := next_any h
  unfold tkV tokV at this
  rw [headL_k, headL_a] at this
  exact this
/-- A word in a block of its own: the cells. -/
theorem tok_cells {w w1 : World} {B : Nat} {a b c d : Value} (ho : Only (· = B) (w.alloc (.cells #[a, b, c, d] 147)) w1) (hB : B < w.heap.size) :
    w1.cell? ⟨w.heap.size, 0, none⟩ = some a ∧ w1.cell? ⟨w.heap.size, 1, none⟩ = some b ∧ w1.cell? ⟨w.heap.size, 2, none⟩ = some c ∧ w1.cell? ⟨w.heap.size, 3, none⟩ = some d :=
  ⟨new_cell ho hB rfl, new_cell ho hB rfl, new_cell ho hB rfl, new_cell ho hB rfl⟩
theorem Only.lt {B : Nat} {w w' : World} (h : Only (· = B) w w') {k : Nat} (hk : k < w.heap.size) : k < w'.heap.size := Nat.lt_of_lt_of_le hk h.size
set_option maxRecDepth 100000 in
theorem mustName_any {w : World} {B E d : Nat} {L : List Tk} (h : Rd w B E d L) :
    Calls Tryz.prog 90 #[rp B] w (Ans w B E d (nameP E L) IsTxt) := by
  have hN := next_kind h
  have hR := fun w1 (hb : Below w.heap.size w w1) => h.below hb
  have hlt := h.lt
  unfold nameP
  clear h
  by_cases h1 : kindL L = 1
  · rw [if_pos h1]
    have hne := kind_ne h1 (by decide)
    rw [h1] at hN
    generalize (headL E L).t = t at *
    generalize (headL E L).n = n at *
    generalize (placeL E L) = a at *
    replace hN : Hid _ := hN
    replace hR : Hid _ := hR
    replace h1 : Hid _ := h1
    replace hne : Hid _ := hne
    go_enter Tryz.func90, Tryz.ntmps90
    go_wp2_with (first
      | (go_at_call 91; refine Calls.mono hN.out ?_; rintro e w1 ⟨rfl, hb1⟩; have hb2 := below_on hb1 (below_new w1 (.cells #[.int .i64 1, .string (txt t), .int .i64 n, .int .i64 a] 147)); have hh := take_ne (hR.out _ hb2) hne.out; have hl2 : B < w1.heap.size := Nat.lt_of_lt_of_le hlt hb1.size)
      | (go_at_call 89; refine Calls.mono hh ?_; clear hh; rintro e w2 ⟨rfl, ho2, hr2⟩; obtain ⟨x0, x1, x2, x3⟩ := tok_cells ho2 hl2))
    go_returns
    exact ⟨(Below.only _ hb2).trans ho2, _, rfl, rfl, hr2⟩
  · rw [if_neg h1]
    have hq := fun w1 (hb : Below w.heap.size w w1) => refusal_any (w := w1) (hR w1 hb) 81
    unfold refV at hq
    have hk : (kindL L == 1) = false := by rw [beq_eq_false_iff_ne]; exact h1
    generalize kindL L = k at *
    generalize txt (headL E L).t = tx at *
    generalize (headL E L).n = n at *
    generalize (placeL E L) = a at *
    clear hR
    replace hN : Hid _ := hN
    replace hq : Hid _ := hq
    go_enter Tryz.func90, Tryz.ntmps90
    go_wp2_with (first
      | (go_at_call 91; refine Calls.mono hN.out ?_; rintro e w1 ⟨rfl, hb1⟩; have hb2 := below_on hb1 (below_new w1 (.cells #[.int .i64 k, .string tx, .int .i64 n, .int .i64 a] 147)))
      | (go_at_call 86; refine Calls.mono (hq.out _ hb2) ?_; rintro e w2 ⟨rfl, hb3⟩))
    exact end_bad rfl (Below.only _ (below_on hb2 hb3))
set_option maxRecDepth 100000 in
theorem passName_any {w : World} {B E d : Nat} {L : List Tk} (h : Rd w B E d L) :
    Calls Tryz.prog 146 #[rp B] w (Ans w B E d (.ok (passNameP E L).1 (passNameP E L).2) IsTxt) := by
  have hN := next_kind h
  have hR := fun w1 (hb : Below w.heap.size w w1) => h.below hb
  have hM := fun w1 (hb : Below w.heap.size w w1) => mustName_any (hR w1 hb)
  unfold passNameP
  have hfd := fun n a x => kind_field (kindL L) n a x
  clear h
  by_cases h1 : kindL L = 1
  · rw [if_pos h1]
    unfold nameP at hM
    rw [if_pos h1] at hM
    rw [h1] at hN hfd
    generalize txt (headL E L).t = tx at hN
    generalize (headL E L).n = n at *
    generalize (placeL E L) = a at *
    generalize (headL E L).t = t at *
    clear hR
    replace hN : Hid _ := hN
    replace hM : Hid _ := hM
    replace h1 : Hid _ := h1
    go_enter Tryz.func146, Tryz.ntmps146
    go_wp2_with (first
      | (go_at_call 91; refine Calls.mono hN.out ?_; rintro e w1 ⟨rfl, hb1⟩)
      | (go_at_call 90; refine Calls.mono (hM.out _ hb1) ?_; rintro e w2 ⟨ho2, _, rfl, rfl, hr2⟩))
    go_returns
    exact ⟨(Below.only _ hb1).trans ho2, _, rfl, rfl, hr2⟩
  · rw [if_neg h1]
    have hk : (kindL L == 1) = false := by rw [beq_eq_false_iff_ne]; exact h1
    generalize kindL L = k at *
    generalize txt (headL E L).t = tx at hN
    generalize (headL E L).n = n at *
    generalize (placeL E L) = a at *
    clear hM
    replace hN : Hid _ := hN
    replace hR : Hid _ := hR
    go_enter Tryz.func146, Tryz.ntmps146
    go_wp2_with (go_at_call 91; refine Calls.mono hN.out ?_; rintro e w1 ⟨rfl, hb1⟩)
    go_returns
    exact ⟨Below.only _ hb1, _, rfl, rfl, hR.out _ hb1⟩
theorem Int_bounds {lo hi x : Int} : decide (x < lo) = false ∧ decide (x > hi) = false ↔ lo ≤ x ∧ x ≤ hi := by simp
set_option maxRecDepth 100000 in
theorem mustNumber_any {w : World} {B E d : Nat} {L : List Tk} (h : Rd w B E d L) (lo hi : Int) (h0 : 0 ≤ lo) (h9 : hi ≤ 1099511627776) (h8 : lo ≤ hi) :
    Calls Tryz.prog 64 #[rp B, .int .i64 lo, .int .i64 hi] w (Ans w B E d (numP E lo hi L) IsInt) := by
  have hN := next_kind h
  have hR := fun w1 (hb : Below w.heap.size w w1) => h.below hb
  have hlt := h.lt
  have hq := fun w1 (hb : Below w.heap.size w w1) => refusal_any (w := w1) (hR w1 hb) 81
  unfold refV at hq
  unfold numP
  clear h
  generalize txt (headL E L).t = tx at *
  generalize (headL E L).n = n at *
  generalize (placeL E L) = a at *
  by_cases h1 : kindL L = 3
  · have hne := kind_ne h1 (by decide)
    rw [h1] at hN
    replace hN : Hid _ := hN
    by_cases h2 : lo ≤ n
    · by_cases h3 : n ≤ hi
      · rw [if_pos ⟨h1, h2, h3⟩]
        replace hR : Hid _ := hR
        replace h1 : Hid _ := h1
        replace hne : Hid _ := hne
        have e2 : decide (n < lo) = false := by simp; omega
        have e3 : decide (n > hi) = false := by simp; omega
        clear hq
        go_enter Tryz.func64, Tryz.ntmps64
        go_wp2_with (first
          | (go_at_call 91; refine Calls.mono hN.out ?_; rintro e w1 ⟨rfl, hb1⟩; have hb2 := below_on hb1 (below_new w1 (.cells #[.int .i64 3, .string tx, .int .i64 n, .int .i64 a] 147)); have hh := take_ne (hR.out _ hb2) hne.out; have hl2 : B < w1.heap.size := Nat.lt_of_lt_of_le hlt hb1.size)
          | (go_at_call 89; refine Calls.mono hh ?_; clear hh; rintro e w2 ⟨rfl, ho2, hr2⟩; obtain ⟨x0, x1, x2, x3⟩ := tok_cells ho2 hl2))
        go_returns
        exact ⟨(Below.only _ hb2).trans ho2, _, rfl, rfl, hr2⟩
      · rw [if_neg (fun e => h3 e.2.2)]
        have e2 : decide (n < lo) = false := by simp; omega
        have e3 : decide (n > hi) = true := by simp; omega
        clear hR
        replace h1 : Hid _ := h1
        replace hq : Hid _ := hq
        go_enter Tryz.func64, Tryz.ntmps64
        go_wp2_with (first
          | (go_at_call 91; refine Calls.mono hN.out ?_; rintro e w1 ⟨rfl, hb1⟩; have hb2 := below_on hb1 (below_new w1 (.cells #[.int .i64 3, .string tx, .int .i64 n, .int .i64 a] 147)))
          | (go_at_call 86; refine Calls.mono (hq.out _ hb2) ?_; rintro e w2 ⟨rfl, hb3⟩))
        exact end_bad rfl (Below.only _ (below_on hb2 hb3))
    · rw [if_neg (fun e => h2 e.2.1)]
      have e2 : decide (n < lo) = true := by simp; omega
      clear hR
      replace h1 : Hid _ := h1
      replace hq : Hid _ := hq
      go_enter Tryz.func64, Tryz.ntmps64
      go_wp2_with (first
        | (go_at_call 91; refine Calls.mono hN.out ?_; rintro e w1 ⟨rfl, hb1⟩; have hb2 := below_on hb1 (below_new w1 (.cells #[.int .i64 3, .string tx, .int .i64 n, .int .i64 a] 147)))
        | (go_at_call 86; refine Calls.mono (hq.out _ hb2) ?_; rintro e w2 ⟨rfl, hb3⟩))
      exact end_bad rfl (Below.only _ (below_on hb2 hb3))
  · rw [if_neg (fun e => h1 e.1)]
    have hk : (kindL L == 3) = false := by rw [beq_eq_false_iff_ne]; exact h1
    generalize kindL L = k at *
    clear hR
    replace hN : Hid _ := hN
    replace hq : Hid _ := hq
    go_enter Tryz.func64, Tryz.ntmps64
    go_wp2_with (first
      | (go_at_call 91; refine Calls.mono hN.out ?_; rintro e w1 ⟨rfl, hb1⟩; have hb2 := below_on hb1 (below_new w1 (.cells #[.int .i64 k, .string tx, .int .i64 n, .int .i64 a] 147)))
      | (go_at_call 86; refine Calls.mono (hq.out _ hb2) ?_; rintro e w2 ⟨rfl, hb3⟩))
    exact end_bad rfl (Below.only _ (below_on hb2 hb3))
end Go.Proofs.YtkcnpbckmdgfnaaGreatDoor
