/-
  Nma: turned for the seat of the expressions.
-/
import Derived.Test.YtkcnpbckmdgfnaaDoorVal
import Derived.Test.YtkcnpbckmdgfnaaDoorLxa
import Derived.Lib.OthersKept
import Derived.WalkSmall
namespace Go.Proofs.YtkcnpbckmdgfnaaDoor
open Go.RowKit
set_option linter.unusedSimpArgs false
set_option linter.unusedVariables false
theorem isLetter_any (c : Int) (w : World) : Calls Tryd.prog 50 #[.int .i32 c] w fun e w' => e = .returned (.bool (letB c)) ∧ w' = w := by
  have hl := letB_t c
  generalize letB c = x at hl
  cases x
  all_goals
    simp only [reduceCtorEq, false_iff, true_iff] at hl
    go_enter Tryd.func50, Tryd.ntmps50
    go_wp2_with fail
    all_goals (go_returns; refine ⟨?_, rfl⟩; first | rfl | (exfalso; omega) | (simp; omega))
theorem isDig_any (c : Int) (w : World) : Calls Tryd.prog 51 #[.int .i32 c] w fun e w' => e = .returned (.bool (digB c)) ∧ w' = w := by
  have hl := digB_t c
  generalize digB c = x at hl
  cases x
  all_goals
    simp only [reduceCtorEq, false_iff, true_iff] at hl
    go_enter Tryd.func51, Tryd.ntmps51
    go_wp2_with fail
    all_goals (go_returns; refine ⟨?_, rfl⟩; first | rfl | (exfalso; omega) | (simp; omega))
theorem great_any (c : Int) (h0 : 0 ≤ c) (h1 : c ≤ 1114111) (w : World) : Calls Tryd.prog 66 #[.int .i32 c] w fun e w' => e = .returned (.int .i32 (upR c)) ∧ w' = w := by
  by_cases h : 97 ≤ c ∧ c ≤ 122
  · rw [show upR c = c - 97 + 65 by unfold upR; rw [if_pos h]]
    obtain ⟨ha, hb⟩ := h
    go_enter Tryd.func66, Tryd.ntmps66
    go_wp2_with fail
    all_goals (go_returns; refine ⟨?_, rfl⟩; first | rfl | (exfalso; omega) | (simp; omega))
  · rw [show upR c = c by unfold upR; rw [if_neg h]]
    go_enter Tryd.func66, Tryd.ntmps66
    go_wp2_with fail
    all_goals (go_returns; refine ⟨?_, rfl⟩; first | rfl | (exfalso; omega) | (simp; omega))
end Go.Proofs.YtkcnpbckmdgfnaaDoor
namespace Go.Proofs.YtkcnpbckmdgfnaaDoor
open Go.RowKit
set_option linter.unusedSimpArgs false
set_option linter.unusedVariables false
/-- The runes from a place on. -/
def nameGo (s : ByteArray) : Nat → Nat → Bool
  | 0, _ => true
  | b + 1, pos => if pos < s.size then runeB (decide (pos = 0)) (Utf8.decode s pos).1 && nameGo s b (pos + (Utf8.decode s pos).2) else true
/-- What a name is. -/
def nameB (s : ByteArray) : Bool := decide (1 ≤ s.size) && decide (s.size ≤ 32) && nameGo s s.size 0
theorem wid (s : ByteArray) (pos : Nat) (h : pos < s.size) : 1 ≤ (Utf8.decode s pos).2 := by
  by_cases ha : (s[pos]'h).toNat < 128
  · rw [decode_ascii s pos h ha]
    exact Nat.le_refl _
  · exact (decode_high s pos h (by omega)).2
theorem nameGo_end (s : ByteArray) (b pos : Nat) (h : ¬ pos < s.size) : nameGo s b pos = true := by
  cases b <;> simp [nameGo, h]
set_option maxRecDepth 100000 in
theorem Name_any (s : ByteArray) (w : World) (hs : s.size ≤ maxLen) :
    Calls Tryd.prog 38 #[.string s] w fun e w' => e = .returned (.bool (nameB s)) ∧ Below w.heap.size w w' := by
  unfold maxLen at hs
  by_cases h1 : 1 ≤ s.size
  case neg =>
    rw [show nameB s = false by simp [nameB, h1]]
    go_enter Tryd.func38, Tryd.ntmps38
    go_wp2_with fail
    all_goals first | (exfalso; omega) | (go_returns; exact ⟨rfl, by go_grown⟩)
  by_cases h2 : s.size ≤ 32
  case neg =>
    rw [show nameB s = false by simp [nameB, h2]]
    go_enter Tryd.func38, Tryd.ntmps38
    go_wp2_with fail
    all_goals first | (exfalso; omega) | (go_returns; exact ⟨rfl, by go_grown⟩)
  rw [show nameB s = nameGo s s.size 0 by simp [nameB, h1, h2]]
  go_enter Tryd.func38, Tryd.ntmps38
  go_wp2_with fail
  all_goals try (exfalso; omega)
  go_loopw [2, 3, 4] (fun _ _ _ w' => ∃ (pos b : Nat), w' = w.iter s pos ∧ nameGo s b pos = nameGo s s.size 0 ∧ s.size ≤ pos + b) (fun _ _ _ w' => s.size - w'.iterPos w.heap.size)
  case atStart => exact ⟨0, s.size, rfl, rfl, by omega⟩
  case round =>
    obtain ⟨pos, b, rfl, hc, hb⟩ := hrel
    by_cases hp : pos < s.size
    · have hnx : ∀ ty, (Instr.next (.pointer (some ⟨w.heap.size, 0, none⟩)) true ty).run Tryd.prog (w.iter s pos) = _ := fun ty => run_next_any w s pos ty hp
      have hwd := wid s pos hp
      have hb1 : 1 ≤ b := by omega
      obtain ⟨b, rfl⟩ : ∃ b', b = b' + 1 := ⟨b - 1, by omega⟩
      simp only [nameGo, if_pos hp] at hc
      cases hx : runeB (decide (pos = 0)) (Utf8.decode s pos).1
      all_goals
        rw [hx] at hc
        simp only [Bool.false_and, Bool.true_and] at hc
        unfold runeB at hx
        by_cases h0 : pos = 0
        all_goals
          try subst h0
          try simp only [Nat.zero_add] at hc
          replace hc : Hid _ := hc
          replace hx : Hid _ := hx
          go_wp2_with (first
            | (go_at_call 50; refine (isLetter_any _ _).mono ?_; rintro e w1 ⟨rfl, rfl⟩)
            | (go_at_call 51; refine (isDig_any _ _).mono ?_; rintro e w1 ⟨rfl, rfl⟩))
          all_goals replace hc := hc.out
          all_goals replace hx := hx.out
          all_goals first
            | (exfalso; simp_all; done)
            | exact ⟨⟨_, b, rfl, hc, by omega⟩, by simp; omega⟩
            | (go_returns; exact ⟨by simp [← hc], below_new w _⟩)
    · have hnx : ∀ ty, (Instr.next (.pointer (some ⟨w.heap.size, 0, none⟩)) true ty).run Tryd.prog (w.iter s pos) = _ := fun ty => run_next_end w s pos ty hp
      go_wp2_with fail
      rw [nameGo_end s b pos hp] at hc
      go_returns
      exact ⟨by simp [← hc], below_new w _⟩
end Go.Proofs.YtkcnpbckmdgfnaaDoor
namespace Go.Proofs.YtkcnpbckmdgfnaaDoor
open Go.RowKit
set_option linter.unusedSimpArgs false
set_option linter.unusedVariables false
theorem scalar_at (s : ByteArray) (pos : Nat) : 0 ≤ ((Utf8.decode s pos).1 : Int) ∧ (((Utf8.decode s pos).1 : Int) < 55296 ∨ 57344 ≤ ((Utf8.decode s pos).1 : Int) ∧ ((Utf8.decode s pos).1 : Int) ≤ 1114111) := by
  have := decodeL_scalar (s.data.toList.drop pos)
  rw [Lib.decodeL_drop] at this
  omega
theorem decode_le (s : ByteArray) (pos : Nat) (h : pos < s.size) : pos + (Utf8.decode s pos).2 ≤ s.size := by
  have hl : s.data.toList.length = s.size := Array.length_toList
  have hne : s.data.toList.drop pos ≠ [] := by
    intro e
    have := congrArg List.length e
    simp only [List.length_drop, List.length_nil] at this
    omega
  have := Lib.decodeL_le _ hne
  rw [Lib.decodeL_drop, List.length_drop] at this
  omega
end Go.Proofs.YtkcnpbckmdgfnaaDoor
