/-
  Whether a text is a name: Name of the program.
-/
import Derived.Test.YtkcnpbckmdgfnaaGreatDoorVal
import Derived.Laws.RangeAny
import Derived.LoopTactic
namespace Go.Proofs.YtkcnpbckmdgfnaaGreatDoor.V4
open Go.ChangeShapes Go.WideShapes Go.ChangeAt Go.RowKit
set_option linter.unusedSimpArgs false
set_option linter.unusedVariables false

/-! Nm -/

/-- A letter. -/
def letB (c : Int) : Bool := decide (97 ≤ c) && decide (c ≤ 122) || decide (65 ≤ c) && decide (c ≤ 90) || decide (192 ≤ c) && decide (c ≤ 591) && !decide (c = 215) && !decide (c = 247)
def digB (c : Int) : Bool := decide (48 ≤ c) && decide (c ≤ 57)
/-- May a rune stand in a name, at its beginning or behind it? -/
def runeB (first : Bool) (c : Int) : Bool := letB c || decide (c = 95) || !first && digB c
/-- The runes from a place on. -/
def nameGo (s : ByteArray) : Nat → Nat → Bool
  | 0, _ => true
  | b + 1, pos => if pos < s.size then runeB (decide (pos = 0)) (Utf8.decode s pos).1 && nameGo s b (pos + (Utf8.decode s pos).2) else true
/-- What a name is. -/
def nameB (s : ByteArray) : Bool := decide (1 ≤ s.size) && decide (s.size ≤ 32) && nameGo s s.size 0

theorem wid (s : ByteArray) (pos : Nat) (h : pos < s.size) : 1 ≤ (Utf8.decode s pos).2 := by
  by_cases ha : (s[pos]'h).toNat < 128
  · rw [decode_ascii s pos h ha]
    exact Nat.le_refl _
  · exact (decode_high s pos h (by omega)).2
theorem nameGo_end (s : ByteArray) (b pos : Nat) (h : ¬ pos < s.size) : nameGo s b pos = true := by
  cases b <;> simp [nameGo, h]

theorem letB_t (c : Int) : letB c = true ↔ (97 ≤ c ∧ c ≤ 122 ∨ 65 ≤ c ∧ c ≤ 90 ∨ 192 ≤ c ∧ c ≤ 591 ∧ ¬ c = 215 ∧ ¬ c = 247) := by
  simp [letB]
  omega
theorem digB_t (c : Int) : digB c = true ↔ (48 ≤ c ∧ c ≤ 57) := by simp [digB]
theorem isLetter_any (c : Int) (w : World) : Calls Tryz.prog 129 #[.int .i32 c] w fun e w' => e = .returned (.bool (letB c)) ∧ w' = w := by
  have hl := letB_t c
  generalize letB c = x at hl
  cases x
  all_goals
    simp only [reduceCtorEq, false_iff, true_iff] at hl
    go_enter Tryz.func129, Tryz.ntmps129
    go_wp2_with fail
    all_goals (go_returns; refine ⟨?_, rfl⟩; first | rfl | (exfalso; omega) | (simp; omega))
theorem isDigit_any (c : Int) (w : World) : Calls Tryz.prog 130 #[.int .i32 c] w fun e w' => e = .returned (.bool (digB c)) ∧ w' = w := by
  have hl := digB_t c
  generalize digB c = x at hl
  cases x
  all_goals
    simp only [reduceCtorEq, false_iff, true_iff] at hl
    go_enter Tryz.func130, Tryz.ntmps130
    go_wp2_with fail
    all_goals (go_returns; refine ⟨?_, rfl⟩; first | rfl | (exfalso; omega) | (simp; omega))
theorem Letter_any (c : Int) (w : World) : Calls Tryz.prog 109 #[.int .i32 c] w fun e w' => e = .returned (.bool (letB c || decide (c = 95))) ∧ w' = w := by
  have hl : (letB c || decide (c = 95)) = true ↔ (97 ≤ c ∧ c ≤ 122 ∨ 65 ≤ c ∧ c ≤ 90 ∨ 192 ≤ c ∧ c ≤ 591 ∧ ¬ c = 215 ∧ ¬ c = 247) ∨ c = 95 := by
    rw [Bool.or_eq_true, letB_t, decide_eq_true_eq]
  generalize (letB c || decide (c = 95)) = x at hl
  cases x
  all_goals
    simp only [reduceCtorEq, false_iff, true_iff] at hl
    go_enter Tryz.func109, Tryz.ntmps109
    go_wp2_with fail
    all_goals (go_returns; refine ⟨?_, rfl⟩; first | rfl | (exfalso; omega) | (simp_all; done) | (simp_all; omega))

set_option maxRecDepth 100000 in
theorem Name_any (s : ByteArray) (w : World) (hs : s.size ≤ maxLen) :
    Calls Tryz.prog 103 #[.string s] w fun e w' => e = .returned (.bool (nameB s)) ∧ Below w.heap.size w w' := by
  unfold maxLen at hs
  by_cases h1 : 1 ≤ s.size
  case neg =>
    rw [show nameB s = false by simp [nameB, h1]]
    go_enter Tryz.func103, Tryz.ntmps103
    go_wp2_with fail
    all_goals first | (exfalso; omega) | (go_returns; exact ⟨rfl, by go_grown⟩)
  by_cases h2 : s.size ≤ 32
  case neg =>
    rw [show nameB s = false by simp [nameB, h2]]
    go_enter Tryz.func103, Tryz.ntmps103
    go_wp2_with fail
    all_goals first | (exfalso; omega) | (go_returns; exact ⟨rfl, by go_grown⟩)
  rw [show nameB s = nameGo s s.size 0 by simp [nameB, h1, h2]]
  go_enter Tryz.func103, Tryz.ntmps103
  go_wp2_with fail
  all_goals try (exfalso; omega)
  go_loopw [2, 3, 4] (fun _ _ _ w' => ∃ (pos b : Nat), w' = w.iter s pos ∧ nameGo s b pos = nameGo s s.size 0 ∧ s.size ≤ pos + b) (fun _ _ _ w' => s.size - w'.iterPos w.heap.size)
  case atStart => exact ⟨0, s.size, rfl, rfl, by omega⟩
  case round =>
    obtain ⟨pos, b, rfl, hc, hb⟩ := hrel
    by_cases hp : pos < s.size
    · have hnx : ∀ ty, (Instr.next (.pointer (some ⟨w.heap.size, 0, none⟩)) true ty).run Tryz.prog (w.iter s pos) = _ := fun ty => run_next_any w s pos ty hp
      have hwd := wid s pos hp
      have hb1 : 1 ≤ b := by omega
      obtain ⟨b, rfl⟩ : ∃ b', b = b' + 1 := ⟨b - 1, by omega⟩
      simp only [nameGo, if_pos hp] at hc
      cases hx : runeB (decide (pos = 0)) (Utf8.decode s pos).1
      all_goals
        rw [hx] at hc
        simp only [Bool.false_and, Bool.true_and] at hc
        unfold runeB at hx
        by_cases h0 : pos = 0
        all_goals
          try subst h0
          try simp only [Nat.zero_add] at hc
          replace hc : Hid _ := hc
          replace hx : Hid _ := hx
          go_wp2_with (first
            | (go_at_call 129; refine (isLetter_any _ _).mono ?_; rintro e w1 ⟨rfl, rfl⟩)
            | (go_at_call 130; refine (isDigit_any _ _).mono ?_; rintro e w1 ⟨rfl, rfl⟩))
          all_goals replace hc := hc.out
          all_goals replace hx := hx.out
          all_goals first
            | (exfalso; simp_all; done)
            | exact ⟨⟨_, b, rfl, hc, by omega⟩, by simp; omega⟩
            | (go_returns; exact ⟨by simp [← hc], below_new w _⟩)
    · have hnx : ∀ ty, (Instr.next (.pointer (some ⟨w.heap.size, 0, none⟩)) true ty).run Tryz.prog (w.iter s pos) = _ := fun ty => run_next_end w s pos ty hp
      go_wp2_with fail
      rw [nameGo_end s b pos hp] at hc
      go_returns
      exact ⟨by simp [← hc], below_new w _⟩

end Go.Proofs.YtkcnpbckmdgfnaaGreatDoor.V4
