/-
  How many bytes the runes have that stand ahead and are digits, or go on in a name.
-/
import Derived.Test.YtefenbonjepjgaaGreatDoorNm
import Derived.Lib.OthersKept
import Derived.WalkSmall
namespace Go.Proofs.YtefenbonjepjgaaGreatDoor
open Go.RowKit
set_option linter.unusedSimpArgs false
set_option linter.unusedVariables false

/-- The same of a text, by places. -/
def spanS (p : Int → Bool) (s : ByteArray) : Nat → Nat → Nat
  | 0, pos => pos
  | b + 1, pos => if pos < s.size then (if p (Utf8.decode s pos).1 then spanS p s b (pos + (Utf8.decode s pos).2) else pos) else s.size
theorem spanS_eq (p : Int → Bool) (s : ByteArray) : ∀ b pos, s.size ≤ pos + b → pos ≤ s.size → spanS p s b pos = pos + spanL p (s.data.toList.drop pos)
  | 0, pos, h, k => by
    rw [List.drop_eq_nil_of_le (by show s.data.toList.length ≤ pos; rw [Array.length_toList]; exact h), spanL_nil]; rfl
  | b + 1, pos, h, k => by
    have hl : s.data.toList.length = s.size := Array.length_toList
    unfold spanS
    by_cases hp : pos < s.size
    · have hne : s.data.toList.drop pos ≠ [] := by
        intro e
        have := congrArg List.length e
        simp only [List.length_drop, List.length_nil] at this
        omega
      have hle := Lib.decodeL_le _ hne
      have hw := wid s pos hp
      rw [if_pos hp, spanL_step _ _ hne]
      rw [List.length_drop] at hle
      rw [Lib.decodeL_drop] at hle ⊢
      split
      · rw [spanS_eq p s b _ (by omega) (by omega), List.drop_drop]; omega
      · rfl
    · have : pos = s.size := by omega
      subst this
      rw [if_neg hp, List.drop_eq_nil_of_le (by omega), spanL_nil]; rfl
theorem spanS_all (p : Int → Bool) (s : ByteArray) : spanS p s s.size 0 = spanL p s.data.toList := by
  rw [spanS_eq p s s.size 0 (by omega) (by omega), List.drop_zero, Nat.zero_add]
theorem scalar_at (s : ByteArray) (pos : Nat) : 0 ≤ ((Utf8.decode s pos).1 : Int) ∧ (((Utf8.decode s pos).1 : Int) < 55296 ∨ 57344 ≤ ((Utf8.decode s pos).1 : Int) ∧ ((Utf8.decode s pos).1 : Int) ≤ 1114111) := by
  have := decodeL_scalar (s.data.toList.drop pos)
  rw [Lib.decodeL_drop] at this
  omega

theorem iter_below {w w' : World} {k : Nat} {o : Obj} (h : w.heap[k]? = some o) (hb : Below w.heap.size w w') : w'.heap[k]? = some o := (hb.block k (Array.getElem?_eq_some_iff.1 h).1).trans h
theorem spanS_end (p : Int → Bool) (s : ByteArray) (b pos : Nat) (h : ¬ pos < s.size) (k : pos ≤ s.size) : spanS p s b pos = s.size := by
  cases b with
  | zero => show pos = s.size; omega
  | succ b => rw [spanS, if_neg h]
theorem decode_le (s : ByteArray) (pos : Nat) (h : pos < s.size) : pos + (Utf8.decode s pos).2 ≤ s.size := by
  have hl : s.data.toList.length = s.size := Array.length_toList
  have hne : s.data.toList.drop pos ≠ [] := by
    intro e
    have := congrArg List.length e
    simp only [List.length_drop, List.length_nil] at this
    omega
  have := Lib.decodeL_le _ hne
  rw [Lib.decodeL_drop, List.length_drop] at this
  omega
theorem isDigit_below (c : Int) (w : World) : Calls Tryz.prog 57 #[.int .i32 c] w fun e w' => e = .returned (.bool (digB c)) ∧ Below w.heap.size w w' :=
  (isDigit_any c w).mono fun e w' ⟨h1, h2⟩ => ⟨h1, h2 ▸ Below.refl _ _⟩

set_option maxRecDepth 100000 in
theorem leading_goes (s : ByteArray) (hs : s.size ≤ maxLen) (w : World) : Calls Tryz.prog 83 #[.string s, .func (.func 86) #[] #[]] w fun e w' => e = .returned (.int .i64 (spanL (runeB false) s.data.toList)) ∧ Below w.heap.size w w' := by
  unfold maxLen at hs
  rw [← spanS_all]
  have hne := enters_of Tryz.func86 (by kernel_rfl) rfl
  go_enter Tryz.func83, Tryz.ntmps83
  go_wp2_with fail
  go_loopw [4, 5, 6] (fun _ _ _ wr => ∃ (pos b : Nat), wr.heap[w.heap.size]? = some (.stringIter s pos) ∧ Below w.heap.size w wr ∧ spanS (runeB false) s b pos = spanS (runeB false) s s.size 0 ∧ s.size ≤ pos + b ∧ pos ≤ s.size) (fun _ _ _ wr => s.size - wr.iterPos w.heap.size)
  case atStart => exact ⟨0, s.size, World.iter_heap _ _ _, below_new w _, rfl, by omega, by omega⟩
  case round =>
    obtain ⟨pos, b, hit, hB, hc, hb, hpl⟩ := hrel
    by_cases hp : pos < s.size
    · have hnx := fun ty => Lib.run_next_any_at (P := Tryz.prog) wr w.heap.size s pos ty hit hp
      have hwd := wid s pos hp
      have hle := decode_le s pos hp
      have hit2 := Lib.iterAt_heap wr w.heap.size s pos (pos + (Utf8.decode s pos).2) hit
      have hB2 : Below w.heap.size w (wr.iterAt w.heap.size s (pos + (Utf8.decode s pos).2)) := Lib.below_iterAt hB (Nat.le_refl _) _ _
      have hsc := scalar_at s pos
      obtain ⟨b, rfl⟩ : ∃ b', b = b' + 1 := ⟨b - 1, by omega⟩
      simp only [spanS, if_pos hp] at hc
      have hC := fun w => goesOn_any _ hsc.1 hsc.2 w
      replace hc : Hid _ := hc
      replace hC : Hid _ := hC
      replace hB2 : Hid _ := hB2
      replace hit2 : Hid _ := hit2
      replace hit : Hid _ := hit
      cases hx : (runeB false) ((Utf8.decode s pos).1 : Int)
      all_goals
        go_wp2_with (go_at_call 86; refine Calls.mono (hC.out _) ?_; rintro e w2 ⟨rfl, hb2⟩)
        replace hc := hc.out
        rw [hx] at hc
      · go_returns
        rw [← hc]
        exact ⟨rfl, hB2.out.trans (hb2.mono hB2.out.size)⟩
      · have h2 := iter_below hit2.out hb2
        exact ⟨⟨_, b, h2, hB2.out.trans (hb2.mono hB2.out.size), hc, by omega, hle⟩, by rw [iterPos_of h2, iterPos_of hit.out]; omega⟩
    · have hnx := fun ty => Lib.run_next_end_at (P := Tryz.prog) wr w.heap.size s pos ty hit hp
      go_wp2_with fail
      go_returns
      rw [← hc, spanS_end _ _ _ _ hp hpl]
      exact ⟨rfl, hB⟩

set_option maxRecDepth 100000 in
theorem leading_digits (s : ByteArray) (hs : s.size ≤ maxLen) (w : World) : Calls Tryz.prog 83 #[.string s, .func (.func 57) #[] #[]] w fun e w' => e = .returned (.int .i64 (spanL digB s.data.toList)) ∧ Below w.heap.size w w' := by
  unfold maxLen at hs
  rw [← spanS_all]
  have hne := enters_of Tryz.func57 (by kernel_rfl) rfl
  go_enter Tryz.func83, Tryz.ntmps83
  go_wp2_with fail
  go_loopw [4, 5, 6] (fun _ _ _ wr => ∃ (pos b : Nat), wr.heap[w.heap.size]? = some (.stringIter s pos) ∧ Below w.heap.size w wr ∧ spanS digB s b pos = spanS digB s s.size 0 ∧ s.size ≤ pos + b ∧ pos ≤ s.size) (fun _ _ _ wr => s.size - wr.iterPos w.heap.size)
  case atStart => exact ⟨0, s.size, World.iter_heap _ _ _, below_new w _, rfl, by omega, by omega⟩
  case round =>
    obtain ⟨pos, b, hit, hB, hc, hb, hpl⟩ := hrel
    by_cases hp : pos < s.size
    · have hnx := fun ty => Lib.run_next_any_at (P := Tryz.prog) wr w.heap.size s pos ty hit hp
      have hwd := wid s pos hp
      have hle := decode_le s pos hp
      have hit2 := Lib.iterAt_heap wr w.heap.size s pos (pos + (Utf8.decode s pos).2) hit
      have hB2 : Below w.heap.size w (wr.iterAt w.heap.size s (pos + (Utf8.decode s pos).2)) := Lib.below_iterAt hB (Nat.le_refl _) _ _
      have hsc := scalar_at s pos
      obtain ⟨b, rfl⟩ : ∃ b', b = b' + 1 := ⟨b - 1, by omega⟩
      simp only [spanS, if_pos hp] at hc
      have hC := fun w => isDigit_below ((Utf8.decode s pos).1 : Int) w
      replace hc : Hid _ := hc
      replace hC : Hid _ := hC
      replace hB2 : Hid _ := hB2
      replace hit2 : Hid _ := hit2
      replace hit : Hid _ := hit
      cases hx : digB ((Utf8.decode s pos).1 : Int)
      all_goals
        go_wp2_with (go_at_call 57; refine Calls.mono (hC.out _) ?_; rintro e w2 ⟨rfl, hb2⟩)
        replace hc := hc.out
        rw [hx] at hc
      · go_returns
        rw [← hc]
        exact ⟨rfl, hB2.out.trans (hb2.mono hB2.out.size)⟩
      · have h2 := iter_below hit2.out hb2
        exact ⟨⟨_, b, h2, hB2.out.trans (hb2.mono hB2.out.size), hc, by omega, hle⟩, by rw [iterPos_of h2, iterPos_of hit.out]; omega⟩
    · have hnx := fun ty => Lib.run_next_end_at (P := Tryz.prog) wr w.heap.size s pos ty hit hp
      go_wp2_with fail
      go_returns
      rw [← hc, spanS_end _ _ _ _ hp hpl]
      exact ⟨rfl, hB⟩

end Go.Proofs.YtefenbonjepjgaaGreatDoor
