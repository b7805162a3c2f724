/-
  The small functions: blanks, digits, letters; great letters.
  Whether a text is a name; whether a rune begins one, or goes on in one.
  How many bytes the runes have that stand ahead and are digits, or go on in a name.
-/
import Derived.Test.YtkcnpbckmdgfnaaGreatDoorVal
import Derived.Test.YtkcnpbckmdgfnaaGreatDoorLxa
import Derived.Lib.OthersKept
import Derived.WalkSmall
namespace Go.Proofs.YtkcnpbckmdgfnaaGreatDoor
open Go.RowKit
set_option linter.unusedSimpArgs false
set_option linter.unusedVariables false

theorem isBlank_any (c : Int) (w : World) : Calls Tryz.prog 84 #[.int .i32 c] w fun e w' => e = .returned (.bool (blankB c)) ∧ w' = w := by
  have hl := blankB_t c
  generalize blankB c = x at hl
  cases x
  all_goals
    simp only [reduceCtorEq, false_iff, true_iff] at hl
    go_enter Tryz.func84, Tryz.ntmps84
    go_wp2_with fail
    all_goals (go_returns; refine ⟨?_, rfl⟩; first | rfl | (exfalso; omega) | (simp; omega))
theorem isDigit_any (c : Int) (w : World) : Calls Tryz.prog 116 #[.int .i32 c] w fun e w' => e = .returned (.bool (digB c)) ∧ w' = w := by
  have hl := digB_t c
  generalize digB c = x at hl
  cases x
  all_goals
    simp only [reduceCtorEq, false_iff, true_iff] at hl
    go_enter Tryz.func116, Tryz.ntmps116
    go_wp2_with fail
    all_goals (go_returns; refine ⟨?_, rfl⟩; first | rfl | (exfalso; omega) | (simp; omega))
theorem isLetter_any (c : Int) (w : World) : Calls Tryz.prog 129 #[.int .i32 c] w fun e w' => e = .returned (.bool (letB c)) ∧ w' = w := by
  have hl := letB_t c
  generalize letB c = x at hl
  cases x
  all_goals
    simp only [reduceCtorEq, false_iff, true_iff] at hl
    go_enter Tryz.func129, Tryz.ntmps129
    go_wp2_with fail
    all_goals (go_returns; refine ⟨?_, rfl⟩; first | rfl | (exfalso; omega) | (simp; omega))
theorem isDig_any (c : Int) (w : World) : Calls Tryz.prog 130 #[.int .i32 c] w fun e w' => e = .returned (.bool (digB c)) ∧ w' = w := by
  have hl := digB_t c
  generalize digB c = x at hl
  cases x
  all_goals
    simp only [reduceCtorEq, false_iff, true_iff] at hl
    go_enter Tryz.func130, Tryz.ntmps130
    go_wp2_with fail
    all_goals (go_returns; refine ⟨?_, rfl⟩; first | rfl | (exfalso; omega) | (simp; omega))
theorem Letter_any (c : Int) (w : World) : Calls Tryz.prog 109 #[.int .i32 c] w fun e w' => e = .returned (.bool (letB c || decide (c = 95))) ∧ w' = w := by
  have hl : (letB c || decide (c = 95)) = true ↔ (97 ≤ c ∧ c ≤ 122 ∨ 65 ≤ c ∧ c ≤ 90 ∨ 192 ≤ c ∧ c ≤ 591 ∧ ¬ c = 215 ∧ ¬ c = 247) ∨ c = 95 := by
    rw [Bool.or_eq_true, letB_t, decide_eq_true_eq]
  generalize (letB c || decide (c = 95)) = x at hl
  cases x
  all_goals
    simp only [reduceCtorEq, false_iff, true_iff] at hl
    go_enter Tryz.func109, Tryz.ntmps109
    go_wp2_with fail
    all_goals (go_returns; refine ⟨?_, rfl⟩; first | rfl | (exfalso; omega) | (simp_all; done) | (simp_all; omega))
theorem great_any (c : Int) (h0 : 0 ≤ c) (h1 : c ≤ 1114111) (w : World) : Calls Tryz.prog 156 #[.int .i32 c] w fun e w' => e = .returned (.int .i32 (upR c)) ∧ w' = w := by
  by_cases h : 97 ≤ c ∧ c ≤ 122
  · rw [show upR c = c - 97 + 65 by unfold upR; rw [if_pos h]]
    obtain ⟨ha, hb⟩ := h
    go_enter Tryz.func156, Tryz.ntmps156
    go_wp2_with fail
    all_goals (go_returns; refine ⟨?_, rfl⟩; first | rfl | (exfalso; omega) | (simp; omega))
  · rw [show upR c = c by unfold upR; rw [if_neg h]]
    go_enter Tryz.func156, Tryz.ntmps156
    go_wp2_with fail
    all_goals (go_returns; refine ⟨?_, rfl⟩; first | rfl | (exfalso; omega) | (simp; omega))
end Go.Proofs.YtkcnpbckmdgfnaaGreatDoor
namespace Go.Proofs.YtkcnpbckmdgfnaaGreatDoor
open Go.RowKit
set_option linter.unusedSimpArgs false
set_option linter.unusedVariables false

/-- The runes from a place on. -/
def nameGo (s : ByteArray) : Nat → Nat → Bool
  | 0, _ => true
  | b + 1, pos => if pos < s.size then runeB (decide (pos = 0)) (Utf8.decode s pos).1 && nameGo s b (pos + (Utf8.decode s pos).2) else true
/-- What a name is. -/
def nameB (s : ByteArray) : Bool := decide (1 ≤ s.size) && decide (s.size ≤ 32) && nameGo s s.size 0

theorem wid (s : ByteArray) (pos : Nat) (h : pos < s.size) : 1 ≤ (Utf8.decode s pos).2 := by
  by_cases ha : (s[pos]'h).toNat < 128
  · rw [decode_ascii s pos h ha]
    exact Nat.le_refl _
  · exact (decode_high s pos h (by omega)).2
theorem nameGo_end (s : ByteArray) (b pos : Nat) (h : ¬ pos < s.size) : nameGo s b pos = true := by
  cases b <;> simp [nameGo, h]

set_option maxRecDepth 100000 in
theorem Name_any (s : ByteArray) (w : World) (hs : s.size ≤ maxLen) :
    Calls Tryz.prog 103 #[.string s] w fun e w' => e = .returned (.bool (nameB s)) ∧ Below w.heap.size w w' := by
  unfold maxLen at hs
  by_cases h1 : 1 ≤ s.size
  case neg =>
    rw [show nameB s = false by simp [nameB, h1]]
    go_enter Tryz.func103, Tryz.ntmps103
    go_wp2_with fail
    all_goals first | (exfalso; omega) | (go_returns; exact ⟨rfl, by go_grown⟩)
  by_cases h2 : s.size ≤ 32
  case neg =>
    rw [show nameB s = false by simp [nameB, h2]]
    go_enter Tryz.func103, Tryz.ntmps103
    go_wp2_with fail
    all_goals first | (exfalso; omega) | (go_returns; exact ⟨rfl, by go_grown⟩)
  rw [show nameB s = nameGo s s.size 0 by simp [nameB, h1, h2]]
  go_enter Tryz.func103, Tryz.ntmps103
  go_wp2_with fail
  all_goals try (exfalso; omega)
  go_loopw [2, 3, 4] (fun _ _ _ w' => ∃ (pos b : Nat), w' = w.iter s pos ∧ nameGo s b pos = nameGo s s.size 0 ∧ s.size ≤ pos + b) (fun _ _ _ w' => s.size - w'.iterPos w.heap.size)
  case atStart => exact ⟨0, s.size, rfl, rfl, by omega⟩
  case round =>
    obtain ⟨pos, b, rfl, hc, hb⟩ := hrel
    by_cases hp : pos < s.size
    · have hnx : ∀ ty, (Instr.next (.pointer (some ⟨w.heap.size, 0, none⟩)) true ty).run Tryz.prog (w.iter s pos) = _ := fun ty => run_next_any w s pos ty hp
      have hwd := wid s pos hp
      have hb1 : 1 ≤ b := by omega
      obtain ⟨b, rfl⟩ : ∃ b', b = b' + 1 := ⟨b - 1, by omega⟩
      simp only [nameGo, if_pos hp] at hc
      cases hx : runeB (decide (pos = 0)) (Utf8.decode s pos).1
      all_goals
        rw [hx] at hc
        simp only [Bool.false_and, Bool.true_and] at hc
        unfold runeB at hx
        by_cases h0 : pos = 0
        all_goals
          try subst h0
          try simp only [Nat.zero_add] at hc
          replace hc : Hid _ := hc
          replace hx : Hid _ := hx
          go_wp2_with (first
            | (go_at_call 129; refine (isLetter_any _ _).mono ?_; rintro e w1 ⟨rfl, rfl⟩)
            | (go_at_call 130; refine (isDig_any _ _).mono ?_; rintro e w1 ⟨rfl, rfl⟩))
          all_goals replace hc := hc.out
          all_goals replace hx := hx.out
          all_goals first
            | (exfalso; simp_all; done)
            | exact ⟨⟨_, b, rfl, hc, by omega⟩, by simp; omega⟩
            | (go_returns; exact ⟨by simp [← hc], below_new w _⟩)
    · have hnx : ∀ ty, (Instr.next (.pointer (some ⟨w.heap.size, 0, none⟩)) true ty).run Tryz.prog (w.iter s pos) = _ := fun ty => run_next_end w s pos ty hp
      go_wp2_with fail
      rw [nameGo_end s b pos hp] at hc
      go_returns
      exact ⟨by simp [← hc], below_new w _⟩


theorem name_one (s : ByteArray) (p : Nat) (c : Int) (hd : Utf8.decode s p = (c.toNat, s.size - p)) (hp : p < s.size) (h0 : 0 ≤ c) (b : Nat) (hb : s.size ≤ p + b) : nameGo s b p = runeB (decide (p = 0)) c := by
  obtain ⟨b, rfl⟩ : ∃ b', b = b' + 1 := ⟨b - 1, by omega⟩
  rw [nameGo, if_pos hp, hd]
  dsimp only
  rw [nameGo_end _ _ _ (by omega), Bool.and_true, show ((c.toNat : Nat) : Int) = c by omega]
theorem name_begins (c : Int) (h0 : 0 ≤ c) (h : c < 55296 ∨ 57344 ≤ c ∧ c ≤ 1114111) : nameB (Utf8.encode c) = runeB true c := by
  have hl := encode_list c h0 h
  have hk := encode_len c
  have hz : (Utf8.encode c).size = (Lib.encodeRune c).length := by rw [← hl]; exact Array.length_toList.symm
  have hd : Utf8.decode (Utf8.encode c) 0 = (c.toNat, (Utf8.encode c).size - 0) := by
    rw [← Lib.decodeL_drop, List.drop_zero, hl, hz]
    have := decode_encode c h0 h []
    rwa [List.append_nil] at this
  have hn := name_one (Utf8.encode c) 0 c hd (by omega) h0 (Utf8.encode c).size (by omega)
  rw [nameB, hn, show decide (1 ≤ (Utf8.encode c).size) = true by simp; omega, show decide ((Utf8.encode c).size ≤ 32) = true by simp; omega]
  simp
theorem name_goes (c : Int) (h0 : 0 ≤ c) (h : c < 55296 ∨ 57344 ≤ c ∧ c ≤ 1114111) (s : ByteArray) (hs : s.data.toList = 95 :: Lib.encodeRune c) : nameB s = runeB false c := by
  have hk := encode_len c
  have hz : s.size = (Lib.encodeRune c).length + 1 := by
    have := congrArg List.length hs
    rw [List.length_cons] at this
    exact this
  have hd0 : Utf8.decode s 0 = (95, 1) := by
    rw [← Lib.decodeL_drop, List.drop_zero, hs]
    exact decodeL_low 95 _ (by decide)
  have hd : Utf8.decode s 1 = (c.toNat, s.size - 1) := by
    rw [← Lib.decodeL_drop, hs, hz, List.drop_one, List.tail_cons]
    have := decode_encode c h0 h []
    rw [List.append_nil] at this
    rw [this, Nat.add_sub_cancel]
  obtain ⟨b, hb⟩ : ∃ b, s.size = b + 1 := ⟨s.size - 1, by omega⟩
  have hn := name_one s 1 c hd (by omega) h0 b (by omega)
  rw [nameB, hb, nameGo, if_pos (by omega), hd0]
  dsimp only
  rw [hn, show decide (1 ≤ b + 1) = true by simp, show decide (b + 1 ≤ 32) = true by simp; omega]
  simp [runeB]
set_option maxRecDepth 100000 in
theorem beginsName_any (c : Int) (h0 : 0 ≤ c) (h : c < 55296 ∨ 57344 ≤ c ∧ c ≤ 1114111) (w : World) : Calls Tryz.prog 118 #[.int .i32 c] w fun e w' => e = .returned (.bool (runeB true c)) ∧ Below w.heap.size w w' := by
  have hl := encode_list c h0 h
  have hk := encode_len c
  have hz : (Utf8.encode c).size = (Lib.encodeRune c).length := by rw [← hl]; exact Array.length_toList.symm
  have hN := fun w => Name_any (Utf8.encode c) w (by unfold maxLen; omega)
  rw [name_begins c h0 h] at hN
  replace hN : Hid _ := hN
  go_enter Tryz.func118, Tryz.ntmps118
  go_wp2_with (go_at_call 103; refine Calls.mono (hN.out _) ?_; rintro e w1 ⟨rfl, hb1⟩)
  go_returns
  exact ⟨rfl, hb1⟩
set_option maxRecDepth 100000 in
theorem goesOn_any (c : Int) (h0 : 0 ≤ c) (h : c < 55296 ∨ 57344 ≤ c ∧ c ≤ 1114111) (w : World) : Calls Tryz.prog 143 #[.int .i32 c] w fun e w' => e = .returned (.bool (runeB false c)) ∧ Below w.heap.size w w' := by
  have hl := encode_list c h0 h
  have hk := encode_len c
  have hz : (Utf8.encode c).size = (Lib.encodeRune c).length := by rw [← hl]; exact Array.length_toList.symm
  have hs : ((⟨#[95]⟩ : ByteArray) ++ Utf8.encode c).data.toList = 95 :: Lib.encodeRune c := by
    rw [Joins.data_append, hl]; rfl
  have hN := fun w => Name_any ((⟨#[95]⟩ : ByteArray) ++ Utf8.encode c) w (by unfold maxLen; rw [ByteArray.size_append, hz]; show 1 + _ ≤ _; omega)
  rw [name_goes c h0 h _ hs] at hN
  replace hN : Hid _ := hN
  have hz4 : (Utf8.encode c).size ≤ 4 := by omega
  clear hl hk hz hs
  go_enter Tryz.func143, Tryz.ntmps143
  go_wp2_with (go_at_call 103; refine Calls.mono (hN.out _) ?_; rintro e w1 ⟨rfl, hb1⟩)
  go_returns
  exact ⟨rfl, hb1⟩
end Go.Proofs.YtkcnpbckmdgfnaaGreatDoor
namespace Go.Proofs.YtkcnpbckmdgfnaaGreatDoor
open Go.RowKit
set_option linter.unusedSimpArgs false
set_option linter.unusedVariables false

/-- The same of a text, by places. -/
def spanS (p : Int → Bool) (s : ByteArray) : Nat → Nat → Nat
  | 0, pos => pos
  | b + 1, pos => if pos < s.size then (if p (Utf8.decode s pos).1 then spanS p s b (pos + (Utf8.decode s pos).2) else pos) else s.size
theorem spanS_eq (p : Int → Bool) (s : ByteArray) : ∀ b pos, s.size ≤ pos + b → pos ≤ s.size → spanS p s b pos = pos + spanL p (s.data.toList.drop pos)
  | 0, pos, h, k => by
    rw [List.drop_eq_nil_of_le (by show s.data.toList.length ≤ pos; rw [Array.length_toList]; exact h), spanL_nil]; rfl
  | b + 1, pos, h, k => by
    have hl : s.data.toList.length = s.size := Array.length_toList
    unfold spanS
    by_cases hp : pos < s.size
    · have hne : s.data.toList.drop pos ≠ [] := by
        intro e
        have := congrArg List.length e
        simp only [List.length_drop, List.length_nil] at this
        omega
      have hle := Lib.decodeL_le _ hne
      have hw := wid s pos hp
      rw [if_pos hp, spanL_step _ _ hne]
      rw [List.length_drop] at hle
      rw [Lib.decodeL_drop] at hle ⊢
      split
      · rw [spanS_eq p s b _ (by omega) (by omega), List.drop_drop]; omega
      · rfl
    · have : pos = s.size := by omega
      subst this
      rw [if_neg hp, List.drop_eq_nil_of_le (by omega), spanL_nil]; rfl
theorem spanS_all (p : Int → Bool) (s : ByteArray) : spanS p s s.size 0 = spanL p s.data.toList := by
  rw [spanS_eq p s s.size 0 (by omega) (by omega), List.drop_zero, Nat.zero_add]
theorem scalar_at (s : ByteArray) (pos : Nat) : 0 ≤ ((Utf8.decode s pos).1 : Int) ∧ (((Utf8.decode s pos).1 : Int) < 55296 ∨ 57344 ≤ ((Utf8.decode s pos).1 : Int) ∧ ((Utf8.decode s pos).1 : Int) ≤ 1114111) := by
  have := decodeL_scalar (s.data.toList.drop pos)
  rw [Lib.decodeL_drop] at this
  omega

theorem iter_below {w w' : World} {k : Nat} {o : Obj} (h : w.heap[k]? = some o) (hb : Below w.heap.size w w') : w'.heap[k]? = some o := (hb.block k (Array.getElem?_eq_some_iff.1 h).1).trans h
theorem spanS_end (p : Int → Bool) (s : ByteArray) (b pos : Nat) (h : ¬ pos < s.size) (k : pos ≤ s.size) : spanS p s b pos = s.size := by
  cases b with
  | zero => show pos = s.size; omega
  | succ b => rw [spanS, if_neg h]
theorem decode_le (s : ByteArray) (pos : Nat) (h : pos < s.size) : pos + (Utf8.decode s pos).2 ≤ s.size := by
  have hl : s.data.toList.length = s.size := Array.length_toList
  have hne : s.data.toList.drop pos ≠ [] := by
    intro e
    have := congrArg List.length e
    simp only [List.length_drop, List.length_nil] at this
    omega
  have := Lib.decodeL_le _ hne
  rw [Lib.decodeL_drop, List.length_drop] at this
  omega
theorem isDigit_below (c : Int) (w : World) : Calls Tryz.prog 116 #[.int .i32 c] w fun e w' => e = .returned (.bool (digB c)) ∧ Below w.heap.size w w' :=
  (isDigit_any c w).mono fun e w' ⟨h1, h2⟩ => ⟨h1, h2 ▸ Below.refl _ _⟩

set_option maxRecDepth 100000 in
theorem leading_goes (s : ByteArray) (hs : s.size ≤ maxLen) (w : World) : Calls Tryz.prog 141 #[.string s, .func (.func 143) #[] #[]] w fun e w' => e = .returned (.int .i64 (spanL (runeB false) s.data.toList)) ∧ Below w.heap.size w w' := by
  unfold maxLen at hs
  rw [← spanS_all]
  have hne := enters_of Tryz.func143 (by kernel_rfl) rfl
  go_enter Tryz.func141, Tryz.ntmps141
  go_wp2_with fail
  go_loopw [4, 5, 6] (fun _ _ _ wr => ∃ (pos b : Nat), wr.heap[w.heap.size]? = some (.stringIter s pos) ∧ Below w.heap.size w wr ∧ spanS (runeB false) s b pos = spanS (runeB false) s s.size 0 ∧ s.size ≤ pos + b ∧ pos ≤ s.size) (fun _ _ _ wr => s.size - wr.iterPos w.heap.size)
  case atStart => exact ⟨0, s.size, World.iter_heap _ _ _, below_new w _, rfl, by omega, by omega⟩
  case round =>
    obtain ⟨pos, b, hit, hB, hc, hb, hpl⟩ := hrel
    by_cases hp : pos < s.size
    · have hnx := fun ty => Lib.run_next_any_at (P := Tryz.prog) wr w.heap.size s pos ty hit hp
      have hwd := wid s pos hp
      have hle := decode_le s pos hp
      have hit2 := Lib.iterAt_heap wr w.heap.size s pos (pos + (Utf8.decode s pos).2) hit
      have hB2 : Below w.heap.size w (wr.iterAt w.heap.size s (pos + (Utf8.decode s pos).2)) := Lib.below_iterAt hB (Nat.le_refl _) _ _
      have hsc := scalar_at s pos
      obtain ⟨b, rfl⟩ : ∃ b', b = b' + 1 := ⟨b - 1, by omega⟩
      simp only [spanS, if_pos hp] at hc
      have hC := fun w => goesOn_any _ hsc.1 hsc.2 w
      replace hc : Hid _ := hc
      replace hC : Hid _ := hC
      replace hB2 : Hid _ := hB2
      replace hit2 : Hid _ := hit2
      replace hit : Hid _ := hit
      cases hx : (runeB false) ((Utf8.decode s pos).1 : Int)
      all_goals
        go_wp2_with (go_at_call 143; refine Calls.mono (hC.out _) ?_; rintro e w2 ⟨rfl, hb2⟩)
        replace hc := hc.out
        rw [hx] at hc
      · go_returns
        rw [← hc]
        exact ⟨rfl, hB2.out.trans (hb2.mono hB2.out.size)⟩
      · have h2 := iter_below hit2.out hb2
        exact ⟨⟨_, b, h2, hB2.out.trans (hb2.mono hB2.out.size), hc, by omega, hle⟩, by rw [iterPos_of h2, iterPos_of hit.out]; omega⟩
    · have hnx := fun ty => Lib.run_next_end_at (P := Tryz.prog) wr w.heap.size s pos ty hit hp
      go_wp2_with fail
      go_returns
      rw [← hc, spanS_end _ _ _ _ hp hpl]
      exact ⟨rfl, hB⟩

set_option maxRecDepth 100000 in
theorem leading_digits (s : ByteArray) (hs : s.size ≤ maxLen) (w : World) : Calls Tryz.prog 141 #[.string s, .func (.func 116) #[] #[]] w fun e w' => e = .returned (.int .i64 (spanL digB s.data.toList)) ∧ Below w.heap.size w w' := by
  unfold maxLen at hs
  rw [← spanS_all]
  have hne := enters_of Tryz.func116 (by kernel_rfl) rfl
  go_enter Tryz.func141, Tryz.ntmps141
  go_wp2_with fail
  go_loopw [4, 5, 6] (fun _ _ _ wr => ∃ (pos b : Nat), wr.heap[w.heap.size]? = some (.stringIter s pos) ∧ Below w.heap.size w wr ∧ spanS digB s b pos = spanS digB s s.size 0 ∧ s.size ≤ pos + b ∧ pos ≤ s.size) (fun _ _ _ wr => s.size - wr.iterPos w.heap.size)
  case atStart => exact ⟨0, s.size, World.iter_heap _ _ _, below_new w _, rfl, by omega, by omega⟩
  case round =>
    obtain ⟨pos, b, hit, hB, hc, hb, hpl⟩ := hrel
    by_cases hp : pos < s.size
    · have hnx := fun ty => Lib.run_next_any_at (P := Tryz.prog) wr w.heap.size s pos ty hit hp
      have hwd := wid s pos hp
      have hle := decode_le s pos hp
      have hit2 := Lib.iterAt_heap wr w.heap.size s pos (pos + (Utf8.decode s pos).2) hit
      have hB2 : Below w.heap.size w (wr.iterAt w.heap.size s (pos + (Utf8.decode s pos).2)) := Lib.below_iterAt hB (Nat.le_refl _) _ _
      have hsc := scalar_at s pos
      obtain ⟨b, rfl⟩ : ∃ b', b = b' + 1 := ⟨b - 1, by omega⟩
      simp only [spanS, if_pos hp] at hc
      have hC := fun w => isDigit_below ((Utf8.decode s pos).1 : Int) w
      replace hc : Hid _ := hc
      replace hC : Hid _ := hC
      replace hB2 : Hid _ := hB2
      replace hit2 : Hid _ := hit2
      replace hit : Hid _ := hit
      cases hx : digB ((Utf8.decode s pos).1 : Int)
      all_goals
        go_wp2_with (go_at_call 116; refine Calls.mono (hC.out _) ?_; rintro e w2 ⟨rfl, hb2⟩)
        replace hc := hc.out
        rw [hx] at hc
      · go_returns
        rw [← hc]
        exact ⟨rfl, hB2.out.trans (hb2.mono hB2.out.size)⟩
      · have h2 := iter_below hit2.out hb2
        exact ⟨⟨_, b, h2, hB2.out.trans (hb2.mono hB2.out.size), hc, by omega, hle⟩, by rw [iterPos_of h2, iterPos_of hit.out]; omega⟩
    · have hnx := fun ty => Lib.run_next_end_at (P := Tryz.prog) wr w.heap.size s pos ty hit hp
      go_wp2_with fail
      go_returns
      rw [← hc, spanS_end _ _ _ _ hp hpl]
      exact ⟨rfl, hB⟩

end Go.Proofs.YtkcnpbckmdgfnaaGreatDoor
