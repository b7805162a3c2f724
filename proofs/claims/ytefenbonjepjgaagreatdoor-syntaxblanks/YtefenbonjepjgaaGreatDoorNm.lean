/-
  Whether a text is a name; whether a rune begins one, or goes on in one.
-/
import Derived.Test.YtefenbonjepjgaaGreatDoorFn1
import Derived.Test.YtefenbonjepjgaaGreatDoorDec
namespace Go.Proofs.YtefenbonjepjgaaGreatDoor
open Go.RowKit
set_option linter.unusedSimpArgs false
set_option linter.unusedVariables false

/-- The runes from a place on. -/
def nameGo (s : ByteArray) : Nat → Nat → Bool
  | 0, _ => true
  | b + 1, pos => if pos < s.size then runeB (decide (pos = 0)) (Utf8.decode s pos).1 && nameGo s b (pos + (Utf8.decode s pos).2) else true
/-- What a name is. -/
def nameB (s : ByteArray) : Bool := decide (1 ≤ s.size) && decide (s.size ≤ 32) && nameGo s s.size 0

theorem wid (s : ByteArray) (pos : Nat) (h : pos < s.size) : 1 ≤ (Utf8.decode s pos).2 := by
  by_cases ha : (s[pos]'h).toNat < 128
  · rw [decode_ascii s pos h ha]
    exact Nat.le_refl _
  · exact (decode_high s pos h (by omega)).2
theorem nameGo_end (s : ByteArray) (b pos : Nat) (h : ¬ pos < s.size) : nameGo s b pos = true := by
  cases b <;> simp [nameGo, h]

set_option maxRecDepth 100000 in
theorem Name_any (s : ByteArray) (w : World) (hs : s.size ≤ maxLen) :
    Calls Tryz.prog 85 #[.string s] w fun e w' => e = .returned (.bool (nameB s)) ∧ Below w.heap.size w w' := by
  unfold maxLen at hs
  by_cases h1 : 1 ≤ s.size
  case neg =>
    rw [show nameB s = false by simp [nameB, h1]]
    go_enter Tryz.func85, Tryz.ntmps85
    go_wp2_with fail
    all_goals first | (exfalso; omega) | (go_returns; exact ⟨rfl, by go_grown⟩)
  by_cases h2 : s.size ≤ 32
  case neg =>
    rw [show nameB s = false by simp [nameB, h2]]
    go_enter Tryz.func85, Tryz.ntmps85
    go_wp2_with fail
    all_goals first | (exfalso; omega) | (go_returns; exact ⟨rfl, by go_grown⟩)
  rw [show nameB s = nameGo s s.size 0 by simp [nameB, h1, h2]]
  go_enter Tryz.func85, Tryz.ntmps85
  go_wp2_with fail
  all_goals try (exfalso; omega)
  go_loopw [2, 3, 4] (fun _ _ _ w' => ∃ (pos b : Nat), w' = w.iter s pos ∧ nameGo s b pos = nameGo s s.size 0 ∧ s.size ≤ pos + b) (fun _ _ _ w' => s.size - w'.iterPos w.heap.size)
  case atStart => exact ⟨0, s.size, rfl, rfl, by omega⟩
  case round =>
    obtain ⟨pos, b, rfl, hc, hb⟩ := hrel
    by_cases hp : pos < s.size
    · have hnx : ∀ ty, (Instr.next (.pointer (some ⟨w.heap.size, 0, none⟩)) true ty).run Tryz.prog (w.iter s pos) = _ := fun ty => run_next_any w s pos ty hp
      have hwd := wid s pos hp
      have hb1 : 1 ≤ b := by omega
      obtain ⟨b, rfl⟩ : ∃ b', b = b' + 1 := ⟨b - 1, by omega⟩
      simp only [nameGo, if_pos hp] at hc
      cases hx : runeB (decide (pos = 0)) (Utf8.decode s pos).1
      all_goals
        rw [hx] at hc
        simp only [Bool.false_and, Bool.true_and] at hc
        unfold runeB at hx
        by_cases h0 : pos = 0
        all_goals
          try subst h0
          try simp only [Nat.zero_add] at hc
          replace hc : Hid _ := hc
          replace hx : Hid _ := hx
          go_wp2_with (first
            | (go_at_call 108; refine (isLetter_any _ _).mono ?_; rintro e w1 ⟨rfl, rfl⟩)
            | (go_at_call 109; refine (isDig_any _ _).mono ?_; rintro e w1 ⟨rfl, rfl⟩))
          all_goals replace hc := hc.out
          all_goals replace hx := hx.out
          all_goals first
            | (exfalso; simp_all; done)
            | exact ⟨⟨_, b, rfl, hc, by omega⟩, by simp; omega⟩
            | (go_returns; exact ⟨by simp [← hc], below_new w _⟩)
    · have hnx : ∀ ty, (Instr.next (.pointer (some ⟨w.heap.size, 0, none⟩)) true ty).run Tryz.prog (w.iter s pos) = _ := fun ty => run_next_end w s pos ty hp
      go_wp2_with fail
      rw [nameGo_end s b pos hp] at hc
      go_returns
      exact ⟨by simp [← hc], below_new w _⟩


theorem name_one (s : ByteArray) (p : Nat) (c : Int) (hd : Utf8.decode s p = (c.toNat, s.size - p)) (hp : p < s.size) (h0 : 0 ≤ c) (b : Nat) (hb : s.size ≤ p + b) : nameGo s b p = runeB (decide (p = 0)) c := by
  obtain ⟨b, rfl⟩ : ∃ b', b = b' + 1 := ⟨b - 1, by omega⟩
  rw [nameGo, if_pos hp, hd]
  dsimp only
  rw [nameGo_end _ _ _ (by omega), Bool.and_true, show ((c.toNat : Nat) : Int) = c by omega]
theorem name_begins (c : Int) (h0 : 0 ≤ c) (h : c < 55296 ∨ 57344 ≤ c ∧ c ≤ 1114111) : nameB (Utf8.encode c) = runeB true c := by
  have hl := encode_list c h0 h
  have hk := encode_len c
  have hz : (Utf8.encode c).size = (Lib.encodeRune c).length := by rw [← hl]; exact Array.length_toList.symm
  have hd : Utf8.decode (Utf8.encode c) 0 = (c.toNat, (Utf8.encode c).size - 0) := by
    rw [← Lib.decodeL_drop, List.drop_zero, hl, hz]
    have := decode_encode c h0 h []
    rwa [List.append_nil] at this
  have hn := name_one (Utf8.encode c) 0 c hd (by omega) h0 (Utf8.encode c).size (by omega)
  rw [nameB, hn, show decide (1 ≤ (Utf8.encode c).size) = true by simp; omega, show decide ((Utf8.encode c).size ≤ 32) = true by simp; omega]
  simp
theorem name_goes (c : Int) (h0 : 0 ≤ c) (h : c < 55296 ∨ 57344 ≤ c ∧ c ≤ 1114111) (s : ByteArray) (hs : s.data.toList = 95 :: Lib.encodeRune c) : nameB s = runeB false c := by
  have hk := encode_len c
  have hz : s.size = (Lib.encodeRune c).length + 1 := by
    have := congrArg List.length hs
    rw [List.length_cons] at this
    exact this
  have hd0 : Utf8.decode s 0 = (95, 1) := by
    rw [← Lib.decodeL_drop, List.drop_zero, hs]
    exact decodeL_low 95 _ (by decide)
  have hd : Utf8.decode s 1 = (c.toNat, s.size - 1) := by
    rw [← Lib.decodeL_drop, hs, hz, List.drop_one, List.tail_cons]
    have := decode_encode c h0 h []
    rw [List.append_nil] at this
    rw [this, Nat.add_sub_cancel]
  obtain ⟨b, hb⟩ : ∃ b, s.size = b + 1 := ⟨s.size - 1, by omega⟩
  have hn := name_one s 1 c hd (by omega) h0 b (by omega)
  rw [nameB, hb, nameGo, if_pos (by omega), hd0]
  dsimp only
  rw [hn, show decide (1 ≤ b + 1) = true by simp, show decide (b + 1 ≤ 32) = true by simp; omega]
  simp [runeB]
set_option maxRecDepth 100000 in
theorem beginsName_any (c : Int) (h0 : 0 ≤ c) (h : c < 55296 ∨ 57344 ≤ c ∧ c ≤ 1114111) (w : World) : Calls Tryz.prog 59 #[.int .i32 c] w fun e w' => e = .returned (.bool (runeB true c)) ∧ Below w.heap.size w w' := by
  have hl := encode_list c h0 h
  have hk := encode_len c
  have hz : (Utf8.encode c).size = (Lib.encodeRune c).length := by rw [← hl]; exact Array.length_toList.symm
  have hN := fun w => Name_any (Utf8.encode c) w (by unfold maxLen; omega)
  rw [name_begins c h0 h] at hN
  replace hN : Hid _ := hN
  go_enter Tryz.func59, Tryz.ntmps59
  go_wp2_with (go_at_call 85; refine Calls.mono (hN.out _) ?_; rintro e w1 ⟨rfl, hb1⟩)
  go_returns
  exact ⟨rfl, hb1⟩
set_option maxRecDepth 100000 in
theorem goesOn_any (c : Int) (h0 : 0 ≤ c) (h : c < 55296 ∨ 57344 ≤ c ∧ c ≤ 1114111) (w : World) : Calls Tryz.prog 86 #[.int .i32 c] w fun e w' => e = .returned (.bool (runeB false c)) ∧ Below w.heap.size w w' := by
  have hl := encode_list c h0 h
  have hk := encode_len c
  have hz : (Utf8.encode c).size = (Lib.encodeRune c).length := by rw [← hl]; exact Array.length_toList.symm
  have hs : ((⟨#[95]⟩ : ByteArray) ++ Utf8.encode c).data.toList = 95 :: Lib.encodeRune c := by
    rw [Joins.data_append, hl]; rfl
  have hN := fun w => Name_any ((⟨#[95]⟩ : ByteArray) ++ Utf8.encode c) w (by unfold maxLen; rw [ByteArray.size_append, hz]; show 1 + _ ≤ _; omega)
  rw [name_goes c h0 h _ hs] at hN
  replace hN : Hid _ := hN
  have hz4 : (Utf8.encode c).size ≤ 4 := by omega
  clear hl hk hz hs
  go_enter Tryz.func86, Tryz.ntmps86
  go_wp2_with (go_at_call 85; refine Calls.mono (hN.out _) ?_; rintro e w1 ⟨rfl, hb1⟩)
  go_returns
  exact ⟨rfl, hb1⟩
end Go.Proofs.YtefenbonjepjgaaGreatDoor
