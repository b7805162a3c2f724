/-
  Names: the contracts of the two functions that say what may be a file's name.
-/
import Derived.Test.YtgkijokgkaihoaaProg
import Derived.WalkKit
import Derived.WalkMore
import Derived.ScopeJumps
import Derived.Laws.RangeAny
import Derived.LoopTactic
namespace Go.Proofs.Ytgkijokgkaihoaa
open Go.RowKit

/-- A rune that may stand in a name. -/
def stB (r : Int) : Bool := (decide (97 ≤ r) && decide (r ≤ 122)) || (decide (48 ≤ r) && decide (r ≤ 57)) || r == 45

theorem mayStand_any (r : Int) (w : World) :
    Calls Try.prog 39 #[.int .i32 r] w fun e w' => e = .returned (.bool (stB r)) ∧ w' = w := by
  unfold stB
  by_cases h1 : 97 ≤ r <;> by_cases h2 : r ≤ 122 <;> by_cases h3 : 48 ≤ r <;> by_cases h4 : r ≤ 57 <;> by_cases h5 : r = 45
  all_goals (try omega)
  all_goals
    go_enter Try.func39, Try.ntmps39
    go_wp2
    go_ret
    refine ⟨?_, rfl⟩
    simp [*]

/-- A byte that may stand in a name. -/
def byB (b : UInt8) : Bool := stB (b.toNat : Int)
/-- Whether a text may be a file's name. -/
def nmB (s : ByteArray) : Bool := decide (1 ≤ s.size) && decide (s.size ≤ 32) && s.data.toList.all byB

theorem width_pos (s : ByteArray) (pos : Nat) (h : pos < s.size) : 1 ≤ (Utf8.decode s pos).2 := by
  by_cases ha : (s[pos]'h).toNat < 128
  · rw [decode_ascii s pos h ha]
    exact Nat.le_refl _
  · exact (decode_high s pos h (by omega)).2

theorem take_snoc (s : ByteArray) (k : Nat) (h : k < s.size) : s.data.toList.take (k + 1) = s.data.toList.take k ++ [s[k]] := by
  rw [List.take_succ_eq_append_getElem (by simpa using h)]; rfl

theorem nm_no {s : ByteArray} {pos : Nat} (h : pos < s.size) (hb : byB s[pos] = false) : nmB s = false := by
  have : s.data.toList.all byB = false := by
    rw [List.all_eq_false]
    exact ⟨s[pos], List.getElem_mem (l := s.data.toList) (n := pos) (by simpa using h), by simp [hb]⟩
  simp [nmB, this]

theorem nm_yes {s : ByteArray} {pos : Nat} (h1 : 1 ≤ s.size) (h2 : s.size ≤ 32) (hp : ¬ pos < s.size) (ha : (s.data.toList.take pos).all byB = true) : nmB s = true := by
  have hl : s.data.toList.length ≤ pos := by
    have : s.data.toList.length = s.size := rfl
    omega
  rw [List.take_of_length_le hl] at ha
  simp [nmB, ha, h1, h2]

theorem nm_short {s : ByteArray} (h : ¬ 1 ≤ s.size) : nmB s = false := by simp [nmB, h]
theorem nm_long {s : ByteArray} (h : ¬ s.size ≤ 32) : nmB s = false := by simp [nmB, h]

set_option maxRecDepth 100000 in
theorem isName_any (s : ByteArray) (w : World) :
    Calls Try.prog 27 #[.string s] w fun e w' => e = .returned (.bool (nmB s)) ∧ Below w.heap.size w w' := by
  by_cases h1 : 1 ≤ s.size
  case neg =>
    have hn := nm_short h1
    have b1 : decide ((s.size : Int) < 1) = true := by simp; omega
    go_enter Try.func27, Try.ntmps27
    go_wp2
    refine wp_scope_jumps 0 (fun a' w' => Below w.heap.size w w' ∧ ∃ u0 u1 u2 u3 u4 u5 u6 u7 u8 u9 u10 u11 u12 u13 u14 u15 u16 u17 u18 u19 u20 : Value, a' = { tmps := #[u0, u1, u2, u3, u4, u5, u6, u7, u8, u9, u10, u11, u12, u13, u14, u15, u16, u17, u18, u19, u20], defers := [] }) (fun _ _ => 0) rfl ?_ ?_
    · go_wp2
      go_step3
      exact ⟨rfl, Below.refl _ _, _, _, _, _, _, _, _, _, _, _, _, _, _, _, _, _, _, _, _, _, _, rfl⟩
    · rintro a' w' ⟨hw, u0, u1, u2, u3, u4, u5, u6, u7, u8, u9, u10, u11, u12, u13, u14, u15, u16, u17, u18, u19, u20, rfl⟩
      go_wp2
      simp only [Exit.jump]
      go_ret
      exact ⟨by rw [hn]; rfl, hw⟩
  case pos =>
  by_cases h2 : s.size ≤ 32
  case neg =>
    have hn := nm_long h2
    have b1 : decide ((s.size : Int) < 1) = false := by simp; omega
    have b2 : decide (32 < (s.size : Int)) = true := by simp; omega
    go_enter Try.func27, Try.ntmps27
    go_wp2
    refine wp_scope_jumps 0 (fun a' w' => Below w.heap.size w w' ∧ ∃ u0 u1 u2 u3 u4 u5 u6 u7 u8 u9 u10 u11 u12 u13 u14 u15 u16 u17 u18 u19 u20 : Value, a' = { tmps := #[u0, u1, u2, u3, u4, u5, u6, u7, u8, u9, u10, u11, u12, u13, u14, u15, u16, u17, u18, u19, u20], defers := [] }) (fun _ _ => 0) rfl ?_ ?_
    · go_wp2
      go_step3
      exact ⟨rfl, Below.refl _ _, _, _, _, _, _, _, _, _, _, _, _, _, _, _, _, _, _, _, _, _, _, rfl⟩
    · rintro a' w' ⟨hw, u0, u1, u2, u3, u4, u5, u6, u7, u8, u9, u10, u11, u12, u13, u14, u15, u16, u17, u18, u19, u20, rfl⟩
      go_wp2
      simp only [Exit.jump]
      go_ret
      exact ⟨by rw [hn]; rfl, hw⟩
  case pos =>
  have b1 : decide ((s.size : Int) < 1) = false := by simp; omega
  have b2 : decide (32 < (s.size : Int)) = false := by simp; omega
  go_enter Try.func27, Try.ntmps27
  go_wp2
  refine wp_scope_jumps 0 (fun a' w' => nmB s = false ∧ Below w.heap.size w w' ∧ ∃ u0 u1 u2 u3 u4 u5 u6 u7 u8 u9 u10 u11 u12 u13 u14 u15 u16 u17 u18 u19 u20 : Value, a' = { tmps := #[u0, u1, u2, u3, u4, u5, u6, u7, u8, u9, u10, u11, u12, u13, u14, u15, u16, u17, u18, u19, u20], defers := [] }) (fun _ _ => 0) rfl ?_ ?_
  · go_wp2
    go_loopw [4] (fun _ w' => ∃ pos : Nat, w' = w.iter s pos ∧ (s.data.toList.take pos).all byB = true) (fun _ w' => s.size - w'.iterPos w.heap.size)
    case atStart => exact ⟨0, rfl, by simp⟩
    case round =>
      obtain ⟨pos, rfl, ha⟩ := hrel
      have hbl : Below w.heap.size w (w.iter s pos) := (Below.refl _ _).alloc (Nat.le_refl _) _
      by_cases hp : pos < s.size
      · by_cases hs : (s[pos]'hp).toNat < 128
        · have hnx := fun ty => run_next_ascii (P := Try.prog) w s pos ty hp hs
          cases hst : stB ((s[pos]'hp).toNat : Int)
          · have hn := nm_no hp hst
            go_wp2_with (go_at_call 39; refine (mayStand_any _ _).mono ?_; rintro e w' ⟨rfl, rfl⟩)
            go_step3
            exact ⟨rfl, hn, (Below.refl _ _).alloc (Nat.le_refl _) _, _, _, _, _, _, _, _, _, _, _, _, _, _, _, _, _, _, _, _, _, _, rfl⟩
          · have hall : (s.data.toList.take (pos + 1)).all byB = true := by
              rw [take_snoc s pos hp, List.all_append, ha]
              simp [byB, hst]
            have Hall : Hid ((s.data.toList.take (pos + 1)).all byB = true) := hall
            clear hall
            go_wp2_with (go_at_call 39; refine (mayStand_any _ _).mono ?_; rintro e w' ⟨rfl, rfl⟩)
            exact ⟨⟨pos + 1, rfl, Hall.out⟩, by simp; omega⟩
        · have hnx := fun ty => run_next_any (P := Try.prog) w s pos ty hp
          have hh := (decode_high s pos hp (by omega)).1
          have hst : stB ((Utf8.decode s pos).1 : Int) = false := by
            simp [stB]
            omega
          have hn : nmB s = false := nm_no hp (by simp [byB, stB]; omega)
          go_wp2_with (go_at_call 39; refine (mayStand_any _ _).mono ?_; rintro e w' ⟨rfl, rfl⟩)
          go_step3
          exact ⟨rfl, hn, (Below.refl _ _).alloc (Nat.le_refl _) _, _, _, _, _, _, _, _, _, _, _, _, _, _, _, _, _, _, _, _, _, _, rfl⟩
      · have hnx := fun ty => run_next_end (P := Try.prog) w s pos ty hp
        have hy := nm_yes h1 h2 hp ha
        go_wp2
        simp only [Exit.jump]
        go_ret
        exact ⟨by rw [hy]; rfl, hbl⟩
  · rintro a' w' ⟨hn, hw, u0, u1, u2, u3, u4, u5, u6, u7, u8, u9, u10, u11, u12, u13, u14, u15, u16, u17, u18, u19, u20, rfl⟩
    go_wp2
    simp only [Exit.jump]
    go_ret
    exact ⟨by rw [hn]; rfl, hw⟩
end Go.Proofs.Ytgkijokgkaihoaa
