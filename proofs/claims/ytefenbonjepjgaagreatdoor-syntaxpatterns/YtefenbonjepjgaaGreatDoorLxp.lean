/-
  A text's words, step by step.
-/
import Derived.Test.YtefenbonjepjgaaGreatDoorTx
import Derived.Test.YtefenbonjepjgaaGreatDoorNum
namespace Go.Proofs.YtefenbonjepjgaaGreatDoor
open Go.Lib
set_option linter.unusedSimpArgs false

theorem scan_le : ∀ (n : Nat) (l : List UInt8), l.length ≤ n → ∀ x, scanB l = some x → x.2 + 1 ≤ l.length
  | _, [], _, x, h => by cases h
  | 0, _ :: _, hl, _, _ => by simp at hl
  | n + 1, b :: r, hl, x, h => by
    by_cases h1 : b = 39
    · rw [h1, scanB.eq_def] at h
      dsimp only at h
      rw [if_pos rfl] at h
      cases h
      simp
    · by_cases h2 : b = 92
      · subst h2
        match r, h with
        | [], h => cases h
        | c :: r, h =>
          rw [scan_esc] at h
          simp only [List.length_cons] at hl ⊢
          split at h
          · obtain ⟨y, hy, rfl⟩ := Option.map_eq_some_iff.1 h
            have := scan_le n r (by omega) y hy
            dsimp only; omega
          · split at h
            · obtain ⟨y, hy, rfl⟩ := Option.map_eq_some_iff.1 h
              have := scan_le n r (by omega) y hy
              dsimp only; omega
            · cases h
      · rw [scan_cons b r h1 h2] at h
        obtain ⟨y, hy, rfl⟩ := Option.map_eq_some_iff.1 h
        simp only [List.length_cons] at hl ⊢
        have := scan_le n r (by omega) y hy
        omega
theorem text_le (l : List UInt8) (x : List UInt8 × Nat) (h : textL l = some x) : x.2 + 1 ≤ l.length := by
  unfold textL at h
  cases hs : scanB l with
  | none => rw [hs] at h; cases h
  | some y =>
    rw [hs] at h
    dsimp only at h
    split at h
    · cases h
      exact scan_le _ l (Nat.le_refl _) _ hs
    · cases h
theorem sign_le (l : List UInt8) : (signL l).length ≤ l.length := by
  unfold signL
  cases h : signsL.find? fun g => g.isPrefixOf l with
  | none => simp
  | some g =>
    have := List.find?_some h
    obtain ⟨r, rfl⟩ := List.isPrefixOf_iff_prefix.1 this
    simp
/-- A word has a byte, and no more than there are. -/
theorem word_len (l : List UInt8) (hne : l ≠ []) (he : (wordL l).e = 0) : 1 ≤ (wordL l).len ∧ (wordL l).len ≤ l.length := by
  have hpos := decodeL_pos l
  have hle := decodeL_le l hne
  unfold wordL at he ⊢
  split at he
  · rename_i h39
    rw [if_pos h39]
    obtain ⟨e, _⟩ := head_low l hne 39 (by decide) h39
    unfold textW at he ⊢
    cases ht : textL l.tail with
    | none => rw [ht] at he; exact absurd he (by simp [bad])
    | some x =>
      have := text_le _ x ht
      rw [List.length_tail] at this
      dsimp only
      omega
  · rename_i h39
    rw [if_neg h39]
    split at he
    · rename_i hd
      rw [if_pos hd]
      unfold numW at he ⊢
      split at he
      · rename_i hm
        rw [if_pos hm]
        have h1 := spanL_le digB _ l (Nat.le_refl _)
        have h2 := spanL_step digB l hne
        rw [if_pos hd] at h2
        dsimp only
        omega
      · exact absurd he (by simp [bad])
    · rename_i hd
      rw [if_neg hd]
      split at he
      · rename_i hn
        rw [if_pos hn]
        have h1 := spanL_le (runeB false) _ l (Nat.le_refl _)
        have h2 := spanL_step (runeB false) l hne
        have hn2 : runeB false (decodeL l).1 = true := by
          unfold runeB at hn ⊢
          revert hn
          cases letB (decodeL l).1 || decide ((((decodeL l).1 : Nat) : Int) = 95) <;> simp
        rw [if_pos hn2] at h2
        unfold nameW at he ⊢
        split at he
        · rename_i hk
          rw [if_pos hk]
          dsimp only
          omega
        · rename_i hk
          rw [if_neg hk]
          split at he
          · exact absurd he (by simp [bad])
          · rename_i h32
            rw [if_neg h32]
            dsimp only
            omega
      · rename_i hn
        rw [if_neg hn]
        unfold signW at he ⊢
        split at he
        · exact absurd he (by simp [bad])
        · rename_i hs
          rw [if_neg hs]
          dsimp only
          exact ⟨List.length_pos_iff.2 hs, sign_le l⟩
def tkL (x : Wd) (at' : Nat) : Tk := ⟨x.k, x.t, x.n, at'⟩
theorem lex_end (b at' : Nat) (acc : List Tk) : lexG b at' [] acc = (acc, 0, 0) := by
  cases b <;> simp [lexG]
theorem lex_blank (b at' : Nat) (l : List UInt8) (acc : List Tk) (hne : l ≠ []) (h : blankB (decodeL l).1 = true) : lexG (b + 1) at' l acc = lexG b (at' + 1) (l.drop 1) acc := by
  rw [lexG, if_neg hne, if_pos h]
theorem lex_word (b at' : Nat) (l : List UInt8) (acc : List Tk) (hne : l ≠ []) (h : blankB (decodeL l).1 = false) (he : (wordL l).e = 0) :
    lexG (b + 1) at' l acc = lexG b (at' + (wordL l).len) (l.drop (wordL l).len) (acc ++ [tkL (wordL l) at']) := by
  rw [lexG, if_neg hne, if_neg (by rw [h]; decide), if_pos he]
  rfl
theorem lex_bad (b at' : Nat) (l : List UInt8) (acc : List Tk) (hne : l ≠ []) (h : blankB (decodeL l).1 = false) (he : (wordL l).e ≠ 0) :
    lexG (b + 1) at' l acc = ([], at', (wordL l).e) := by
  rw [lexG, if_neg hne, if_neg (by rw [h]; decide), if_neg he]
theorem blank_one (l : List UInt8) (hne : l ≠ []) (h : blankB (decodeL l).1 = true) : (decodeL l).2 = 1 := by
  match l, hne with
  | b :: r, _ =>
    by_cases hb : b.toNat < 128
    · rw [decodeL_low b r hb]
    · have := decodeL_high b r (by omega)
      rw [blankB_t] at h
      omega
end Go.Proofs.YtefenbonjepjgaaGreatDoor
