/-
  A text between quotes is read as it: pure.
-/
import Derived.Test.YtdnlnghgjjiajaaDoorMov
namespace Go.Proofs.YtdnlnghgjjiajaaDoor
open Go.Lib
set_option linter.unusedSimpArgs false

/-- A byte as it stands between quotes. -/
def escB (b : UInt8) : List UInt8 := if b = 39 ∨ b = 92 then [92, b] else if b = 10 then [92, 110] else [b]
def escS (l : List UInt8) : List UInt8 := l.flatMap escB
theorem escS_cons (b : UInt8) (r : List UInt8) : escS (b :: r) = escB b ++ escS r := rfl
theorem escS_app (a b : List UInt8) : escS (a ++ b) = escS a ++ escS b := by simp [escS]
theorem escS_high : ∀ l : List UInt8, (∀ b ∈ l, 128 ≤ b.toNat) → escS l = l
  | [], _ => rfl
  | b :: r, h => by
    have hb := h b (List.mem_cons_self ..)
    rw [escS_cons, escS_high r fun c hc => h c (List.mem_cons_of_mem _ hc)]
    have h1 : b ≠ 39 := fun e => by rw [e] at hb; exact absurd hb (by decide)
    have h2 : b ≠ 92 := fun e => by rw [e] at hb; exact absurd hb (by decide)
    have h3 : b ≠ 10 := fun e => by rw [e] at hb; exact absurd hb (by decide)
    unfold escB
    rw [if_neg (by simp [h1, h2]), if_neg h3]
    rfl
theorem scan_quoted : ∀ l : List UInt8, scanB (escS l ++ [39]) = some (l, (escS l).length)
  | [] => by
    show scanB [39] = _
    rw [scanB.eq_def]
    rfl
  | b :: r => by
    have ih := scan_quoted r
    rw [escS_cons]
    unfold escB
    split
    · rename_i h
      show scanB (92 :: b :: (escS r ++ [39])) = _
      rw [scan_esc, if_pos h, ih]
      simp
    · rename_i h
      split
      · rename_i h3
        subst h3
        show scanB (92 :: 110 :: (escS r ++ [39])) = _
        rw [scan_esc, if_neg (by decide), if_pos rfl, ih]
        simp
      · show scanB (b :: (escS r ++ [39])) = _
        rw [scan_cons b _ (fun e => h (.inl e)) (fun e => h (.inr e)), ih]
        simp
theorem valid_low (b : UInt8) (r : List UInt8) (h : b.toNat < 128) : validD (b :: r) = validD r := by
  rw [validD_step _ (by simp), decodeL_low b r h]
  dsimp only
  rw [if_neg (by omega)]
  rfl
theorem escB_low (b : UInt8) (h : b.toNat < 128) (y : List UInt8) : validD (escB b ++ y) = validD y := by
  unfold escB
  split
  · show validD (92 :: b :: y) = _
    rw [valid_low 92 _ (by decide), valid_low b _ h]
  · split
    · show validD (92 :: 110 :: y) = _
      rw [valid_low 92 _ (by decide), valid_low 110 _ (by decide)]
    · exact valid_low b y h
theorem valid_quoted : ∀ (n : Nat) (l : List UInt8), l.length ≤ n → validD l = true → validD (escS l) = true
  | _, [], _, h => h
  | 0, _ :: _, hl, _ => by simp at hl
  | n + 1, b :: r, hl, h => by
    by_cases hb : b.toNat < 128
    · rw [valid_low b r hb] at h
      rw [escS_cons, escB_low b hb]
      exact valid_quoted n r (by simpa using hl) h
    · have hne : b :: r ≠ [] := by simp
      have hhi := decodeL_high b r (by omega)
      have hle := decodeL_le (b :: r) hne
      have hpos := decodeL_pos (b :: r)
      have hsc := decodeL_scalar (b :: r)
      rw [validD_step _ hne] at h
      split at h
      · cases h
      · rename_i hv
        have he := encode_decode (b :: r) hne hv
        generalize b :: r = L at *
        generalize hD : decodeL L = D at *
        obtain ⟨c, w⟩ := D
        dsimp only at *
        have hel : (encodeRune (c : Int)).length = w := by rw [he, List.length_take]; omega
        have e1 : escS L = encodeRune (c : Int) ++ escS (L.drop w) := by
          have : escS L = escS (L.take w ++ L.drop w) := by rw [List.take_append_drop]
          rw [this, escS_app, ← he, escS_high _ (encode_highs (c : Int) (by omega))]
        have hde := decode_encode (c : Int) (by omega) (by omega) (escS (L.drop w))
        have hne2 : encodeRune (c : Int) ++ escS (L.drop w) ≠ [] := fun e => by
          have := congrArg List.length e
          rw [List.length_append, hel] at this
          simp at this
          omega
        rw [e1, validD_step _ hne2, hde]
        dsimp only
        rw [hel, Int.toNat_natCast, if_neg hv]
        have hdr : (encodeRune (c : Int) ++ escS (L.drop w)).drop w = escS (L.drop w) := by
          rw [← hel, List.drop_left]
        rw [hdr]
        exact valid_quoted n _ (by rw [List.length_drop]; omega) h
def quoL (l : List UInt8) : List UInt8 := 39 :: (escS l ++ [39])
theorem lex_quoted (l : List UInt8) (hv : validD l = true) (hl : (quoL l).length ≤ 4096) : lexL (quoL l) = ([⟨4, l, 0, 0⟩], 0, 0) := by
  have hw : wordL (quoL l) = ⟨4, l, 0, (escS l).length + 2, 0⟩ := by
    unfold wordL quoL
    rw [decodeL_low 39 _ (by decide)]
    dsimp only
    rw [if_pos (by decide)]
    unfold textW textL
    rw [List.tail_cons, scan_quoted]
    dsimp only
    rw [List.take_left, valid_quoted _ l (Nat.le_refl _) hv, if_pos rfl]
  have hz : (quoL l).length = (escS l).length + 2 := by simp [quoL]
  unfold lexL
  rw [if_neg (by omega), hz, lex_word _ _ _ _ (by simp [quoL]) (by unfold quoL; rw [decodeL_low 39 _ (by decide)]; decide) (by rw [hw]), hw]
  dsimp only
  rw [← hz, List.drop_length, lex_end]
  rfl
end Go.Proofs.YtdnlnghgjjiajaaDoor
