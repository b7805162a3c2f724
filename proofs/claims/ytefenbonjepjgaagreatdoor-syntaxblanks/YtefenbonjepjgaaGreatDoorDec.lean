/-
  Runes as bytes: a rune's bytes are read as it; what stands behind, or is cut off behind, turns nothing.
-/
import Derived.Test.YtefenbonjepjgaaGreatDoorWd
import Derived.Laws.Runes
namespace Go.Proofs.YtefenbonjepjgaaGreatDoor
open Go.Lib
set_option linter.unusedSimpArgs false

theorem decodeN_two {n b0 b1 b2 b3 : Nat} (h0 : b0 / 32 = 6) (h1 : 1 < n) (h2 : b1 / 64 = 2) (h3 : 128 ≤ b0 % 32 * 64 + b1 % 64) : decodeN n b0 b1 b2 b3 = (b0 % 32 * 64 + b1 % 64, 2) := by
  unfold decodeN
  rw [if_neg (by omega), if_pos ⟨h0, h1, h2⟩, if_pos h3]
theorem decodeN_three {n b0 b1 b2 b3 : Nat} (h0 : b0 / 16 = 14) (h1 : 2 < n) (h2 : b1 / 64 = 2) (h3 : b2 / 64 = 2) (h4 : 2048 ≤ b0 % 16 * 4096 + b1 % 64 * 64 + b2 % 64)
    (h5 : b0 % 16 * 4096 + b1 % 64 * 64 + b2 % 64 < 55296 ∨ 57344 ≤ b0 % 16 * 4096 + b1 % 64 * 64 + b2 % 64) : decodeN n b0 b1 b2 b3 = (b0 % 16 * 4096 + b1 % 64 * 64 + b2 % 64, 3) := by
  unfold decodeN
  rw [if_neg (by omega), if_neg (by omega), if_pos ⟨h0, ⟨by omega, h2⟩, h1, h3⟩, if_pos ⟨h4, by omega⟩]
theorem decodeN_four {n b0 b1 b2 b3 : Nat} (h0 : b0 / 8 = 30) (h1 : 3 < n) (h2 : b1 / 64 = 2) (h3 : b2 / 64 = 2) (h4 : b3 / 64 = 2) (h5 : 65536 ≤ b0 % 8 * 262144 + b1 % 64 * 4096 + b2 % 64 * 64 + b3 % 64)
    (h6 : b0 % 8 * 262144 + b1 % 64 * 4096 + b2 % 64 * 64 + b3 % 64 ≤ 1114111) : decodeN n b0 b1 b2 b3 = (b0 % 8 * 262144 + b1 % 64 * 4096 + b2 % 64 * 64 + b3 % 64, 4) := by
  unfold decodeN
  rw [if_neg (by omega), if_neg (by omega), if_neg (by omega), if_pos ⟨h0, ⟨by omega, h2⟩, ⟨by omega, h3⟩, h1, h4⟩, if_pos ⟨h5, by omega⟩]
/-- Cut off behind the rune, or not: the same rune. -/
theorem decodeN_cut (n n' b0 b1 b2 b3 c1 c2 c3 : Nat) (hn : n' ≤ n) (hw : (decodeN n b0 b1 b2 b3).2 ≤ n') (e1 : 1 < n' → c1 = b1) (e2 : 2 < n' → c2 = b2) (e3 : 3 < n' → c3 = b3) :
    decodeN n' b0 c1 c2 c3 = decodeN n b0 b1 b2 b3 := by
  rcases decodeN_shape n b0 b1 b2 b3 with ⟨c, e⟩ | ⟨h0, h1, h2, cv, e⟩ | ⟨h0, h1, h2, h3, cv, cs, e⟩ | ⟨h0, h1, h2, h3, h4, cv, cw, e⟩ | e
  · rw [e, decodeN_ascii _ _ _ _ _ c]
  · rw [e] at hw ⊢
    dsimp only at hw
    rw [e1 (by omega), decodeN_two h0 (by omega) h2 cv]
  · rw [e] at hw ⊢
    dsimp only at hw
    rw [e1 (by omega), e2 (by omega), decodeN_three h0 (by omega) h2 h3 cv cs]
  · rw [e] at hw ⊢
    dsimp only at hw
    rw [e1 (by omega), e2 (by omega), e3 (by omega), decodeN_four h0 (by omega) h2 h3 h4 cv cw]
  · rcases decodeN_shape n' b0 c1 c2 c3 with ⟨c, k⟩ | ⟨h0, h1, h2, cv, k⟩ | ⟨h0, h1, h2, h3, cv, cs, k⟩ | ⟨h0, h1, h2, h3, h4, cv, cw, k⟩ | k
    · rw [k, decodeN_ascii _ _ _ _ _ c]
    · rw [e1 (by omega)] at h2 cv
      rw [decodeN_two h0 (by omega) h2 cv] at e
      exact absurd (congrArg Prod.snd e) (by dsimp only; omega)
    · rw [e1 (by omega)] at h2 cv cs
      rw [e2 (by omega)] at h3 cv cs
      rw [decodeN_three h0 (by omega) h2 h3 cv cs] at e
      exact absurd (congrArg Prod.snd e) (by dsimp only; omega)
    · rw [e1 (by omega)] at h2 cv cw
      rw [e2 (by omega)] at h3 cv cw
      rw [e3 (by omega)] at h4 cv cw
      rw [decodeN_four h0 (by omega) h2 h3 h4 cv cw] at e
      exact absurd (congrArg Prod.snd e) (by dsimp only; omega)
    · rw [e, k]
theorem decodeL_take (l : List UInt8) (m : Nat) (hm : (decodeL l).2 ≤ m) : decodeL (l.take m) = decodeL l := by
  have hp := decodeL_pos l
  rw [decodeL_N] at hm ⊢
  rw [decodeL_N]
  have g : ∀ i, i < m → (l.take m).getD i 0 = l.getD i 0 := fun i hi => getD_takeU l m i hi
  by_cases hl : m ≤ l.length
  · have hlen : (l.take m).length = m := by simp; omega
    rw [hlen, g 0 (by rw [← decodeL_N] at hm; omega)]
    exact decodeN_cut _ _ _ _ _ _ _ _ _ hl hm (fun h => by rw [g 1 h]) (fun h => by rw [g 2 h]) (fun h => by rw [g 3 h])
  · rw [List.take_of_length_le (by omega)]
theorem decodeL_scalar (l : List UInt8) : (decodeL l).1 < 55296 ∨ 57344 ≤ (decodeL l).1 ∧ (decodeL l).1 ≤ 1114111 := by
  rw [decodeL_N]
  rcases decodeN_shape l.length (l.getD 0 0).toNat (l.getD 1 0).toNat (l.getD 2 0).toNat (l.getD 3 0).toNat with ⟨c, e⟩ | ⟨_, _, _, cv, e⟩ | ⟨_, _, _, _, cv, cs, e⟩ | ⟨_, _, _, _, _, cv, cw, e⟩ | e
  · rw [e]; dsimp only; omega
  · rw [e]; dsimp only; omega
  · rw [e]; dsimp only; omega
  · rw [e]; dsimp only; omega
  · rw [e]; dsimp only; omega
theorem toB (n : Nat) (h : n < 256) : (UInt8.ofNat n).toNat = n := by simp; omega
theorem toI (z : Int) (_h0 : 0 ≤ z) (h : z < 256) : (z.toNat.toUInt8).toNat = z.toNat := by simp; omega
/-- A rune's bytes, whatever stands behind, are read as it. -/
theorem decode_encode (c : Int) (h0 : 0 ≤ c) (h : c < 55296 ∨ 57344 ≤ c ∧ c ≤ 1114111) (r : List UInt8) : decodeL (encodeRune c ++ r) = (c.toNat, (encodeRune c).length) := by
  rw [decodeL_N]
  unfold encodeRune
  by_cases a : c ≤ 127
  · rw [encodeRuneZ_one h0 a]
    simp only [List.map_cons, List.map_nil, List.cons_append, List.nil_append, List.getD_cons_zero]
    rw [decodeN_ascii _ _ _ _ _ (by rw [toI _ h0 (by omega)]; omega), toI _ h0 (by omega)]
    rfl
  · by_cases b : c ≤ 2047
    · rw [encodeRuneZ_two (by omega) b]
      simp only [List.map_cons, List.map_nil, List.cons_append, List.nil_append, List.getD_cons_zero, List.getD_cons_succ]
      rw [toI _ (by omega) (by omega), toI _ (by omega) (by omega), decodeN_two (by omega) (by simp) (by omega) (by omega)]
      rw [show (192 + c / 64).toNat % 32 * 64 + (128 + c % 64).toNat % 64 = c.toNat by omega]
      rfl
    · by_cases d : c ≤ 65535
      · rw [encodeRuneZ_three (by omega)]
        simp only [List.map_cons, List.map_nil, List.cons_append, List.nil_append, List.getD_cons_zero, List.getD_cons_succ]
        rw [toI _ (by omega) (by omega), toI _ (by omega) (by omega), toI _ (by omega) (by omega), decodeN_three (by omega) (by simp) (by omega) (by omega) (by omega) (by omega)]
        rw [show (224 + c / 4096).toNat % 16 * 4096 + (128 + c / 64 % 64).toNat % 64 * 64 + (128 + c % 64).toNat % 64 = c.toNat by omega]
        rfl
      · rw [encodeRuneZ_four (by omega) (by omega)]
        simp only [List.map_cons, List.map_nil, List.cons_append, List.nil_append, List.getD_cons_zero, List.getD_cons_succ]
        rw [toI _ (by omega) (by omega), toI _ (by omega) (by omega), toI _ (by omega) (by omega), toI _ (by omega) (by omega), decodeN_four (by omega) (by simp) (by omega) (by omega) (by omega) (by omega) (by omega)]
        rw [show (240 + c / 262144).toNat % 8 * 262144 + (128 + c / 4096 % 64).toNat % 64 * 4096 + (128 + c / 64 % 64).toNat % 64 * 64 + (128 + c % 64).toNat % 64 = c.toNat by omega]
        rfl
/-- The model's own way to make a rune a text is the same. -/
theorem encode_list (c : Int) (h0 : 0 ≤ c) (h : c < 55296 ∨ 57344 ≤ c ∧ c ≤ 1114111) : (Utf8.encode c).data.toList = encodeRune c := by
  have hv : Utf8.valid c = true := by unfold Utf8.valid; simp; omega
  unfold Utf8.encode encodeRune
  simp only [hv, if_true]
  by_cases a : c ≤ 127
  · rw [encodeRuneZ_one h0 a, if_pos (by omega)]
    rfl
  · by_cases b : c ≤ 2047
    · rw [encodeRuneZ_two (by omega) b, if_neg (by omega), if_pos (by omega)]
      simp only [List.map_cons, List.map_nil]
      rw [show (192 + c / 64).toNat = 192 + c.toNat / 64 by omega, show (128 + c % 64).toNat = 128 + c.toNat % 64 by omega]
    · by_cases d : c ≤ 65535
      · rw [encodeRuneZ_three (by omega), if_neg (by omega), if_neg (by omega), if_pos (by omega)]
        simp only [List.map_cons, List.map_nil]
        rw [show (224 + c / 4096).toNat = 224 + c.toNat / 4096 by omega, show (128 + c / 64 % 64).toNat = 128 + c.toNat / 64 % 64 by omega, show (128 + c % 64).toNat = 128 + c.toNat % 64 by omega]
      · rw [encodeRuneZ_four (by omega) (by omega), if_neg (by omega), if_neg (by omega), if_neg (by omega)]
        simp only [List.map_cons, List.map_nil]
        rw [show (240 + c / 262144).toNat = 240 + c.toNat / 262144 by omega, show (128 + c / 4096 % 64).toNat = 128 + c.toNat / 4096 % 64 by omega, show (128 + c / 64 % 64).toNat = 128 + c.toNat / 64 % 64 by omega, show (128 + c % 64).toNat = 128 + c.toNat % 64 by omega]
theorem encode_len (c : Int) : 1 ≤ (encodeRune c).length ∧ (encodeRune c).length ≤ 4 := by
  have := encodeRuneZ_length c
  simpa [encodeRune] using this
end Go.Proofs.YtefenbonjepjgaaGreatDoor
