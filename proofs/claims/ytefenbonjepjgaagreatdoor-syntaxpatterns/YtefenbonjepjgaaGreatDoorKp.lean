/-
  Keys as lists of bytes: what becomes of a text whose runes are made great, and of one whose bytes are, is the same where it is a key.
-/
import Derived.Lib.MapLaws
namespace Go.Proofs.YtefenbonjepjgaaGreatDoor
open Go.Lib

/-- A great letter for a small one. -/
def up (b : UInt8) : UInt8 := if 97 ≤ b.toNat ∧ b.toNat ≤ 122 then b - 32 else b
/-- The same of a rune. -/
def upR (c : Int) : Int := if 97 ≤ c ∧ c ≤ 122 then c - 97 + 65 else c
def keysL : List (List UInt8) := [[77, 65, 84, 67, 72], [87, 72, 69, 82, 69], [82, 69, 84, 85, 82, 78], [68, 73, 83, 84, 73, 78, 67, 84], [79, 82, 68, 69, 82], [66, 89], [65, 83, 67], [68, 69, 83, 67], [76, 73, 77, 73, 84], [65, 83], [65, 78, 68], [79, 82], [78, 79, 84], [73, 83], [78, 85, 76, 76], [84, 82, 85, 69], [70, 65, 76, 83, 69], [83, 72, 79, 82, 84, 69, 83, 84], [76, 69, 78, 71, 84, 72], [67, 79, 85, 78, 84], [83, 85, 77], [77, 73, 78], [77, 65, 88]]
/-- The key that a text is, or nothing. -/
def keyL (l : List UInt8) : List UInt8 := if keysL.any (fun k => decide (l.map up = k)) then l.map up else []

theorem up_t (b : UInt8) : (up b).toNat = if 97 ≤ b.toNat ∧ b.toNat ≤ 122 then b.toNat - 32 else b.toNat := by
  unfold up
  split
  · rw [UInt8.toNat_sub]
    have := b.toNat_lt
    have e : (32 : UInt8).toNat = 32 := rfl
    rw [e]; omega
  · rfl
theorem keys_low : ∀ k ∈ keysL, ∀ b ∈ k, b.toNat < 128 := by decide
theorem keys_full : ∀ k ∈ keysL, k ≠ [] := by decide
theorem decodeL_low (b : UInt8) (l : List UInt8) (h : b.toNat < 128) : decodeL (b :: l) = (b.toNat, 1) := by
  rw [decodeL_N]
  exact decodeN_ascii _ _ _ _ _ h
theorem decodeL_high (b : UInt8) (l : List UInt8) (h : 128 ≤ b.toNat) : 128 ≤ (decodeL (b :: l)).1 := by
  rw [decodeL_N]
  have hb : ((b :: l).getD 0 0).toNat = b.toNat := rfl
  rw [hb]
  rcases decodeN_shape (b :: l).length b.toNat ((b :: l).getD 1 0).toNat ((b :: l).getD 2 0).toNat ((b :: l).getD 3 0).toNat with ⟨c, e⟩ | ⟨_, _, _, cv, e⟩ | ⟨_, _, _, _, cv, _, e⟩ | ⟨_, _, _, _, _, cv, _, e⟩ | e
  · omega
  · rw [e]; dsimp only; omega
  · rw [e]; dsimp only; omega
  · rw [e]; dsimp only; omega
  · rw [e]; dsimp only; omega
theorem decodeL_pos (l : List UInt8) : 1 ≤ (decodeL l).2 := by
  rw [decodeL_N]
  rcases decodeN_shape l.length (l.getD 0 0).toNat (l.getD 1 0).toNat (l.getD 2 0).toNat (l.getD 3 0).toNat with ⟨_, e⟩ | ⟨_, _, _, _, e⟩ | ⟨_, _, _, _, _, _, e⟩ | ⟨_, _, _, _, _, _, _, e⟩ | e <;> rw [e] <;> dsimp only <;> omega
theorem encode_low (b : UInt8) (h : b.toNat < 128) : encodeRune (b.toNat : Int) = [b] := by
  unfold encodeRune
  rw [encodeRuneZ_one (by omega) (by omega)]
  simp
theorem encode_high (r : Int) (h : 128 ≤ r) : ∃ b ∈ encodeRune r, 128 ≤ b.toNat := by
  unfold encodeRune
  have hb := encodeRuneZ_byte r
  have hh : ∃ x ∈ encodeRuneZ r, 128 ≤ x := by
    unfold encodeRuneZ
    repeat' split
    · omega
    · exact ⟨_, List.mem_cons_self .., by omega⟩
    · exact ⟨_, List.mem_cons_self .., by omega⟩
    · exact ⟨_, List.mem_cons_self .., by omega⟩
    · exact ⟨_, List.mem_cons_self .., by omega⟩
  obtain ⟨x, hx, h1⟩ := hh
  have h2 := hb x hx
  refine ⟨_, List.mem_map_of_mem hx, ?_⟩
  have : (x.toNat.toUInt8).toNat = x.toNat % 256 := by simp
  rw [this]; omega
theorem mapD_low : ∀ l : List UInt8, (∀ b ∈ l, b.toNat < 128) → mapD upR l = l.map up
  | [], _ => rfl
  | b :: l, h => by
    have hb := h b (List.mem_cons_self ..)
    have hu := up_t b
    rw [mapD_step _ _ (by simp), decodeL_low b l hb]
    dsimp only
    have hR : upR (b.toNat : Int) = ((up b).toNat : Int) := by
      unfold upR
      rw [hu]
      repeat' split
      all_goals omega
    have hlt : (up b).toNat < 128 := by rw [hu]; split <;> omega
    rw [hR, if_pos (by omega), encode_low _ hlt, List.drop_one, List.tail_cons, mapD_low l (fun c hc => h c (List.mem_cons_of_mem _ hc))]
    rfl
theorem mapD_high : ∀ (n : Nat) (l : List UInt8), l.length ≤ n → (∃ b ∈ l, 128 ≤ b.toNat) → ∃ b ∈ mapD upR l, 128 ≤ b.toNat
  | _, [], _, h => by simp at h
  | 0, _ :: _, hl, _ => by simp at hl
  | n + 1, b :: l, hl, h => by
    rw [mapD_step _ _ (by simp)]
    by_cases hb : b.toNat < 128
    · have : ∃ c ∈ l, 128 ≤ c.toNat := by
        obtain ⟨c, hc, h1⟩ := h
        rcases List.mem_cons.1 hc with rfl | hc
        · omega
        · exact ⟨c, hc, h1⟩
      obtain ⟨c, hc, h1⟩ := mapD_high n l (by simp at hl; omega) this
      rw [decodeL_low b l hb]
      exact ⟨c, List.mem_append_right _ (by simpa using hc), h1⟩
    · have hd := decodeL_high b l (by omega)
      generalize (decodeL (b :: l)).1 = r at hd
      have hR : upR (r : Int) = r := by
        unfold upR
        rw [if_neg (by omega)]
      rw [hR, if_pos (by omega)]
      obtain ⟨c, hc, h1⟩ := encode_high r (by omega)
      exact ⟨c, List.mem_append_left _ hc, h1⟩
theorem up_high (l : List UInt8) (h : ∃ b ∈ l, 128 ≤ b.toNat) : ∃ b ∈ l.map up, 128 ≤ b.toNat := by
  obtain ⟨b, hb, h1⟩ := h
  exact ⟨up b, List.mem_map_of_mem hb, by rw [up_t, if_neg (by omega)]; exact h1⟩
/-- Made great rune by rune, or byte by byte: the same where a key comes of it. -/
theorem key_either (l k : List UInt8) (hk : k ∈ keysL) : mapD upR l = k ↔ l.map up = k := by
  have hlow := keys_low k hk
  by_cases h : ∀ b ∈ l, b.toNat < 128
  · rw [mapD_low l h]
  · have h' : ∃ b ∈ l, 128 ≤ b.toNat := by
      simp only [Classical.not_forall] at h
      obtain ⟨b, hb, h1⟩ := h
      exact ⟨b, hb, by omega⟩
    constructor
    · intro e
      obtain ⟨b, hb, h1⟩ := mapD_high _ l (Nat.le_refl _) h'
      rw [e] at hb
      have := hlow b hb
      omega
    · intro e
      obtain ⟨b, hb, h1⟩ := up_high l h'
      rw [e] at hb
      have := hlow b hb
      omega
end Go.Proofs.YtefenbonjepjgaaGreatDoor
