/-
  Lxa: turned for the seat of the expressions.
-/
import Derived.Lib.MapLaws
import Derived.Lib.ValidLaws
import Derived.Lib.ParseIntB
import Derived.Laws.Runes
namespace Go.Proofs.YtkcnpbckmdgfnaaDoor
open Go.Lib
/-- A great letter for a small one. -/
def up (b : UInt8) : UInt8 := if 97 ≤ b.toNat ∧ b.toNat ≤ 122 then b - 32 else b
/-- The same of a rune. -/
def upR (c : Int) : Int := if 97 ≤ c ∧ c ≤ 122 then c - 97 + 65 else c
def keysL : List (List UInt8) := [[77, 65, 84, 67, 72], [87, 72, 69, 82, 69], [82, 69, 84, 85, 82, 78], [68, 73, 83, 84, 73, 78, 67, 84], [79, 82, 68, 69, 82], [66, 89], [65, 83, 67], [68, 69, 83, 67], [76, 73, 77, 73, 84], [65, 83], [65, 78, 68], [79, 82], [78, 79, 84], [73, 83], [78, 85, 76, 76], [84, 82, 85, 69], [70, 65, 76, 83, 69], [83, 72, 79, 82, 84, 69, 83, 84], [76, 69, 78, 71, 84, 72], [67, 79, 85, 78, 84], [83, 85, 77], [77, 73, 78], [77, 65, 88]]
/-- The key that a text is, or nothing. -/
def keyL (l : List UInt8) : List UInt8 := if keysL.any (fun k => decide (l.map up = k)) then l.map up else []
theorem up_t (b : UInt8) : (up b).toNat = if 97 ≤ b.toNat ∧ b.toNat ≤ 122 then b.toNat - 32 else b.toNat := by
  unfold up
  split
  · rw [UInt8.toNat_sub]
    have := b.toNat_lt
    have e : (32 : UInt8).toNat = 32 := rfl
    rw [e]; omega
  · rfl
theorem keys_low : ∀ k ∈ keysL, ∀ b ∈ k, b.toNat < 128 := by decide
theorem decodeL_low (b : UInt8) (l : List UInt8) (h : b.toNat < 128) : decodeL (b :: l) = (b.toNat, 1) := by
  rw [decodeL_N]
  exact decodeN_ascii _ _ _ _ _ h
theorem decodeL_high (b : UInt8) (l : List UInt8) (h : 128 ≤ b.toNat) : 128 ≤ (decodeL (b :: l)).1 := by
  rw [decodeL_N]
  have hb : ((b :: l).getD 0 0).toNat = b.toNat := rfl
  rw [hb]
  rcases decodeN_shape (b :: l).length b.toNat ((b :: l).getD 1 0).toNat ((b :: l).getD 2 0).toNat ((b :: l).getD 3 0).toNat with ⟨c, e⟩ | ⟨_, _, _, cv, e⟩ | ⟨_, _, _, _, cv, _, e⟩ | ⟨_, _, _, _, _, cv, _, e⟩ | e
  · omega
  · rw [e]; dsimp only; omega
  · rw [e]; dsimp only; omega
  · rw [e]; dsimp only; omega
  · rw [e]; dsimp only; omega
theorem encode_low (b : UInt8) (h : b.toNat < 128) : encodeRune (b.toNat : Int) = [b] := by
  unfold encodeRune
  rw [encodeRuneZ_one (by omega) (by omega)]
  simp
theorem encode_high (r : Int) (h : 128 ≤ r) : ∃ b ∈ encodeRune r, 128 ≤ b.toNat := by
  unfold encodeRune
  have hb := encodeRuneZ_byte r
  have hh : ∃ x ∈ encodeRuneZ r, 128 ≤ x := by
    unfold encodeRuneZ
    repeat' split
    · omega
    · exact ⟨_, List.mem_cons_self .., by omega⟩
    · exact ⟨_, List.mem_cons_self .., by omega⟩
    · exact ⟨_, List.mem_cons_self .., by omega⟩
    · exact ⟨_, List.mem_cons_self .., by omega⟩
  obtain ⟨x, hx, h1⟩ := hh
  have h2 := hb x hx
  refine ⟨_, List.mem_map_of_mem hx, ?_⟩
  have : (x.toNat.toUInt8).toNat = x.toNat % 256 := by simp
  rw [this]; omega
theorem mapD_low : ∀ l : List UInt8, (∀ b ∈ l, b.toNat < 128) → mapD upR l = l.map up
  | [], _ => rfl
  | b :: l, h => by
    have hb := h b (List.mem_cons_self ..)
    have hu := up_t b
    rw [mapD_step _ _ (by simp), decodeL_low b l hb]
    dsimp only
    have hR : upR (b.toNat : Int) = ((up b).toNat : Int) := by
      unfold upR
      rw [hu]
      repeat' split
      all_goals omega
    have hlt : (up b).toNat < 128 := by rw [hu]; split <;> omega
    rw [hR, if_pos (by omega), encode_low _ hlt, List.drop_one, List.tail_cons, mapD_low l (fun c hc => h c (List.mem_cons_of_mem _ hc))]
    rfl
theorem mapD_high : ∀ (n : Nat) (l : List UInt8), l.length ≤ n → (∃ b ∈ l, 128 ≤ b.toNat) → ∃ b ∈ mapD upR l, 128 ≤ b.toNat
  | _, [], _, h => by simp at h
  | 0, _ :: _, hl, _ => by simp at hl
  | n + 1, b :: l, hl, h => by
    rw [mapD_step _ _ (by simp)]
    by_cases hb : b.toNat < 128
    · have : ∃ c ∈ l, 128 ≤ c.toNat := by
        obtain ⟨c, hc, h1⟩ := h
        rcases List.mem_cons.1 hc with rfl | hc
        · omega
        · exact ⟨c, hc, h1⟩
      obtain ⟨c, hc, h1⟩ := mapD_high n l (by simp at hl; omega) this
      rw [decodeL_low b l hb]
      exact ⟨c, List.mem_append_right _ (by simpa using hc), h1⟩
    · have hd := decodeL_high b l (by omega)
      generalize (decodeL (b :: l)).1 = r at hd
      have hR : upR (r : Int) = r := by
        unfold upR
        rw [if_neg (by omega)]
      rw [hR, if_pos (by omega)]
      obtain ⟨c, hc, h1⟩ := encode_high r (by omega)
      exact ⟨c, List.mem_append_left _ hc, h1⟩
theorem up_high (l : List UInt8) (h : ∃ b ∈ l, 128 ≤ b.toNat) : ∃ b ∈ l.map up, 128 ≤ b.toNat := by
  obtain ⟨b, hb, h1⟩ := h
  exact ⟨up b, List.mem_map_of_mem hb, by rw [up_t, if_neg (by omega)]; exact h1⟩
/-- Made great rune by rune, or byte by byte: the same where a key comes of it. -/
theorem key_either (l k : List UInt8) (hk : k ∈ keysL) : mapD upR l = k ↔ l.map up = k := by
  have hlow := keys_low k hk
  by_cases h : ∀ b ∈ l, b.toNat < 128
  · rw [mapD_low l h]
  · have h' : ∃ b ∈ l, 128 ≤ b.toNat := by
      simp only [Classical.not_forall] at h
      obtain ⟨b, hb, h1⟩ := h
      exact ⟨b, hb, by omega⟩
    constructor
    · intro e
      obtain ⟨b, hb, h1⟩ := mapD_high _ l (Nat.le_refl _) h'
      rw [e] at hb
      have := hlow b hb
      omega
    · intro e
      obtain ⟨b, hb, h1⟩ := up_high l h'
      rw [e] at hb
      have := hlow b hb
      omega
end Go.Proofs.YtkcnpbckmdgfnaaDoor
namespace Go.Proofs.YtkcnpbckmdgfnaaDoor
open Go.Lib
set_option linter.unusedSimpArgs false
/-- A letter. -/
def letB (c : Int) : Bool := decide (97 ≤ c) && decide (c ≤ 122) || decide (65 ≤ c) && decide (c ≤ 90) || decide (192 ≤ c) && decide (c ≤ 591) && !decide (c = 215) && !decide (c = 247)
def digB (c : Int) : Bool := decide (48 ≤ c) && decide (c ≤ 57)
/-- May a rune stand in a name, at its beginning or behind it? -/
def runeB (first : Bool) (c : Int) : Bool := letB c || decide (c = 95) || !first && digB c
theorem letB_t (c : Int) : letB c = true ↔ (97 ≤ c ∧ c ≤ 122 ∨ 65 ≤ c ∧ c ≤ 90 ∨ 192 ≤ c ∧ c ≤ 591 ∧ ¬ c = 215 ∧ ¬ c = 247) := by
  simp [letB]
  omega
theorem digB_t (c : Int) : digB c = true ↔ (48 ≤ c ∧ c ≤ 57) := by simp [digB]
/-- What a word is, how many bytes it has; or the error. -/
structure Wd where
  k : Int
  t : List UInt8
  n : Int
  len : Nat
  e : Int
def bad (e : Int) : Wd := ⟨0, [], 0, 0, e⟩
/-- A word in its place. -/
structure Tk where
  k : Int
  t : List UInt8
  n : Int
  at' : Nat
instance : Inhabited Tk := ⟨⟨0, [], 0, 0⟩⟩
end Go.Proofs.YtkcnpbckmdgfnaaDoor
namespace Go.Proofs.YtkcnpbckmdgfnaaDoor
open Go.Lib
set_option linter.unusedSimpArgs false
theorem decodeN_two {n b0 b1 b2 b3 : Nat} (h0 : b0 / 32 = 6) (h1 : 1 < n) (h2 : b1 / 64 = 2) (h3 : 128 ≤ b0 % 32 * 64 + b1 % 64) : decodeN n b0 b1 b2 b3 = (b0 % 32 * 64 + b1 % 64, 2) := by
  unfold decodeN
  rw [if_neg (by omega), if_pos ⟨h0, h1, h2⟩, if_pos h3]
theorem decodeN_three {n b0 b1 b2 b3 : Nat} (h0 : b0 / 16 = 14) (h1 : 2 < n) (h2 : b1 / 64 = 2) (h3 : b2 / 64 = 2) (h4 : 2048 ≤ b0 % 16 * 4096 + b1 % 64 * 64 + b2 % 64)
    (h5 : b0 % 16 * 4096 + b1 % 64 * 64 + b2 % 64 < 55296 ∨ 57344 ≤ b0 % 16 * 4096 + b1 % 64 * 64 + b2 % 64) : decodeN n b0 b1 b2 b3 = (b0 % 16 * 4096 + b1 % 64 * 64 + b2 % 64, 3) := by
  unfold decodeN
  rw [if_neg (by omega), if_neg (by omega), if_pos ⟨h0, ⟨by omega, h2⟩, h1, h3⟩, if_pos ⟨h4, by omega⟩]
theorem decodeN_four {n b0 b1 b2 b3 : Nat} (h0 : b0 / 8 = 30) (h1 : 3 < n) (h2 : b1 / 64 = 2) (h3 : b2 / 64 = 2) (h4 : b3 / 64 = 2) (h5 : 65536 ≤ b0 % 8 * 262144 + b1 % 64 * 4096 + b2 % 64 * 64 + b3 % 64)
    (h6 : b0 % 8 * 262144 + b1 % 64 * 4096 + b2 % 64 * 64 + b3 % 64 ≤ 1114111) : decodeN n b0 b1 b2 b3 = (b0 % 8 * 262144 + b1 % 64 * 4096 + b2 % 64 * 64 + b3 % 64, 4) := by
  unfold decodeN
  rw [if_neg (by omega), if_neg (by omega), if_neg (by omega), if_pos ⟨h0, ⟨by omega, h2⟩, ⟨by omega, h3⟩, h1, h4⟩, if_pos ⟨h5, by omega⟩]
theorem decodeL_scalar (l : List UInt8) : (decodeL l).1 < 55296 ∨ 57344 ≤ (decodeL l).1 ∧ (decodeL l).1 ≤ 1114111 := by
  rw [decodeL_N]
  rcases decodeN_shape l.length (l.getD 0 0).toNat (l.getD 1 0).toNat (l.getD 2 0).toNat (l.getD 3 0).toNat with ⟨c, e⟩ | ⟨_, _, _, cv, e⟩ | ⟨_, _, _, _, cv, cs, e⟩ | ⟨_, _, _, _, _, cv, cw, e⟩ | e
  · rw [e]; dsimp only; omega
  · rw [e]; dsimp only; omega
  · rw [e]; dsimp only; omega
  · rw [e]; dsimp only; omega
  · rw [e]; dsimp only; omega
theorem toI (z : Int) (_h0 : 0 ≤ z) (h : z < 256) : (z.toNat.toUInt8).toNat = z.toNat := by simp; omega
/-- A rune's bytes, whatever stands behind, are read as it. -/
theorem decode_encode (c : Int) (h0 : 0 ≤ c) (h : c < 55296 ∨ 57344 ≤ c ∧ c ≤ 1114111) (r : List UInt8) : decodeL (encodeRune c ++ r) = (c.toNat, (encodeRune c).length) := by
  rw [decodeL_N]
  unfold encodeRune
  by_cases a : c ≤ 127
  · rw [encodeRuneZ_one h0 a]
    simp only [List.map_cons, List.map_nil, List.cons_append, List.nil_append, List.getD_cons_zero]
    rw [decodeN_ascii _ _ _ _ _ (by rw [toI _ h0 (by omega)]; omega), toI _ h0 (by omega)]
    rfl
  · by_cases b : c ≤ 2047
    · rw [encodeRuneZ_two (by omega) b]
      simp only [List.map_cons, List.map_nil, List.cons_append, List.nil_append, List.getD_cons_zero, List.getD_cons_succ]
      rw [toI _ (by omega) (by omega), toI _ (by omega) (by omega), decodeN_two (by omega) (by simp) (by omega) (by omega)]
      rw [show (192 + c / 64).toNat % 32 * 64 + (128 + c % 64).toNat % 64 = c.toNat by omega]
      rfl
    · by_cases d : c ≤ 65535
      · rw [encodeRuneZ_three (by omega)]
        simp only [List.map_cons, List.map_nil, List.cons_append, List.nil_append, List.getD_cons_zero, List.getD_cons_succ]
        rw [toI _ (by omega) (by omega), toI _ (by omega) (by omega), toI _ (by omega) (by omega), decodeN_three (by omega) (by simp) (by omega) (by omega) (by omega) (by omega)]
        rw [show (224 + c / 4096).toNat % 16 * 4096 + (128 + c / 64 % 64).toNat % 64 * 64 + (128 + c % 64).toNat % 64 = c.toNat by omega]
        rfl
      · rw [encodeRuneZ_four (by omega) (by omega)]
        simp only [List.map_cons, List.map_nil, List.cons_append, List.nil_append, List.getD_cons_zero, List.getD_cons_succ]
        rw [toI _ (by omega) (by omega), toI _ (by omega) (by omega), toI _ (by omega) (by omega), toI _ (by omega) (by omega), decodeN_four (by omega) (by simp) (by omega) (by omega) (by omega) (by omega) (by omega)]
        rw [show (240 + c / 262144).toNat % 8 * 262144 + (128 + c / 4096 % 64).toNat % 64 * 4096 + (128 + c / 64 % 64).toNat % 64 * 64 + (128 + c % 64).toNat % 64 = c.toNat by omega]
        rfl
end Go.Proofs.YtkcnpbckmdgfnaaDoor
namespace Go.Proofs.YtkcnpbckmdgfnaaDoor
open Go.Lib
set_option linter.unusedSimpArgs false
theorem encode_highs (r : Int) (h : 128 ≤ r) : ∀ b ∈ encodeRune r, 128 ≤ b.toNat := by
  intro b hb
  unfold encodeRune at hb
  obtain ⟨x, hx, rfl⟩ := List.mem_map.1 hb
  have h2 := encodeRuneZ_byte r x hx
  have hh : 128 ≤ x := by
    unfold encodeRuneZ at hx
    repeat' split at hx
    all_goals
      simp at hx
      omega
  rw [toI x (by omega) (by omega)]
  omega
/-- U+FFFD written out, or a byte that is none. -/
theorem written (l : List UInt8) (hne : l ≠ []) (h : (decodeL l).1 = 65533) : ([239, 191, 189] : List UInt8).isPrefixOf l = true ↔ ¬ ((decodeL l).1 = 65533 ∧ (decodeL l).2 = 1) := by
  constructor
  · intro hp hv
    obtain ⟨r, rfl⟩ := List.isPrefixOf_iff_prefix.1 hp
    have := decode_encode 65533 (by decide) (by decide) r
    rw [show encodeRune 65533 = [239, 191, 189] by decide] at this
    rw [this] at hv
    exact absurd hv.2 (by decide)
  · intro hv
    have he := encode_decode l hne hv
    rw [h] at he
    have e3 : encodeRune ((65533 : Nat) : Int) = [239, 191, 189] := by decide
    rw [e3] at he
    exact List.isPrefixOf_iff_prefix.2 (he ▸ List.take_prefix _ _)
end Go.Proofs.YtkcnpbckmdgfnaaDoor
namespace Go.Proofs.YtkcnpbckmdgfnaaDoor
open Go.Lib
set_option linter.unusedSimpArgs false
end Go.Proofs.YtkcnpbckmdgfnaaDoor
namespace Go.Proofs.YtkcnpbckmdgfnaaDoor
open Go.Lib
set_option linter.unusedSimpArgs false
end Go.Proofs.YtkcnpbckmdgfnaaDoor
namespace Go.Proofs.YtkcnpbckmdgfnaaDoor
open Go.Lib
set_option linter.unusedSimpArgs false
end Go.Proofs.YtkcnpbckmdgfnaaDoor
namespace Go.Proofs.YtkcnpbckmdgfnaaDoor
open Go.Lib
set_option linter.unusedSimpArgs false
/-- A byte as it stands between quotes. -/
def escB (b : UInt8) : List UInt8 := if b = 39 ∨ b = 92 then [92, b] else if b = 10 then [92, 110] else [b]
def escS (l : List UInt8) : List UInt8 := l.flatMap escB
theorem escS_cons (b : UInt8) (r : List UInt8) : escS (b :: r) = escB b ++ escS r := rfl
theorem escS_app (a b : List UInt8) : escS (a ++ b) = escS a ++ escS b := by simp [escS]
theorem escS_high : ∀ l : List UInt8, (∀ b ∈ l, 128 ≤ b.toNat) → escS l = l
  | [], _ => rfl
  | b :: r, h => by
    have hb := h b (List.mem_cons_self ..)
    rw [escS_cons, escS_high r fun c hc => h c (List.mem_cons_of_mem _ hc)]
    have h1 : b ≠ 39 := fun e => by rw [e] at hb; exact absurd hb (by decide)
    have h2 : b ≠ 92 := fun e => by rw [e] at hb; exact absurd hb (by decide)
    have h3 : b ≠ 10 := fun e => by rw [e] at hb; exact absurd hb (by decide)
    unfold escB
    rw [if_neg (by simp [h1, h2]), if_neg h3]
    rfl
def quoL (l : List UInt8) : List UInt8 := 39 :: (escS l ++ [39])
end Go.Proofs.YtkcnpbckmdgfnaaDoor
