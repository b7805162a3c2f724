/-
  Keys as lists of bytes: what becomes of a text whose runes are made great, and of one whose bytes are, is the same where it is a key.
  Words as lists of bytes: what stands at a text's beginning, or why nothing does; all words of a text.
  Runes as bytes: a rune's bytes are read as it; what stands behind, or is cut off behind, turns nothing.
  Texts between quotes, byte by byte and rune by rune.
  Digits as a number: what the library makes of them.
  A text's words, step by step.
  Blanks ahead of a text, and a blank behind it: pure.
  A text between quotes is read as it: pure.
-/
import Derived.Lib.MapLaws
import Derived.Lib.ValidLaws
import Derived.Lib.ParseIntB
import Derived.Laws.Runes
namespace Go.Proofs.YtkcnpbckmdgfnaaGreatDoor
open Go.Lib

/-- A great letter for a small one. -/
def up (b : UInt8) : UInt8 := if 97 ≤ b.toNat ∧ b.toNat ≤ 122 then b - 32 else b
/-- The same of a rune. -/
def upR (c : Int) : Int := if 97 ≤ c ∧ c ≤ 122 then c - 97 + 65 else c
def keysL : List (List UInt8) := [[77, 65, 84, 67, 72], [87, 72, 69, 82, 69], [82, 69, 84, 85, 82, 78], [68, 73, 83, 84, 73, 78, 67, 84], [79, 82, 68, 69, 82], [66, 89], [65, 83, 67], [68, 69, 83, 67], [76, 73, 77, 73, 84], [65, 83], [65, 78, 68], [79, 82], [78, 79, 84], [73, 83], [78, 85, 76, 76], [84, 82, 85, 69], [70, 65, 76, 83, 69], [83, 72, 79, 82, 84, 69, 83, 84], [76, 69, 78, 71, 84, 72], [67, 79, 85, 78, 84], [83, 85, 77], [77, 73, 78], [77, 65, 88]]
/-- The key that a text is, or nothing. -/
def keyL (l : List UInt8) : List UInt8 := if keysL.any (fun k => decide (l.map up = k)) then l.map up else []

theorem up_t (b : UInt8) : (up b).toNat = if 97 ≤ b.toNat ∧ b.toNat ≤ 122 then b.toNat - 32 else b.toNat := by
  unfold up
  split
  · rw [UInt8.toNat_sub]
    have := b.toNat_lt
    have e : (32 : UInt8).toNat = 32 := rfl
    rw [e]; omega
  · rfl
theorem keys_low : ∀ k ∈ keysL, ∀ b ∈ k, b.toNat < 128 := by decide
theorem keys_full : ∀ k ∈ keysL, k ≠ [] := by decide
theorem decodeL_low (b : UInt8) (l : List UInt8) (h : b.toNat < 128) : decodeL (b :: l) = (b.toNat, 1) := by
  rw [decodeL_N]
  exact decodeN_ascii _ _ _ _ _ h
theorem decodeL_high (b : UInt8) (l : List UInt8) (h : 128 ≤ b.toNat) : 128 ≤ (decodeL (b :: l)).1 := by
  rw [decodeL_N]
  have hb : ((b :: l).getD 0 0).toNat = b.toNat := rfl
  rw [hb]
  rcases decodeN_shape (b :: l).length b.toNat ((b :: l).getD 1 0).toNat ((b :: l).getD 2 0).toNat ((b :: l).getD 3 0).toNat with ⟨c, e⟩ | ⟨_, _, _, cv, e⟩ | ⟨_, _, _, _, cv, _, e⟩ | ⟨_, _, _, _, _, cv, _, e⟩ | e
  · omega
  · rw [e]; dsimp only; omega
  · rw [e]; dsimp only; omega
  · rw [e]; dsimp only; omega
  · rw [e]; dsimp only; omega
theorem decodeL_pos (l : List UInt8) : 1 ≤ (decodeL l).2 := by
  rw [decodeL_N]
  rcases decodeN_shape l.length (l.getD 0 0).toNat (l.getD 1 0).toNat (l.getD 2 0).toNat (l.getD 3 0).toNat with ⟨_, e⟩ | ⟨_, _, _, _, e⟩ | ⟨_, _, _, _, _, _, e⟩ | ⟨_, _, _, _, _, _, _, e⟩ | e <;> rw [e] <;> dsimp only <;> omega
theorem encode_low (b : UInt8) (h : b.toNat < 128) : encodeRune (b.toNat : Int) = [b] := by
  unfold encodeRune
  rw [encodeRuneZ_one (by omega) (by omega)]
  simp
theorem encode_high (r : Int) (h : 128 ≤ r) : ∃ b ∈ encodeRune r, 128 ≤ b.toNat := by
  unfold encodeRune
  have hb := encodeRuneZ_byte r
  have hh : ∃ x ∈ encodeRuneZ r, 128 ≤ x := by
    unfold encodeRuneZ
    repeat' split
    · omega
    · exact ⟨_, List.mem_cons_self .., by omega⟩
    · exact ⟨_, List.mem_cons_self .., by omega⟩
    · exact ⟨_, List.mem_cons_self .., by omega⟩
    · exact ⟨_, List.mem_cons_self .., by omega⟩
  obtain ⟨x, hx, h1⟩ := hh
  have h2 := hb x hx
  refine ⟨_, List.mem_map_of_mem hx, ?_⟩
  have : (x.toNat.toUInt8).toNat = x.toNat % 256 := by simp
  rw [this]; omega
theorem mapD_low : ∀ l : List UInt8, (∀ b ∈ l, b.toNat < 128) → mapD upR l = l.map up
  | [], _ => rfl
  | b :: l, h => by
    have hb := h b (List.mem_cons_self ..)
    have hu := up_t b
    rw [mapD_step _ _ (by simp), decodeL_low b l hb]
    dsimp only
    have hR : upR (b.toNat : Int) = ((up b).toNat : Int) := by
      unfold upR
      rw [hu]
      repeat' split
      all_goals omega
    have hlt : (up b).toNat < 128 := by rw [hu]; split <;> omega
    rw [hR, if_pos (by omega), encode_low _ hlt, List.drop_one, List.tail_cons, mapD_low l (fun c hc => h c (List.mem_cons_of_mem _ hc))]
    rfl
theorem mapD_high : ∀ (n : Nat) (l : List UInt8), l.length ≤ n → (∃ b ∈ l, 128 ≤ b.toNat) → ∃ b ∈ mapD upR l, 128 ≤ b.toNat
  | _, [], _, h => by simp at h
  | 0, _ :: _, hl, _ => by simp at hl
  | n + 1, b :: l, hl, h => by
    rw [mapD_step _ _ (by simp)]
    by_cases hb : b.toNat < 128
    · have : ∃ c ∈ l, 128 ≤ c.toNat := by
        obtain ⟨c, hc, h1⟩ := h
        rcases List.mem_cons.1 hc with rfl | hc
        · omega
        · exact ⟨c, hc, h1⟩
      obtain ⟨c, hc, h1⟩ := mapD_high n l (by simp at hl; omega) this
      rw [decodeL_low b l hb]
      exact ⟨c, List.mem_append_right _ (by simpa using hc), h1⟩
    · have hd := decodeL_high b l (by omega)
      generalize (decodeL (b :: l)).1 = r at hd
      have hR : upR (r : Int) = r := by
        unfold upR
        rw [if_neg (by omega)]
      rw [hR, if_pos (by omega)]
      obtain ⟨c, hc, h1⟩ := encode_high r (by omega)
      exact ⟨c, List.mem_append_left _ hc, h1⟩
theorem up_high (l : List UInt8) (h : ∃ b ∈ l, 128 ≤ b.toNat) : ∃ b ∈ l.map up, 128 ≤ b.toNat := by
  obtain ⟨b, hb, h1⟩ := h
  exact ⟨up b, List.mem_map_of_mem hb, by rw [up_t, if_neg (by omega)]; exact h1⟩
/-- Made great rune by rune, or byte by byte: the same where a key comes of it. -/
theorem key_either (l k : List UInt8) (hk : k ∈ keysL) : mapD upR l = k ↔ l.map up = k := by
  have hlow := keys_low k hk
  by_cases h : ∀ b ∈ l, b.toNat < 128
  · rw [mapD_low l h]
  · have h' : ∃ b ∈ l, 128 ≤ b.toNat := by
      simp only [Classical.not_forall] at h
      obtain ⟨b, hb, h1⟩ := h
      exact ⟨b, hb, by omega⟩
    constructor
    · intro e
      obtain ⟨b, hb, h1⟩ := mapD_high _ l (Nat.le_refl _) h'
      rw [e] at hb
      have := hlow b hb
      omega
    · intro e
      obtain ⟨b, hb, h1⟩ := up_high l h'
      rw [e] at hb
      have := hlow b hb
      omega
end Go.Proofs.YtkcnpbckmdgfnaaGreatDoor
namespace Go.Proofs.YtkcnpbckmdgfnaaGreatDoor
open Go.Lib
set_option linter.unusedSimpArgs false

/-- A letter. -/
def letB (c : Int) : Bool := decide (97 ≤ c) && decide (c ≤ 122) || decide (65 ≤ c) && decide (c ≤ 90) || decide (192 ≤ c) && decide (c ≤ 591) && !decide (c = 215) && !decide (c = 247)
def digB (c : Int) : Bool := decide (48 ≤ c) && decide (c ≤ 57)
/-- May a rune stand in a name, at its beginning or behind it? -/
def runeB (first : Bool) (c : Int) : Bool := letB c || decide (c = 95) || !first && digB c
def blankB (c : Int) : Bool := decide (c = 32) || decide (c = 9) || decide (c = 10) || decide (c = 13)
theorem letB_t (c : Int) : letB c = true ↔ (97 ≤ c ∧ c ≤ 122 ∨ 65 ≤ c ∧ c ≤ 90 ∨ 192 ≤ c ∧ c ≤ 591 ∧ ¬ c = 215 ∧ ¬ c = 247) := by
  simp [letB]
  omega
theorem digB_t (c : Int) : digB c = true ↔ (48 ≤ c ∧ c ≤ 57) := by simp [digB]
theorem blankB_t (c : Int) : blankB c = true ↔ (c = 32 ∨ c = 9 ∨ c = 10 ∨ c = 13) := by simp [blankB, or_assoc]

/-- How many bytes the runes have that stand ahead and are as p tells. -/
def spanG (p : Int → Bool) : Nat → List UInt8 → Nat
  | 0, _ => 0
  | n + 1, l => if l = [] then 0 else if p (decodeL l).1 then (decodeL l).2 + spanG p n (l.drop (decodeL l).2) else 0
def spanL (p : Int → Bool) (l : List UInt8) : Nat := spanG p l.length l
theorem spanG_fuel (p : Int → Bool) : ∀ (n m : Nat) (l : List UInt8), l.length ≤ n → l.length ≤ m → spanG p n l = spanG p m l
  | 0, 0, _, _, _ => rfl
  | 0, m + 1, l, h, _ => by
    have : l = [] := List.length_eq_zero_iff.1 (by omega)
    simp [spanG, this]
  | n + 1, 0, l, _, h => by
    have : l = [] := List.length_eq_zero_iff.1 (by omega)
    simp [spanG, this]
  | n + 1, m + 1, l, h, k => by
    unfold spanG
    split
    · rfl
    · have := decodeL_pos l
      split
      · rw [spanG_fuel p n m _ (by simp; omega) (by simp; omega)]
      · rfl
theorem spanL_nil (p : Int → Bool) : spanL p [] = 0 := rfl
theorem spanL_step (p : Int → Bool) (l : List UInt8) (hne : l ≠ []) : spanL p l = if p (decodeL l).1 then (decodeL l).2 + spanL p (l.drop (decodeL l).2) else 0 := by
  have hl : 0 < l.length := List.length_pos_iff.2 hne
  obtain ⟨n, hn⟩ : ∃ n, l.length = n + 1 := ⟨l.length - 1, by omega⟩
  unfold spanL
  have := decodeL_pos l
  rw [hn, spanG, if_neg hne]
  split
  · rw [spanG_fuel p n (l.drop (decodeL l).2).length _ (by simp; omega) (Nat.le_refl _)]
  · rfl
theorem spanL_le (p : Int → Bool) : ∀ (n : Nat) (l : List UInt8), l.length ≤ n → spanL p l ≤ l.length
  | 0, l, h => by
    have : l = [] := List.length_eq_zero_iff.1 (by omega)
    subst this; exact Nat.le_refl _
  | n + 1, l, h => by
    by_cases hne : l = []
    · subst hne; exact Nat.le_refl _
    · rw [spanL_step p l hne]
      have h1 := decodeL_pos l
      have h2 := decodeL_le l hne
      split
      · have := spanL_le p n (l.drop (decodeL l).2) (by simp; omega)
        simp at this; omega
      · exact Nat.zero_le _

/-- What a word is, how many bytes it has; or the error. -/
structure Wd where
  k : Int
  t : List UInt8
  n : Int
  len : Nat
  e : Int
def bad (e : Int) : Wd := ⟨0, [], 0, 0, e⟩
def nameW (l : List UInt8) : Wd :=
  if keyL (l.take (spanL (runeB false) l)) ≠ [] then ⟨2, keyL (l.take (spanL (runeB false) l)), 0, spanL (runeB false) l, 0⟩
  else if 32 < spanL (runeB false) l then bad 74
  else ⟨1, l.take (spanL (runeB false) l), 0, spanL (runeB false) l, 0⟩
/-- The number of digits, behind a number. -/
def numFrom (v : Nat) (l : List UInt8) : Nat := l.foldl (fun v b => 10 * v + (b.toNat - 48)) v
def maxI : Nat := 9223372036854775807
def numW (l : List UInt8) : Wd :=
  if numFrom 0 (l.take (spanL digB l)) ≤ maxI then ⟨3, [], numFrom 0 (l.take (spanL digB l)), spanL digB l, 0⟩ else bad 72
/-- Up to the closing quote: what stands there, and how many bytes. -/
def scanB : List UInt8 → Option (List UInt8 × Nat)
  | [] => none
  | b :: r =>
    if b = 39 then some ([], 0)
    else if b = 92 then
      match r with
      | [] => none
      | c :: r' =>
        if c = 39 ∨ c = 92 then (scanB r').map fun x => (c :: x.1, x.2 + 2)
        else if c = 110 then (scanB r').map fun x => (10 :: x.1, x.2 + 2)
        else none
    else (scanB r).map fun x => (b :: x.1, x.2 + 1)
/-- The same where it is UTF-8. -/
def textL (l : List UInt8) : Option (List UInt8 × Nat) :=
  match scanB l with
  | none => none
  | some x => if validD (l.take x.2) then some x else none
def textW (l : List UInt8) : Wd :=
  match textL l.tail with
  | none => bad 73
  | some x => ⟨4, x.1, 0, x.2 + 2, 0⟩
def twosL : List (List UInt8) := [[60, 62], [60, 61], [62, 61], [46, 46]]
def onesL : List (List UInt8) := [[40], [41], [91], [93], [45], [62], [60], [44], [58], [46], [61], [43], [42], [47], [37]]
def signsL : List (List UInt8) := twosL ++ onesL
def signL (l : List UInt8) : List UInt8 := (signsL.find? fun g => g.isPrefixOf l).getD []
def signW (l : List UInt8) : Wd := if signL l = [] then bad 71 else ⟨5, signL l, 0, (signL l).length, 0⟩
/-- The word with which a text begins. -/
def wordL (l : List UInt8) : Wd :=
  if (decodeL l).1 = 39 then textW l
  else if digB (decodeL l).1 then numW l
  else if runeB true (decodeL l).1 then nameW l
  else signW l
/-- A word in its place. -/
structure Tk where
  k : Int
  t : List UInt8
  n : Int
  at' : Nat
instance : Inhabited Tk := ⟨⟨0, [], 0, 0⟩⟩
def lexG : Nat → Nat → List UInt8 → List Tk → List Tk × Nat × Int
  | 0, _, _, acc => (acc, 0, 0)
  | n + 1, at', l, acc =>
    if l = [] then (acc, 0, 0)
    else if blankB (decodeL l).1 then lexG n (at' + 1) (l.drop 1) acc
    else if (wordL l).e = 0 then lexG n (at' + (wordL l).len) (l.drop (wordL l).len) (acc ++ [⟨(wordL l).k, (wordL l).t, (wordL l).n, at'⟩])
    else ([], at', (wordL l).e)
/-- A text's words, or where there is none, and why. -/
def lexL (l : List UInt8) : List Tk × Nat × Int := if 4096 < l.length then ([], 0, 2) else lexG l.length 0 l []
end Go.Proofs.YtkcnpbckmdgfnaaGreatDoor
namespace Go.Proofs.YtkcnpbckmdgfnaaGreatDoor
open Go.Lib
set_option linter.unusedSimpArgs false

theorem decodeN_two {n b0 b1 b2 b3 : Nat} (h0 : b0 / 32 = 6) (h1 : 1 < n) (h2 : b1 / 64 = 2) (h3 : 128 ≤ b0 % 32 * 64 + b1 % 64) : decodeN n b0 b1 b2 b3 = (b0 % 32 * 64 + b1 % 64, 2) := by
  unfold decodeN
  rw [if_neg (by omega), if_pos ⟨h0, h1, h2⟩, if_pos h3]
theorem decodeN_three {n b0 b1 b2 b3 : Nat} (h0 : b0 / 16 = 14) (h1 : 2 < n) (h2 : b1 / 64 = 2) (h3 : b2 / 64 = 2) (h4 : 2048 ≤ b0 % 16 * 4096 + b1 % 64 * 64 + b2 % 64)
    (h5 : b0 % 16 * 4096 + b1 % 64 * 64 + b2 % 64 < 55296 ∨ 57344 ≤ b0 % 16 * 4096 + b1 % 64 * 64 + b2 % 64) : decodeN n b0 b1 b2 b3 = (b0 % 16 * 4096 + b1 % 64 * 64 + b2 % 64, 3) := by
  unfold decodeN
  rw [if_neg (by omega), if_neg (by omega), if_pos ⟨h0, ⟨by omega, h2⟩, h1, h3⟩, if_pos ⟨h4, by omega⟩]
theorem decodeN_four {n b0 b1 b2 b3 : Nat} (h0 : b0 / 8 = 30) (h1 : 3 < n) (h2 : b1 / 64 = 2) (h3 : b2 / 64 = 2) (h4 : b3 / 64 = 2) (h5 : 65536 ≤ b0 % 8 * 262144 + b1 % 64 * 4096 + b2 % 64 * 64 + b3 % 64)
    (h6 : b0 % 8 * 262144 + b1 % 64 * 4096 + b2 % 64 * 64 + b3 % 64 ≤ 1114111) : decodeN n b0 b1 b2 b3 = (b0 % 8 * 262144 + b1 % 64 * 4096 + b2 % 64 * 64 + b3 % 64, 4) := by
  unfold decodeN
  rw [if_neg (by omega), if_neg (by omega), if_neg (by omega), if_pos ⟨h0, ⟨by omega, h2⟩, ⟨by omega, h3⟩, h1, h4⟩, if_pos ⟨h5, by omega⟩]
/-- Cut off behind the rune, or not: the same rune. -/
theorem decodeN_cut (n n' b0 b1 b2 b3 c1 c2 c3 : Nat) (hn : n' ≤ n) (hw : (decodeN n b0 b1 b2 b3).2 ≤ n') (e1 : 1 < n' → c1 = b1) (e2 : 2 < n' → c2 = b2) (e3 : 3 < n' → c3 = b3) :
    decodeN n' b0 c1 c2 c3 = decodeN n b0 b1 b2 b3 := by
  rcases decodeN_shape n b0 b1 b2 b3 with ⟨c, e⟩ | ⟨h0, h1, h2, cv, e⟩ | ⟨h0, h1, h2, h3, cv, cs, e⟩ | ⟨h0, h1, h2, h3, h4, cv, cw, e⟩ | e
  · rw [e, decodeN_ascii _ _ _ _ _ c]
  · rw [e] at hw ⊢
    dsimp only at hw
    rw [e1 (by omega), decodeN_two h0 (by omega) h2 cv]
  · rw [e] at hw ⊢
    dsimp only at hw
    rw [e1 (by omega), e2 (by omega), decodeN_three h0 (by omega) h2 h3 cv cs]
  · rw [e] at hw ⊢
    dsimp only at hw
    rw [e1 (by omega), e2 (by omega), e3 (by omega), decodeN_four h0 (by omega) h2 h3 h4 cv cw]
  · rcases decodeN_shape n' b0 c1 c2 c3 with ⟨c, k⟩ | ⟨h0, h1, h2, cv, k⟩ | ⟨h0, h1, h2, h3, cv, cs, k⟩ | ⟨h0, h1, h2, h3, h4, cv, cw, k⟩ | k
    · rw [k, decodeN_ascii _ _ _ _ _ c]
    · rw [e1 (by omega)] at h2 cv
      rw [decodeN_two h0 (by omega) h2 cv] at e
      exact absurd (congrArg Prod.snd e) (by dsimp only; omega)
    · rw [e1 (by omega)] at h2 cv cs
      rw [e2 (by omega)] at h3 cv cs
      rw [decodeN_three h0 (by omega) h2 h3 cv cs] at e
      exact absurd (congrArg Prod.snd e) (by dsimp only; omega)
    · rw [e1 (by omega)] at h2 cv cw
      rw [e2 (by omega)] at h3 cv cw
      rw [e3 (by omega)] at h4 cv cw
      rw [decodeN_four h0 (by omega) h2 h3 h4 cv cw] at e
      exact absurd (congrArg Prod.snd e) (by dsimp only; omega)
    · rw [e, k]
theorem decodeL_take (l : List UInt8) (m : Nat) (hm : (decodeL l).2 ≤ m) : decodeL (l.take m) = decodeL l := by
  have hp := decodeL_pos l
  rw [decodeL_N] at hm ⊢
  rw [decodeL_N]
  have g : ∀ i, i < m → (l.take m).getD i 0 = l.getD i 0 := fun i hi => getD_takeU l m i hi
  by_cases hl : m ≤ l.length
  · have hlen : (l.take m).length = m := by simp; omega
    rw [hlen, g 0 (by rw [← decodeL_N] at hm; omega)]
    exact decodeN_cut _ _ _ _ _ _ _ _ _ hl hm (fun h => by rw [g 1 h]) (fun h => by rw [g 2 h]) (fun h => by rw [g 3 h])
  · rw [List.take_of_length_le (by omega)]
theorem decodeL_scalar (l : List UInt8) : (decodeL l).1 < 55296 ∨ 57344 ≤ (decodeL l).1 ∧ (decodeL l).1 ≤ 1114111 := by
  rw [decodeL_N]
  rcases decodeN_shape l.length (l.getD 0 0).toNat (l.getD 1 0).toNat (l.getD 2 0).toNat (l.getD 3 0).toNat with ⟨c, e⟩ | ⟨_, _, _, cv, e⟩ | ⟨_, _, _, _, cv, cs, e⟩ | ⟨_, _, _, _, _, cv, cw, e⟩ | e
  · rw [e]; dsimp only; omega
  · rw [e]; dsimp only; omega
  · rw [e]; dsimp only; omega
  · rw [e]; dsimp only; omega
  · rw [e]; dsimp only; omega
theorem toB (n : Nat) (h : n < 256) : (UInt8.ofNat n).toNat = n := by simp; omega
theorem toI (z : Int) (_h0 : 0 ≤ z) (h : z < 256) : (z.toNat.toUInt8).toNat = z.toNat := by simp; omega
/-- A rune's bytes, whatever stands behind, are read as it. -/
theorem decode_encode (c : Int) (h0 : 0 ≤ c) (h : c < 55296 ∨ 57344 ≤ c ∧ c ≤ 1114111) (r : List UInt8) : decodeL (encodeRune c ++ r) = (c.toNat, (encodeRune c).length) := by
  rw [decodeL_N]
  unfold encodeRune
  by_cases a : c ≤ 127
  · rw [encodeRuneZ_one h0 a]
    simp only [List.map_cons, List.map_nil, List.cons_append, List.nil_append, List.getD_cons_zero]
    rw [decodeN_ascii _ _ _ _ _ (by rw [toI _ h0 (by omega)]; omega), toI _ h0 (by omega)]
    rfl
  · by_cases b : c ≤ 2047
    · rw [encodeRuneZ_two (by omega) b]
      simp only [List.map_cons, List.map_nil, List.cons_append, List.nil_append, List.getD_cons_zero, List.getD_cons_succ]
      rw [toI _ (by omega) (by omega), toI _ (by omega) (by omega), decodeN_two (by omega) (by simp) (by omega) (by omega)]
      rw [show (192 + c / 64).toNat % 32 * 64 + (128 + c % 64).toNat % 64 = c.toNat by omega]
      rfl
    · by_cases d : c ≤ 65535
      · rw [encodeRuneZ_three (by omega)]
        simp only [List.map_cons, List.map_nil, List.cons_append, List.nil_append, List.getD_cons_zero, List.getD_cons_succ]
        rw [toI _ (by omega) (by omega), toI _ (by omega) (by omega), toI _ (by omega) (by omega), decodeN_three (by omega) (by simp) (by omega) (by omega) (by omega) (by omega)]
        rw [show (224 + c / 4096).toNat % 16 * 4096 + (128 + c / 64 % 64).toNat % 64 * 64 + (128 + c % 64).toNat % 64 = c.toNat by omega]
        rfl
      · rw [encodeRuneZ_four (by omega) (by omega)]
        simp only [List.map_cons, List.map_nil, List.cons_append, List.nil_append, List.getD_cons_zero, List.getD_cons_succ]
        rw [toI _ (by omega) (by omega), toI _ (by omega) (by omega), toI _ (by omega) (by omega), toI _ (by omega) (by omega), decodeN_four (by omega) (by simp) (by omega) (by omega) (by omega) (by omega) (by omega)]
        rw [show (240 + c / 262144).toNat % 8 * 262144 + (128 + c / 4096 % 64).toNat % 64 * 4096 + (128 + c / 64 % 64).toNat % 64 * 64 + (128 + c % 64).toNat % 64 = c.toNat by omega]
        rfl
/-- The model's own way to make a rune a text is the same. -/
theorem encode_list (c : Int) (h0 : 0 ≤ c) (h : c < 55296 ∨ 57344 ≤ c ∧ c ≤ 1114111) : (Utf8.encode c).data.toList = encodeRune c := by
  have hv : Utf8.valid c = true := by unfold Utf8.valid; simp; omega
  unfold Utf8.encode encodeRune
  simp only [hv, if_true]
  by_cases a : c ≤ 127
  · rw [encodeRuneZ_one h0 a, if_pos (by omega)]
    rfl
  · by_cases b : c ≤ 2047
    · rw [encodeRuneZ_two (by omega) b, if_neg (by omega), if_pos (by omega)]
      simp only [List.map_cons, List.map_nil]
      rw [show (192 + c / 64).toNat = 192 + c.toNat / 64 by omega, show (128 + c % 64).toNat = 128 + c.toNat % 64 by omega]
    · by_cases d : c ≤ 65535
      · rw [encodeRuneZ_three (by omega), if_neg (by omega), if_neg (by omega), if_pos (by omega)]
        simp only [List.map_cons, List.map_nil]
        rw [show (224 + c / 4096).toNat = 224 + c.toNat / 4096 by omega, show (128 + c / 64 % 64).toNat = 128 + c.toNat / 64 % 64 by omega, show (128 + c % 64).toNat = 128 + c.toNat % 64 by omega]
      · rw [encodeRuneZ_four (by omega) (by omega), if_neg (by omega), if_neg (by omega), if_neg (by omega)]
        simp only [List.map_cons, List.map_nil]
        rw [show (240 + c / 262144).toNat = 240 + c.toNat / 262144 by omega, show (128 + c / 4096 % 64).toNat = 128 + c.toNat / 4096 % 64 by omega, show (128 + c / 64 % 64).toNat = 128 + c.toNat / 64 % 64 by omega, show (128 + c % 64).toNat = 128 + c.toNat % 64 by omega]
theorem encode_len (c : Int) : 1 ≤ (encodeRune c).length ∧ (encodeRune c).length ≤ 4 := by
  have := encodeRuneZ_length c
  simpa [encodeRune] using this
end Go.Proofs.YtkcnpbckmdgfnaaGreatDoor
namespace Go.Proofs.YtkcnpbckmdgfnaaGreatDoor
open Go.Lib
set_option linter.unusedSimpArgs false

/-- Behind a backslash. -/
def escL : List UInt8 → Option (List UInt8 × Nat)
  | [] => none
  | c :: r => if c = 39 ∨ c = 92 then (textL r).map fun x => (c :: x.1, x.2 + 1) else if c = 110 then (textL r).map fun x => (10 :: x.1, x.2 + 1) else none
/-- With this ahead, of so many bytes. -/
def pre (a : List UInt8) (p : Nat) (o : Option (List UInt8 × Nat)) : Option (List UInt8 × Nat) := o.map fun x => (a ++ x.1, p + x.2)
theorem pre_pre (a b : List UInt8) (p q : Nat) (o : Option (List UInt8 × Nat)) : pre a p (pre b q o) = pre (a ++ b) (p + q) o := by
  cases o <;> simp [pre, Nat.add_assoc]
theorem pre_nil (o : Option (List UInt8 × Nat)) : pre [] 0 o = o := by
  cases o <;> simp [pre]
theorem pre_none (a : List UInt8) (p : Nat) : pre a p none = none := rfl
theorem escL_cons (c : UInt8) (r : List UInt8) : escL (c :: r) = if c = 39 ∨ c = 92 then (textL r).map fun x => (c :: x.1, x.2 + 1) else if c = 110 then (textL r).map fun x => (10 :: x.1, x.2 + 1) else none := rfl
theorem scan_cons (b : UInt8) (r : List UInt8) (h1 : b ≠ 39) (h2 : b ≠ 92) : scanB (b :: r) = (scanB r).map fun x => (b :: x.1, x.2 + 1) := by
  rw [scanB.eq_def]
  dsimp only
  rw [if_neg h1, if_neg h2]
theorem scan_esc (c : UInt8) (r : List UInt8) : scanB (92 :: c :: r) = if c = 39 ∨ c = 92 then (scanB r).map fun x => (c :: x.1, x.2 + 2) else if c = 110 then (scanB r).map fun x => (10 :: x.1, x.2 + 2) else none := by
  rw [scanB.eq_def]
  dsimp only
  rw [if_neg (by decide), if_pos rfl]
theorem low_of {c d : UInt8} (h : c = d) (hd : d.toNat < 128) : c.toNat < 128 := h ▸ hd
theorem textL_nil : textL [] = none := rfl
theorem textL_quote (r : List UInt8) : textL (39 :: r) = some ([], 0) := by
  unfold textL
  rw [scanB.eq_def]
  dsimp only
  rw [if_pos rfl]
  rfl
theorem textL_esc (r : List UInt8) : textL (92 :: r) = pre [] 1 (escL r) := by
  match r with
  | [] => rfl
  | c :: r =>
    rw [escL_cons]
    unfold textL
    rw [scan_esc]
    by_cases h1 : c = 39 ∨ c = 92
    · have hc : c.toNat < 128 := by rcases h1 with h | h <;> exact low_of h (by decide)
      rw [if_pos h1, if_pos h1]
      cases h : scanB r with
      | none => rfl
      | some x =>
        dsimp only [Option.map_some]
        rw [show (92 :: c :: r : List UInt8).take (x.2 + 2) = 92 :: c :: r.take x.2 from rfl, validD_cons 92 _ (by decide), validD_cons c _ hc]
        cases validD (r.take x.2) with
        | true => (simp [pre]; omega)
        | false => rfl
    · rw [if_neg h1, if_neg h1]
      by_cases h2 : c = 110
      · have hc : c.toNat < 128 := low_of h2 (by decide)
        rw [if_pos h2, if_pos h2]
        cases h : scanB r with
        | none => rfl
        | some x =>
          dsimp only [Option.map_some]
          rw [show (92 :: c :: r : List UInt8).take (x.2 + 2) = 92 :: c :: r.take x.2 from rfl, validD_cons 92 _ (by decide), validD_cons c _ hc]
          cases validD (r.take x.2) with
          | true => (simp [pre]; omega)
          | false => rfl
      · rw [if_neg h2, if_neg h2]
        rfl
theorem scan_high (r : List UInt8) : ∀ p : List UInt8, (∀ b ∈ p, 128 ≤ b.toNat) → scanB (p ++ r) = (scanB r).map fun x => (p ++ x.1, p.length + x.2)
  | [], _ => by cases h : scanB r <;> simp [h]
  | b :: p, h => by
    have hb := h b (List.mem_cons_self ..)
    rw [List.cons_append, scan_cons _ _ (fun e => by rw [e] at hb; exact absurd hb (by decide)) (fun e => by rw [e] at hb; exact absurd hb (by decide)), scan_high r p (fun c hc => h c (List.mem_cons_of_mem _ hc))]
    cases scanB r with
    | none => rfl
    | some x => simp; omega
theorem encode_highs (r : Int) (h : 128 ≤ r) : ∀ b ∈ encodeRune r, 128 ≤ b.toNat := by
  intro b hb
  unfold encodeRune at hb
  obtain ⟨x, hx, rfl⟩ := List.mem_map.1 hb
  have h2 := encodeRuneZ_byte r x hx
  have hh : 128 ≤ x := by
    unfold encodeRuneZ at hx
    repeat' split at hx
    all_goals
      simp at hx
      omega
  rw [toI x (by omega) (by omega)]
  omega
/-- A rune that is no quote and no backslash. -/
theorem textL_rune (l : List UInt8) (hne : l ≠ []) (hv : ¬ ((decodeL l).1 = 65533 ∧ (decodeL l).2 = 1)) (h1 : (decodeL l).1 ≠ 39) (h2 : (decodeL l).1 ≠ 92) :
    textL l = pre (encodeRune ((decodeL l).1 : Int)) (decodeL l).2 (textL (l.drop (decodeL l).2)) := by
  match l, hne with
  | b :: r, hne =>
    by_cases hb : b.toNat < 128
    · rw [decodeL_low b r hb] at h1 h2 ⊢
      dsimp only at h1 h2 ⊢
      rw [encode_low b hb, List.drop_one, List.tail_cons]
      unfold textL
      rw [scan_cons b r (fun e => h1 (by rw [e]; rfl)) (fun e => h2 (by rw [e]; rfl))]
      cases h : scanB r with
      | none => rfl
      | some x =>
        dsimp only [Option.map_some]
        rw [List.take_succ_cons, validD_cons b _ hb]
        cases validD (r.take x.2) with
        | true => simp [pre, Nat.add_comm]
        | false => rfl
    · have hd := decodeL_high b r (by omega)
      have he := encode_decode (b :: r) hne hv
      have hs := validD_step ((b :: r).take 1)
      generalize hl : b :: r = l at *
      have hle := decodeL_le l hne
      have hpos := decodeL_pos l
      have hlen : (l.take (decodeL l).2).length = (decodeL l).2 := by simp; omega
      have hh : ∀ c ∈ l.take (decodeL l).2, 128 ≤ c.toNat := by
        rw [← he]
        exact encode_highs _ (by omega)
      have hsc := scan_high (l.drop (decodeL l).2) _ hh
      rw [List.take_append_drop, hlen] at hsc
      rw [he]
      unfold textL
      rw [hsc]
      cases h : scanB (l.drop (decodeL l).2) with
      | none => rfl
      | some x =>
        dsimp only [Option.map_some]
        have hvd : validD (l.take ((decodeL l).2 + x.2)) = validD ((l.drop (decodeL l).2).take x.2) := by
          have hd2 := decodeL_take l ((decodeL l).2 + x.2) (by omega)
          have hn2 : l.take ((decodeL l).2 + x.2) ≠ [] := by
            intro e
            have := congrArg List.length e
            rw [List.length_take, List.length_nil] at this
            omega
          rw [validD_step _ hn2, hd2, if_neg hv, List.drop_take]
          congr 2
          omega
        rw [hvd]
        cases validD ((l.drop (decodeL l).2).take x.2) with
        | true => rfl
        | false => rfl
theorem bad_head {b : UInt8} {r : List UInt8} (hv : (decodeL (b :: r)).1 = 65533 ∧ (decodeL (b :: r)).2 = 1) : 128 ≤ b.toNat := by
  rcases Nat.lt_or_ge b.toNat 128 with h | h
  · rw [decodeL_low b r h] at hv
    have := hv.1
    dsimp only at this
    omega
  · exact h
theorem textL_bad (l : List UInt8) (hne : l ≠ []) (hv : (decodeL l).1 = 65533 ∧ (decodeL l).2 = 1) : textL l = none := by
  match l, hne with
  | b :: r, hne =>
    have hb := bad_head hv
    unfold textL
    rw [scan_cons b r (fun e => by rw [e] at hb; exact absurd hb (by decide)) (fun e => by rw [e] at hb; exact absurd hb (by decide))]
    cases h : scanB r with
    | none => rfl
    | some x =>
      dsimp only [Option.map_some]
      have hd2 := decodeL_take (b :: r) (x.2 + 1) (by omega)
      have hn2 : (b :: r).take (x.2 + 1) ≠ [] := by rw [List.take_succ_cons]; simp
      rw [validD_step _ hn2, hd2, if_pos hv]
      rfl
theorem escL_bad (l : List UInt8) (hne : l ≠ []) (hv : (decodeL l).1 = 65533 ∧ (decodeL l).2 = 1) : escL l = none := by
  match l, hne with
  | b :: r, hne =>
    have hb := bad_head hv
    rw [escL, if_neg, if_neg]
    · rintro rfl; exact absurd hb (by decide)
    · rintro (rfl | rfl) <;> exact absurd hb (by decide)
/-- Behind a backslash, by the rune. -/
theorem escL_rune (l : List UInt8) (hne : l ≠ []) : escL l =
    if (decodeL l).1 = 39 ∨ (decodeL l).1 = 92 then pre (encodeRune ((decodeL l).1 : Int)) (decodeL l).2 (textL (l.drop (decodeL l).2))
    else if (decodeL l).1 = 110 then pre [10] (decodeL l).2 (textL (l.drop (decodeL l).2)) else none := by
  match l, hne with
  | b :: r, hne =>
    by_cases hb : b.toNat < 128
    · have e : ∀ d : UInt8, (b = d ↔ b.toNat = d.toNat) := fun d => ⟨fun h => by rw [h], fun h => UInt8.toNat_inj.1 h⟩
      rw [decodeL_low b r hb]
      dsimp only
      rw [encode_low b hb, List.drop_one, List.tail_cons, escL]
      have e1 := e 39
      have e2 := e 92
      have e3 := e 110
      rw [show (39 : UInt8).toNat = 39 from rfl] at e1
      rw [show (92 : UInt8).toNat = 92 from rfl] at e2
      rw [show (110 : UInt8).toNat = 110 from rfl] at e3
      simp only [e1, e2, e3]
      split
      · cases textL r <;> simp [pre, Nat.add_comm]
      · split
        · cases textL r <;> simp [pre, Nat.add_comm]
        · rfl
    · have hd := decodeL_high b r (by omega)
      rw [if_neg (by omega), if_neg (by omega), escL, if_neg, if_neg]
      · rintro rfl; exact hb (by decide)
      · rintro (rfl | rfl) <;> exact hb (by decide)
/-- U+FFFD written out, or a byte that is none. -/
theorem written (l : List UInt8) (hne : l ≠ []) (h : (decodeL l).1 = 65533) : ([239, 191, 189] : List UInt8).isPrefixOf l = true ↔ ¬ ((decodeL l).1 = 65533 ∧ (decodeL l).2 = 1) := by
  constructor
  · intro hp hv
    obtain ⟨r, rfl⟩ := List.isPrefixOf_iff_prefix.1 hp
    have := decode_encode 65533 (by decide) (by decide) r
    rw [show encodeRune 65533 = [239, 191, 189] by decide] at this
    rw [this] at hv
    exact absurd hv.2 (by decide)
  · intro hv
    have he := encode_decode l hne hv
    rw [h] at he
    have e3 : encodeRune ((65533 : Nat) : Int) = [239, 191, 189] := by decide
    rw [e3] at he
    exact List.isPrefixOf_iff_prefix.2 (he ▸ List.take_prefix _ _)
theorem head_low (L : List UInt8) (hne : L ≠ []) (d : UInt8) (hd : d.toNat < 128) (h : (decodeL L).1 = d.toNat) : L = d :: L.drop 1 ∧ (decodeL L).2 = 1 := by
  match L, hne with
  | b :: r, hne =>
    by_cases hb : b.toNat < 128
    · rw [decodeL_low b r hb] at h ⊢
      exact ⟨by rw [UInt8.toNat_inj.1 h]; rfl, rfl⟩
    · have := decodeL_high b r (by omega)
      omega
/-- A step, not behind a backslash. -/
theorem tx_plain (l L acc : List UInt8) (pos : Nat) (hne : L ≠ []) (h : textL l = pre acc pos (textL L)) :
    ((decodeL L).1 = 65533 ∧ (decodeL L).2 = 1 → textL l = none) ∧
    ((decodeL L).1 = 39 → textL l = some (acc, pos)) ∧
    ((decodeL L).1 = 92 → textL l = pre acc (pos + (decodeL L).2) (escL (L.drop (decodeL L).2))) ∧
    (¬ ((decodeL L).1 = 65533 ∧ (decodeL L).2 = 1) → (decodeL L).1 ≠ 39 → (decodeL L).1 ≠ 92 →
      textL l = pre (acc ++ encodeRune ((decodeL L).1 : Int)) (pos + (decodeL L).2) (textL (L.drop (decodeL L).2))) := by
  refine ⟨fun hb => ?_, fun h39 => ?_, fun h92 => ?_, fun hb h39 h92 => ?_⟩
  · rw [h, textL_bad L hne hb]; rfl
  · obtain ⟨e, _⟩ := head_low L hne 39 (by decide) h39
    rw [e, textL_quote] at h
    rw [h]
    simp [pre]
  · obtain ⟨e, e2⟩ := head_low L hne 92 (by decide) h92
    rw [e2]
    rw [e, textL_esc, pre_pre, List.append_nil] at h
    exact h
  · rw [h, textL_rune L hne hb h39 h92, pre_pre]
/-- A step behind a backslash. -/
theorem tx_esc (l L acc : List UInt8) (pos : Nat) (hne : L ≠ []) (h : textL l = pre acc pos (escL L)) :
    ((decodeL L).1 = 110 → textL l = pre (acc ++ [10]) (pos + (decodeL L).2) (textL (L.drop (decodeL L).2))) ∧
    ((decodeL L).1 = 39 ∨ (decodeL L).1 = 92 → textL l = pre (acc ++ encodeRune ((decodeL L).1 : Int)) (pos + (decodeL L).2) (textL (L.drop (decodeL L).2))) ∧
    ((decodeL L).1 ≠ 110 → (decodeL L).1 ≠ 39 → (decodeL L).1 ≠ 92 → textL l = none) := by
  rw [escL_rune L hne] at h
  refine ⟨fun e => ?_, fun e => ?_, fun e1 e2 e3 => ?_⟩
  · rw [if_neg (by omega), if_pos e, pre_pre] at h
    exact h
  · rw [if_pos e, pre_pre] at h
    exact h
  · rw [if_neg (by omega), if_neg e1] at h
    exact h
end Go.Proofs.YtkcnpbckmdgfnaaGreatDoor
namespace Go.Proofs.YtkcnpbckmdgfnaaGreatDoor
open Go.Lib
set_option linter.unusedSimpArgs false

def digU (b : UInt8) : Prop := 48 ≤ b.toNat ∧ b.toNat ≤ 57
theorem dig_head (b : UInt8) (l : List UInt8) : digB (decodeL (b :: l)).1 = true ↔ digU b := by
  unfold digU
  rw [digB_t]
  by_cases h : b.toNat < 128
  · rw [decodeL_low b l h]; dsimp only; omega
  · have := decodeL_high b l (by omega)
    omega
theorem span_dig (b : UInt8) (l : List UInt8) (h : digU b) : spanL digB (b :: l) = 1 + spanL digB l := by
  have hb : b.toNat < 128 := by unfold digU at h; omega
  rw [spanL_step _ _ (by simp), if_pos ((dig_head b l).2 h), decodeL_low b l hb]
  rfl
theorem span_nodig (b : UInt8) (l : List UInt8) (h : ¬ digU b) : spanL digB (b :: l) = 0 := by
  rw [spanL_step _ _ (by simp), if_neg (fun e => h ((dig_head b l).1 e))]
theorem span_digits : ∀ l : List UInt8, ∀ b ∈ l.take (spanL digB l), digU b
  | [], b, h => by simp at h
  | c :: l, b, h => by
    by_cases hc : digU c
    · rw [span_dig c l hc, Nat.add_comm, List.take_succ_cons] at h
      rcases List.mem_cons.1 h with rfl | h
      · exact hc
      · exact span_digits l b h
    · rw [span_nodig c l hc] at h
      simp at h
theorem numFrom_cons (v : Nat) (b : UInt8) (l : List UInt8) : numFrom v (b :: l) = numFrom (10 * v + (b.toNat - 48)) l := by
  unfold numFrom
  rw [List.foldl_cons]
theorem numFrom_ge (l : List UInt8) : ∀ v : Nat, v ≤ numFrom v l := by
  induction l with
  | nil => exact fun v => Nat.le_refl v
  | cons b l ih =>
    intro v
    rw [numFrom_cons]
    have := ih (10 * v + (b.toNat - 48))
    omega
theorem parse_cons (M v : Nat) (b : UInt8) (l : List UInt8) : parseUintM M v (b :: l) = if 48 ≤ b.toNat ∧ b.toNat ≤ 57 then (if 1844674407370955162 ≤ v then .range else if M < v * 10 + (b.toNat - 48) then .range else parseUintM M (v * 10 + (b.toNat - 48)) l) else .syntax := by
  rw [parseUintM]
theorem parse_from (M : Nat) (hM : M < 18446744073709551620) (l : List UInt8) : ∀ (v : Nat), (∀ b ∈ l, digU b) → v ≤ M →
    parseUintM M v l = if numFrom v l ≤ M then .ok (numFrom v l) else .range := by
  induction l with
  | nil =>
    intro v _ hv
    rw [show numFrom v [] = v from rfl, if_pos hv, parseUintM]
  | cons b l ih =>
    intro v h hv
    have hb : digU b := h b (List.mem_cons_self ..)
    have hl : ∀ c ∈ l, digU c := fun c hc => h c (List.mem_cons_of_mem _ hc)
    unfold digU at hb
    rw [numFrom_cons, parse_cons, if_pos hb]
    have hge := numFrom_ge l (10 * v + (b.toNat - 48))
    by_cases h1 : 1844674407370955162 ≤ v
    · rw [if_pos h1, if_neg (by omega)]
    · rw [if_neg h1]
      by_cases h2 : M < v * 10 + (b.toNat - 48)
      · rw [if_pos h2, if_neg (by omega)]
      · rw [if_neg h2, show v * 10 + (b.toNat - 48) = 10 * v + (b.toNat - 48) by omega]
        exact ih _ hl (by omega)
theorem int_from (B c v : Nat) (hc : ¬ c = 45) (P : NumEnd Nat) (hP : P = if v ≤ 18446744073709551615 then .ok v else .range) (hB : B = 9223372036854775808) :
    (match P with
    | .syntax => (.syntax : NumEnd Int)
    | .range => .range
    | .ok u => if ¬ c = 45 ∧ B ≤ u then .range else if c = 45 ∧ B < u then .range else .ok (if c = 45 then -(u : Int) else u)) = if v ≤ maxI then .ok (v : Int) else .range := by
  subst hP
  unfold maxI
  by_cases h1 : v ≤ 18446744073709551615
  · simp only [if_pos h1]
    by_cases h2 : v ≤ 9223372036854775807
    · rw [if_pos h2, if_neg (by omega), if_neg (by omega), if_neg hc]
    · rw [if_neg h2, if_pos ⟨hc, by omega⟩]
  · simp only [if_neg h1]
    rw [if_neg (by omega)]
theorem parse_digits (l : List UInt8) (hne : l ≠ []) (h : ∀ b ∈ l, digU b) : parseIntB 64 l = if numFrom 0 l ≤ maxI then .ok (numFrom 0 l : Int) else .range := by
  match l, hne with
  | c :: r, _ =>
    have hc : digU c := h c (List.mem_cons_self ..)
    unfold digU at hc
    have hP := parse_from (2 ^ 64 - 1) (by decide) (c :: r) 0 h (Nat.zero_le _)
    have hU : parseUintB 64 (c :: r) = parseUintM (2 ^ 64 - 1) 0 (c :: r) := by
      unfold parseUintB
      rw [if_neg (by simp)]
    have hI : (if c.toNat = 43 ∨ c.toNat = 45 then r else c :: r) = c :: r := if_neg (fun e => by omega)
    unfold parseIntB
    dsimp only
    rw [hI, hU]
    exact int_from _ _ _ (fun e => by omega) _ hP rfl
theorem take_digits_ne (l : List UInt8) (h : digB (decodeL l).1 = true) (hne : l ≠ []) : l.take (spanL digB l) ≠ [] := by
  match l, hne with
  | c :: r, _ =>
    rw [span_dig c r ((dig_head c r).1 h), Nat.add_comm, List.take_succ_cons]
    simp
end Go.Proofs.YtkcnpbckmdgfnaaGreatDoor
namespace Go.Proofs.YtkcnpbckmdgfnaaGreatDoor
open Go.Lib
set_option linter.unusedSimpArgs false

theorem scan_le : ∀ (n : Nat) (l : List UInt8), l.length ≤ n → ∀ x, scanB l = some x → x.2 + 1 ≤ l.length
  | _, [], _, x, h => by cases h
  | 0, _ :: _, hl, _, _ => by simp at hl
  | n + 1, b :: r, hl, x, h => by
    by_cases h1 : b = 39
    · rw [h1, scanB.eq_def] at h
      dsimp only at h
      rw [if_pos rfl] at h
      cases h
      simp
    · by_cases h2 : b = 92
      · subst h2
        match r, h with
        | [], h => cases h
        | c :: r, h =>
          rw [scan_esc] at h
          simp only [List.length_cons] at hl ⊢
          split at h
          · obtain ⟨y, hy, rfl⟩ := Option.map_eq_some_iff.1 h
            have := scan_le n r (by omega) y hy
            dsimp only; omega
          · split at h
            · obtain ⟨y, hy, rfl⟩ := Option.map_eq_some_iff.1 h
              have := scan_le n r (by omega) y hy
              dsimp only; omega
            · cases h
      · rw [scan_cons b r h1 h2] at h
        obtain ⟨y, hy, rfl⟩ := Option.map_eq_some_iff.1 h
        simp only [List.length_cons] at hl ⊢
        have := scan_le n r (by omega) y hy
        omega
theorem text_le (l : List UInt8) (x : List UInt8 × Nat) (h : textL l = some x) : x.2 + 1 ≤ l.length := by
  unfold textL at h
  cases hs : scanB l with
  | none => rw [hs] at h; cases h
  | some y =>
    rw [hs] at h
    dsimp only at h
    split at h
    · cases h
      exact scan_le _ l (Nat.le_refl _) _ hs
    · cases h
theorem sign_le (l : List UInt8) : (signL l).length ≤ l.length := by
  unfold signL
  cases h : signsL.find? fun g => g.isPrefixOf l with
  | none => simp
  | some g =>
    have := List.find?_some h
    obtain ⟨r, rfl⟩ := List.isPrefixOf_iff_prefix.1 this
    simp
/-- A word has a byte, and no more than there are. -/
theorem word_len (l : List UInt8) (hne : l ≠ []) (he : (wordL l).e = 0) : 1 ≤ (wordL l).len ∧ (wordL l).len ≤ l.length := by
  have hpos := decodeL_pos l
  have hle := decodeL_le l hne
  unfold wordL at he ⊢
  split at he
  · rename_i h39
    rw [if_pos h39]
    obtain ⟨e, _⟩ := head_low l hne 39 (by decide) h39
    unfold textW at he ⊢
    cases ht : textL l.tail with
    | none => rw [ht] at he; exact absurd he (by simp [bad])
    | some x =>
      have := text_le _ x ht
      rw [List.length_tail] at this
      dsimp only
      omega
  · rename_i h39
    rw [if_neg h39]
    split at he
    · rename_i hd
      rw [if_pos hd]
      unfold numW at he ⊢
      split at he
      · rename_i hm
        rw [if_pos hm]
        have h1 := spanL_le digB _ l (Nat.le_refl _)
        have h2 := spanL_step digB l hne
        rw [if_pos hd] at h2
        dsimp only
        omega
      · exact absurd he (by simp [bad])
    · rename_i hd
      rw [if_neg hd]
      split at he
      · rename_i hn
        rw [if_pos hn]
        have h1 := spanL_le (runeB false) _ l (Nat.le_refl _)
        have h2 := spanL_step (runeB false) l hne
        have hn2 : runeB false (decodeL l).1 = true := by
          unfold runeB at hn ⊢
          revert hn
          cases letB (decodeL l).1 || decide ((((decodeL l).1 : Nat) : Int) = 95) <;> simp
        rw [if_pos hn2] at h2
        unfold nameW at he ⊢
        split at he
        · rename_i hk
          rw [if_pos hk]
          dsimp only
          omega
        · rename_i hk
          rw [if_neg hk]
          split at he
          · exact absurd he (by simp [bad])
          · rename_i h32
            rw [if_neg h32]
            dsimp only
            omega
      · rename_i hn
        rw [if_neg hn]
        unfold signW at he ⊢
        split at he
        · exact absurd he (by simp [bad])
        · rename_i hs
          rw [if_neg hs]
          dsimp only
          exact ⟨List.length_pos_iff.2 hs, sign_le l⟩
def tkL (x : Wd) (at' : Nat) : Tk := ⟨x.k, x.t, x.n, at'⟩
theorem lex_end (b at' : Nat) (acc : List Tk) : lexG b at' [] acc = (acc, 0, 0) := by
  cases b <;> simp [lexG]
theorem lex_blank (b at' : Nat) (l : List UInt8) (acc : List Tk) (hne : l ≠ []) (h : blankB (decodeL l).1 = true) : lexG (b + 1) at' l acc = lexG b (at' + 1) (l.drop 1) acc := by
  rw [lexG, if_neg hne, if_pos h]
theorem lex_word (b at' : Nat) (l : List UInt8) (acc : List Tk) (hne : l ≠ []) (h : blankB (decodeL l).1 = false) (he : (wordL l).e = 0) :
    lexG (b + 1) at' l acc = lexG b (at' + (wordL l).len) (l.drop (wordL l).len) (acc ++ [tkL (wordL l) at']) := by
  rw [lexG, if_neg hne, if_neg (by rw [h]; decide), if_pos he]
  rfl
theorem lex_bad (b at' : Nat) (l : List UInt8) (acc : List Tk) (hne : l ≠ []) (h : blankB (decodeL l).1 = false) (he : (wordL l).e ≠ 0) :
    lexG (b + 1) at' l acc = ([], at', (wordL l).e) := by
  rw [lexG, if_neg hne, if_neg (by rw [h]; decide), if_neg he]
theorem blank_one (l : List UInt8) (hne : l ≠ []) (h : blankB (decodeL l).1 = true) : (decodeL l).2 = 1 := by
  match l, hne with
  | b :: r, _ =>
    by_cases hb : b.toNat < 128
    · rw [decodeL_low b r hb]
    · have := decodeL_high b r (by omega)
      rw [blankB_t] at h
      omega
end Go.Proofs.YtkcnpbckmdgfnaaGreatDoor
namespace Go.Proofs.YtkcnpbckmdgfnaaGreatDoor
open Go.Lib
set_option linter.unusedSimpArgs false

theorem decode_behind (l : List UInt8) (b : UInt8) (hne : l ≠ []) (hb : b.toNat < 128) : decodeL (l ++ [b]) = decodeL l := by
  have hle := decodeL_le (l ++ [b]) (by simp)
  rw [List.length_append] at hle
  by_cases h : (decodeL (l ++ [b])).2 ≤ l.length
  · have := decodeL_take (l ++ [b]) l.length h
    rw [List.take_left] at this
    exact this.symm
  · exfalso
    have hp : 0 < l.length := List.length_pos_iff.2 hne
    have h2 : (decodeL (l ++ [b])).2 = l.length + 1 := by
      have : ([b] : List UInt8).length = 1 := rfl
      omega
    have he := encode_decode (l ++ [b]) (by simp) (by omega)
    rw [h2, List.take_of_length_le (by simp)] at he
    have hi : 128 ≤ (decodeL (l ++ [b])).1 := by
      obtain ⟨c, r, rfl⟩ := List.exists_cons_of_ne_nil hne
      by_cases hc : c.toNat < 128
      · rw [List.cons_append, decodeL_low c _ hc] at h2
        simp at h2
      · exact decodeL_high c _ (by omega)
    have := encode_highs ((decodeL (l ++ [b])).1 : Int) (by omega) b (by rw [he]; simp)
    omega
theorem span_behind (p : Int → Bool) (b : UInt8) (hb : b.toNat < 128) (hp : p (b.toNat : Int) = false) : ∀ (n : Nat) (l : List UInt8), l.length ≤ n → spanL p (l ++ [b]) = spanL p l
  | 0, l, h => by
    have : l = [] := List.length_eq_zero_iff.1 (by omega)
    subst this
    rw [List.nil_append, spanL_step _ _ (by simp), decodeL_low b _ hb]
    dsimp only
    rw [hp, if_neg (by decide), spanL_nil]
  | n + 1, l, h => by
    by_cases hne : l = []
    · subst hne
      exact span_behind p b hb hp 0 [] (Nat.le_refl _)
    · have h1 := decodeL_pos l
      have h2 := decodeL_le l hne
      rw [spanL_step _ _ (by simp), spanL_step p l hne, decode_behind l b hne hb, List.drop_append_of_le_length h2, span_behind p b hb hp n _ (by rw [List.length_drop]; omega)]
theorem scan_more (t : List UInt8) : ∀ (n : Nat) (l : List UInt8), l.length ≤ n → ∀ x, scanB l = some x → scanB (l ++ t) = some x
  | _, [], _, x, h => by cases h
  | 0, _ :: _, hl, _, _ => by simp at hl
  | n + 1, b :: r, hl, x, h => by
    by_cases h1 : b = 39
    · rw [List.cons_append]
      rw [scanB.eq_def] at h ⊢
      dsimp only at h ⊢
      rw [if_pos h1] at h ⊢
      exact h
    · by_cases h2 : b = 92
      · subst h2
        match r, h with
        | [], h => cases h
        | c :: r, h =>
          rw [List.cons_append, List.cons_append]
          rw [scan_esc] at h ⊢
          simp only [List.length_cons] at hl
          split at h
          · rename_i hc
            rw [if_pos hc]
            obtain ⟨y, hy, rfl⟩ := Option.map_eq_some_iff.1 h
            rw [scan_more t n r (by omega) y hy]
            rfl
          · rename_i hc
            rw [if_neg hc]
            split at h
            · rename_i hd
              rw [if_pos hd]
              obtain ⟨y, hy, rfl⟩ := Option.map_eq_some_iff.1 h
              rw [scan_more t n r (by omega) y hy]
              rfl
            · cases h
      · rw [List.cons_append]
        rw [scan_cons b _ h1 h2] at h ⊢
        obtain ⟨y, hy, rfl⟩ := Option.map_eq_some_iff.1 h
        simp only [List.length_cons] at hl
        rw [scan_more t n r (by omega) y hy]
        rfl
theorem text_more (t l : List UInt8) (x : List UInt8 × Nat) (h : textL l = some x) : textL (l ++ t) = some x := by
  unfold textL at h ⊢
  cases hs : scanB l with
  | none => rw [hs] at h; cases h
  | some y =>
    rw [hs] at h
    rw [scan_more t _ l (Nat.le_refl _) y hs]
    dsimp only at h ⊢
    have := scan_le _ l (Nat.le_refl _) y hs
    rw [List.take_append_of_le_length (by omega)]
    exact h
theorem find_same {α : Type} (p q : α → Bool) : ∀ L : List α, (∀ g ∈ L, p g = q g) → L.find? p = L.find? q
  | [], _ => rfl
  | g :: L, h => by
    rw [List.find?_cons, List.find?_cons, h g (List.mem_cons_self ..), find_same p q L fun k hk => h k (List.mem_cons_of_mem _ hk)]
theorem sign_behind (l : List UInt8) (b : UInt8) (hb : b = 32 ∨ b = 9) : signL (l ++ [b]) = signL l := by
  unfold signL
  congr 1
  have hall : ∀ g ∈ signsL, (32 : UInt8) ∉ g ∧ (9 : UInt8) ∉ g := by decide
  refine find_same _ _ _ fun g hg => ?_
  have hng : b ∉ g := by rcases hb with rfl | rfl; exact (hall g hg).1; exact (hall g hg).2
  rw [Bool.eq_iff_iff, List.isPrefixOf_iff_prefix, List.isPrefixOf_iff_prefix, List.prefix_concat_iff]
  constructor
  · rintro (rfl | h)
    · exact absurd (by simp) hng
    · exact h
  · exact .inr
theorem blank_facts (b : UInt8) (hb : b = 32 ∨ b = 9) : b.toNat < 128 ∧ blankB (b.toNat : Int) = true ∧ digB (b.toNat : Int) = false ∧ runeB false (b.toNat : Int) = false := by
  rcases hb with rfl | rfl <;> decide
theorem word_behind (l : List UInt8) (b : UInt8) (hb : b = 32 ∨ b = 9) (hne : l ≠ []) (he : (wordL l).e = 0) : wordL (l ++ [b]) = wordL l := by
  obtain ⟨f1, f2, f3, f4⟩ := blank_facts b hb
  unfold wordL at he ⊢
  rw [decode_behind l b hne f1]
  split
  · rename_i h39
    rw [if_pos h39] at he
    unfold textW at he ⊢
    rw [List.tail_append_of_ne_nil hne]
    cases ht : textL l.tail with
    | none => rw [ht] at he; exact absurd he (by simp [bad])
    | some x => rw [text_more [b] _ x ht]
  · rename_i h39
    split
    · have hs := span_behind digB b f1 f3 _ l (Nat.le_refl _)
      have hl := spanL_le digB _ l (Nat.le_refl _)
      unfold numW
      rw [hs, List.take_append_of_le_length hl]
    · split
      · have hs := span_behind (runeB false) b f1 f4 _ l (Nat.le_refl _)
        have hl := spanL_le (runeB false) _ l (Nat.le_refl _)
        unfold nameW
        rw [hs, List.take_append_of_le_length hl]
      · unfold signW
        rw [sign_behind l b hb]
theorem lexG_behind (b : UInt8) (hb : b = 32 ∨ b = 9) : ∀ (n m at' : Nat) (l : List UInt8) (acc : List Tk), l.length ≤ n → l.length < m → (lexG n at' l acc).2.2 = 0 → lexG m at' (l ++ [b]) acc = lexG n at' l acc := by
  obtain ⟨f1, f2, f3, f4⟩ := blank_facts b hb
  intro n
  induction n with
  | zero =>
    intro m at' l acc h1 h2 h
    have : l = [] := List.length_eq_zero_iff.1 (by omega)
    subst this
    obtain ⟨m, rfl⟩ : ∃ k, m = k + 1 := ⟨m - 1, by simp at h2; omega⟩
    rw [List.nil_append, lex_blank _ _ _ _ (by simp) (by rw [decodeL_low b _ f1]; exact f2), show ([b] : List UInt8).drop 1 = [] from rfl, lex_end, lex_end]
  | succ n ih =>
    intro m at' l acc h1 h2 h
    obtain ⟨m, rfl⟩ : ∃ k, m = k + 1 := ⟨m - 1, by omega⟩
    by_cases hne : l = []
    · subst hne
      rw [List.nil_append, lex_blank _ _ _ _ (by simp) (by rw [decodeL_low b _ f1]; exact f2), show ([b] : List UInt8).drop 1 = [] from rfl, lex_end, lex_end]
    · have hd := decode_behind l b hne f1
      have hp : 0 < l.length := List.length_pos_iff.2 hne
      cases hbk : blankB (decodeL l).1 with
      | true =>
        rw [lex_blank _ _ _ _ hne hbk] at h ⊢
        rw [lex_blank _ _ _ _ (by simp) (by rw [hd]; exact hbk), List.drop_append_of_le_length (by omega)]
        exact ih m _ _ _ (by rw [List.length_drop]; omega) (by rw [List.length_drop]; omega) h
      | false =>
        by_cases he : (wordL l).e = 0
        · have hw := word_behind l b hb hne he
          have hl := word_len l hne he
          rw [lex_word _ _ _ _ hne hbk he] at h ⊢
          rw [lex_word _ _ _ _ (by simp) (by rw [hd]; exact hbk) (by rw [hw]; exact he), hw, List.drop_append_of_le_length hl.2]
          exact ih m _ _ _ (by rw [List.length_drop]; omega) (by rw [List.length_drop]; omega) h
        · rw [lex_bad _ _ _ _ hne hbk he] at h
          exact absurd h he
theorem lex_behind (l : List UInt8) (b : UInt8) (hb : b = 32 ∨ b = 9) (hl : l.length + 1 ≤ 4096) (h : (lexL l).2.2 = 0) : lexL (l ++ [b]) = lexL l := by
  have hz : (l ++ [b]).length = l.length + 1 := by simp
  unfold lexL at h ⊢
  rw [if_neg (by omega)] at h
  rw [if_neg (by omega), if_neg (by omega)]
  exact lexG_behind b hb _ _ _ _ _ (Nat.le_refl _) (by simp) h
/-- A word so far on. -/
def mvK (k : Nat) (x : Tk) : Tk := ⟨x.k, x.t, x.n, x.at' + k⟩
theorem lexG_moved (k : Nat) : ∀ (n at' : Nat) (l : List UInt8) (acc : List Tk), lexG n (at' + k) l (acc.map (mvK k)) =
    ((lexG n at' l acc).1.map (mvK k), (if (lexG n at' l acc).2.2 = 0 then 0 else (lexG n at' l acc).2.1 + k), (lexG n at' l acc).2.2)
  | 0, at', l, acc => by simp [lexG]
  | n + 1, at', l, acc => by
    by_cases hne : l = []
    · subst hne
      rw [lex_end, lex_end]
      simp
    · cases hbk : blankB (decodeL l).1 with
      | true =>
        rw [lex_blank _ _ _ _ hne hbk, lex_blank _ _ _ _ hne hbk, ← lexG_moved k n (at' + 1) (l.drop 1) acc]
        congr 1
        omega
      | false =>
        by_cases he : (wordL l).e = 0
        · rw [lex_word _ _ _ _ hne hbk he, lex_word _ _ _ _ hne hbk he, ← lexG_moved k n _ _ _, List.map_append]
          congr 1
          omega
        · rw [lex_bad _ _ _ _ hne hbk he, lex_bad _ _ _ _ hne hbk he]
          simp [he]
theorem lexG_ahead (b : UInt8) (hb : b = 32 ∨ b = 9) (l : List UInt8) (acc : List Tk) : ∀ (k n at' : Nat), lexG (k + n) at' (List.replicate k b ++ l) acc = lexG n (at' + k) l acc
  | 0, n, at' => by simp
  | k + 1, n, at' => by
    obtain ⟨f1, f2, _⟩ := blank_facts b hb
    rw [show k + 1 + n = k + n + 1 by omega, List.replicate_succ, List.cons_append, lex_blank _ _ _ _ (by simp) (by rw [decodeL_low b _ f1]; exact f2)]
    rw [show (b :: (List.replicate k b ++ l)).drop 1 = List.replicate k b ++ l from rfl, lexG_ahead b hb l acc k n (at' + 1)]
    congr 1
    omega
theorem lex_ahead (l : List UInt8) (b : UInt8) (hb : b = 32 ∨ b = 9) (k : Nat) (hl : l.length + k ≤ 4096) : lexL (List.replicate k b ++ l) =
    ((lexL l).1.map (mvK k), (if (lexL l).2.2 = 0 then 0 else (lexL l).2.1 + k), (lexL l).2.2) := by
  have hz : (List.replicate k b ++ l).length = k + l.length := by simp
  unfold lexL
  rw [if_neg (by rw [hz]; omega), if_neg (by omega), hz, lexG_ahead b hb]
  exact lexG_moved k _ 0 l []
theorem lexG_count : ∀ (n at' : Nat) (l : List UInt8) (acc : List Tk), (lexG n at' l acc).1.length ≤ acc.length + n
  | 0, at', l, acc => by simp [lexG]
  | n + 1, at', l, acc => by
    by_cases hne : l = []
    · subst hne
      rw [lex_end]
      exact Nat.le_add_right _ _
    · cases hbk : blankB (decodeL l).1 with
      | true =>
        rw [lex_blank _ _ _ _ hne hbk]
        have := lexG_count n (at' + 1) (l.drop 1) acc
        omega
      | false =>
        by_cases he : (wordL l).e = 0
        · rw [lex_word _ _ _ _ hne hbk he]
          have := lexG_count n (at' + (wordL l).len) (l.drop (wordL l).len) (acc ++ [tkL (wordL l) at'])
          rw [List.length_append, List.length_singleton] at this
          omega
        · rw [lex_bad _ _ _ _ hne hbk he]
          exact Nat.zero_le _
theorem lex_count (l : List UInt8) : (lexL l).1.length ≤ l.length := by
  unfold lexL
  split
  · exact Nat.zero_le _
  · have := lexG_count l.length 0 l []
    rwa [List.length_nil, Nat.zero_add] at this
/-- Words stand behind one another, and within so many bytes. -/
def goodK (L : List Tk) (n : Nat) : Prop := L.Pairwise (fun x y => x.at' < y.at') ∧ ∀ x ∈ L, x.at' < n
theorem lexG_good : ∀ (n at' : Nat) (l : List UInt8) (acc : List Tk), goodK acc at' → goodK (lexG n at' l acc).1 (at' + l.length)
  | 0, at', l, acc, h => ⟨by simpa [lexG] using h.1, fun x hx => by have := h.2 x (by simpa [lexG] using hx); omega⟩
  | n + 1, at', l, acc, h => by
    by_cases hne : l = []
    · subst hne
      rw [lex_end]
      exact ⟨h.1, fun x hx => by have := h.2 x hx; omega⟩
    · have hp : 0 < l.length := List.length_pos_iff.2 hne
      cases hbk : blankB (decodeL l).1 with
      | true =>
        rw [lex_blank _ _ _ _ hne hbk]
        have := lexG_good n (at' + 1) (l.drop 1) acc ⟨h.1, fun x hx => by have := h.2 x hx; omega⟩
        rw [List.length_drop, show at' + 1 + (l.length - 1) = at' + l.length by omega] at this
        exact this
      | false =>
        by_cases he : (wordL l).e = 0
        · have hl := word_len l hne he
          rw [lex_word _ _ _ _ hne hbk he]
          have := lexG_good n (at' + (wordL l).len) (l.drop (wordL l).len) (acc ++ [tkL (wordL l) at']) ⟨by
            refine List.pairwise_append.2 ⟨h.1, List.pairwise_singleton _ _, fun x hx y hy => ?_⟩
            rw [List.mem_singleton] at hy
            subst hy
            exact h.2 x hx, fun x hx => by
            rcases List.mem_append.1 hx with hx | hx
            · have := h.2 x hx; omega
            · rw [List.mem_singleton] at hx
              subst hx
              show at' < _
              omega⟩
          rw [List.length_drop, show at' + (wordL l).len + (l.length - (wordL l).len) = at' + l.length by omega] at this
          exact this
        · rw [lex_bad _ _ _ _ hne hbk he]
          exact ⟨List.Pairwise.nil, fun x hx => by cases hx⟩
theorem lex_good (l : List UInt8) : goodK (lexL l).1 l.length := by
  unfold lexL
  split
  · exact ⟨List.Pairwise.nil, fun x hx => by cases hx⟩
  · have := lexG_good l.length 0 l [] ⟨List.Pairwise.nil, fun x hx => by cases hx⟩
    rwa [Nat.zero_add] at this
theorem lexG_none : ∀ (n at' : Nat) (l : List UInt8) (acc : List Tk), (lexG n at' l acc).2.2 ≠ 0 → (lexG n at' l acc).1 = []
  | 0, at', l, acc, h => absurd rfl h
  | n + 1, at', l, acc, h => by
    by_cases hne : l = []
    · subst hne
      rw [lex_end] at h
      exact absurd rfl h
    · cases hbk : blankB (decodeL l).1 with
      | true =>
        rw [lex_blank _ _ _ _ hne hbk] at h ⊢
        exact lexG_none n _ _ _ h
      | false =>
        by_cases he : (wordL l).e = 0
        · rw [lex_word _ _ _ _ hne hbk he] at h ⊢
          exact lexG_none n _ _ _ h
        · rw [lex_bad _ _ _ _ hne hbk he]
theorem lex_none (l : List UInt8) (h : (lexL l).2.2 ≠ 0) : (lexL l).1 = [] := by
  unfold lexL at h ⊢
  split
  · rfl
  · rename_i hl
    rw [if_neg hl] at h
    exact lexG_none _ _ _ _ h
theorem lexG_place : ∀ (n at' : Nat) (l : List UInt8) (acc : List Tk), (lexG n at' l acc).2.1 ≤ at' + l.length
  | 0, at', l, acc => Nat.zero_le _
  | n + 1, at', l, acc => by
    by_cases hne : l = []
    · subst hne
      rw [lex_end]
      exact Nat.zero_le _
    · have hp : 0 < l.length := List.length_pos_iff.2 hne
      cases hbk : blankB (decodeL l).1 with
      | true =>
        rw [lex_blank _ _ _ _ hne hbk]
        have := lexG_place n (at' + 1) (l.drop 1) acc
        rw [List.length_drop] at this
        omega
      | false =>
        by_cases he : (wordL l).e = 0
        · have hl := word_len l hne he
          rw [lex_word _ _ _ _ hne hbk he]
          have := lexG_place n (at' + (wordL l).len) (l.drop (wordL l).len) (acc ++ [tkL (wordL l) at'])
          rw [List.length_drop] at this
          omega
        · rw [lex_bad _ _ _ _ hne hbk he]
          exact Nat.le_add_right _ _
theorem lex_place (l : List UInt8) : (lexL l).2.1 ≤ l.length := by
  unfold lexL
  split
  · exact Nat.zero_le _
  · have := lexG_place l.length 0 l []
    rwa [Nat.zero_add] at this
end Go.Proofs.YtkcnpbckmdgfnaaGreatDoor
namespace Go.Proofs.YtkcnpbckmdgfnaaGreatDoor
open Go.Lib
set_option linter.unusedSimpArgs false

/-- A byte as it stands between quotes. -/
def escB (b : UInt8) : List UInt8 := if b = 39 ∨ b = 92 then [92, b] else if b = 10 then [92, 110] else [b]
def escS (l : List UInt8) : List UInt8 := l.flatMap escB
theorem escS_cons (b : UInt8) (r : List UInt8) : escS (b :: r) = escB b ++ escS r := rfl
theorem escS_app (a b : List UInt8) : escS (a ++ b) = escS a ++ escS b := by simp [escS]
theorem escS_high : ∀ l : List UInt8, (∀ b ∈ l, 128 ≤ b.toNat) → escS l = l
  | [], _ => rfl
  | b :: r, h => by
    have hb := h b (List.mem_cons_self ..)
    rw [escS_cons, escS_high r fun c hc => h c (List.mem_cons_of_mem _ hc)]
    have h1 : b ≠ 39 := fun e => by rw [e] at hb; exact absurd hb (by decide)
    have h2 : b ≠ 92 := fun e => by rw [e] at hb; exact absurd hb (by decide)
    have h3 : b ≠ 10 := fun e => by rw [e] at hb; exact absurd hb (by decide)
    unfold escB
    rw [if_neg (by simp [h1, h2]), if_neg h3]
    rfl
theorem scan_quoted : ∀ l : List UInt8, scanB (escS l ++ [39]) = some (l, (escS l).length)
  | [] => by
    show scanB [39] = _
    rw [scanB.eq_def]
    rfl
  | b :: r => by
    have ih := scan_quoted r
    rw [escS_cons]
    unfold escB
    split
    · rename_i h
      show scanB (92 :: b :: (escS r ++ [39])) = _
      rw [scan_esc, if_pos h, ih]
      simp
    · rename_i h
      split
      · rename_i h3
        subst h3
        show scanB (92 :: 110 :: (escS r ++ [39])) = _
        rw [scan_esc, if_neg (by decide), if_pos rfl, ih]
        simp
      · show scanB (b :: (escS r ++ [39])) = _
        rw [scan_cons b _ (fun e => h (.inl e)) (fun e => h (.inr e)), ih]
        simp
theorem valid_low (b : UInt8) (r : List UInt8) (h : b.toNat < 128) : validD (b :: r) = validD r := by
  rw [validD_step _ (by simp), decodeL_low b r h]
  dsimp only
  rw [if_neg (by omega)]
  rfl
theorem escB_low (b : UInt8) (h : b.toNat < 128) (y : List UInt8) : validD (escB b ++ y) = validD y := by
  unfold escB
  split
  · show validD (92 :: b :: y) = _
    rw [valid_low 92 _ (by decide), valid_low b _ h]
  · split
    · show validD (92 :: 110 :: y) = _
      rw [valid_low 92 _ (by decide), valid_low 110 _ (by decide)]
    · exact valid_low b y h
theorem valid_quoted : ∀ (n : Nat) (l : List UInt8), l.length ≤ n → validD l = true → validD (escS l) = true
  | _, [], _, h => h
  | 0, _ :: _, hl, _ => by simp at hl
  | n + 1, b :: r, hl, h => by
    by_cases hb : b.toNat < 128
    · rw [valid_low b r hb] at h
      rw [escS_cons, escB_low b hb]
      exact valid_quoted n r (by simpa using hl) h
    · have hne : b :: r ≠ [] := by simp
      have hhi := decodeL_high b r (by omega)
      have hle := decodeL_le (b :: r) hne
      have hpos := decodeL_pos (b :: r)
      have hsc := decodeL_scalar (b :: r)
      rw [validD_step _ hne] at h
      split at h
      · cases h
      · rename_i hv
        have he := encode_decode (b :: r) hne hv
        generalize b :: r = L at *
        generalize hD : decodeL L = D at *
        obtain ⟨c, w⟩ := D
        dsimp only at *
        have hel : (encodeRune (c : Int)).length = w := by rw [he, List.length_take]; omega
        have e1 : escS L = encodeRune (c : Int) ++ escS (L.drop w) := by
          have : escS L = escS (L.take w ++ L.drop w) := by rw [List.take_append_drop]
          rw [this, escS_app, ← he, escS_high _ (encode_highs (c : Int) (by omega))]
        have hde := decode_encode (c : Int) (by omega) (by omega) (escS (L.drop w))
        have hne2 : encodeRune (c : Int) ++ escS (L.drop w) ≠ [] := fun e => by
          have := congrArg List.length e
          rw [List.length_append, hel] at this
          simp at this
          omega
        rw [e1, validD_step _ hne2, hde]
        dsimp only
        rw [hel, Int.toNat_natCast, if_neg hv]
        have hdr : (encodeRune (c : Int) ++ escS (L.drop w)).drop w = escS (L.drop w) := by
          rw [← hel, List.drop_left]
        rw [hdr]
        exact valid_quoted n _ (by rw [List.length_drop]; omega) h
def quoL (l : List UInt8) : List UInt8 := 39 :: (escS l ++ [39])
theorem lex_quoted (l : List UInt8) (hv : validD l = true) (hl : (quoL l).length ≤ 4096) : lexL (quoL l) = ([⟨4, l, 0, 0⟩], 0, 0) := by
  have hw : wordL (quoL l) = ⟨4, l, 0, (escS l).length + 2, 0⟩ := by
    unfold wordL quoL
    rw [decodeL_low 39 _ (by decide)]
    dsimp only
    rw [if_pos (by decide)]
    unfold textW textL
    rw [List.tail_cons, scan_quoted]
    dsimp only
    rw [List.take_left, valid_quoted _ l (Nat.le_refl _) hv, if_pos rfl]
  have hz : (quoL l).length = (escS l).length + 2 := by simp [quoL]
  unfold lexL
  rw [if_neg (by omega), hz, lex_word _ _ _ _ (by simp [quoL]) (by unfold quoL; rw [decodeL_low 39 _ (by decide)]; decide) (by rw [hw]), hw]
  dsimp only
  rw [← hz, List.drop_length, lex_end]
  rfl
end Go.Proofs.YtkcnpbckmdgfnaaGreatDoor
