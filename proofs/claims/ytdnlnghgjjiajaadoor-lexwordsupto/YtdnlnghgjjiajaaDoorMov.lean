/-
  Blanks ahead of a text, and a blank behind it: pure.
-/
import Derived.Test.YtdnlnghgjjiajaaDoorLxp
import Derived.Test.YtdnlnghgjjiajaaDoorDec
namespace Go.Proofs.YtdnlnghgjjiajaaDoor
open Go.Lib
set_option linter.unusedSimpArgs false

theorem decode_behind (l : List UInt8) (b : UInt8) (hne : l ≠ []) (hb : b.toNat < 128) : decodeL (l ++ [b]) = decodeL l := by
  have hle := decodeL_le (l ++ [b]) (by simp)
  rw [List.length_append] at hle
  by_cases h : (decodeL (l ++ [b])).2 ≤ l.length
  · have := decodeL_take (l ++ [b]) l.length h
    rw [List.take_left] at this
    exact this.symm
  · exfalso
    have hp : 0 < l.length := List.length_pos_iff.2 hne
    have h2 : (decodeL (l ++ [b])).2 = l.length + 1 := by
      have : ([b] : List UInt8).length = 1 := rfl
      omega
    have he := encode_decode (l ++ [b]) (by simp) (by omega)
    rw [h2, List.take_of_length_le (by simp)] at he
    have hi : 128 ≤ (decodeL (l ++ [b])).1 := by
      obtain ⟨c, r, rfl⟩ := List.exists_cons_of_ne_nil hne
      by_cases hc : c.toNat < 128
      · rw [List.cons_append, decodeL_low c _ hc] at h2
        simp at h2
      · exact decodeL_high c _ (by omega)
    have := encode_highs ((decodeL (l ++ [b])).1 : Int) (by omega) b (by rw [he]; simp)
    omega
theorem span_behind (p : Int → Bool) (b : UInt8) (hb : b.toNat < 128) (hp : p (b.toNat : Int) = false) : ∀ (n : Nat) (l : List UInt8), l.length ≤ n → spanL p (l ++ [b]) = spanL p l
  | 0, l, h => by
    have : l = [] := List.length_eq_zero_iff.1 (by omega)
    subst this
    rw [List.nil_append, spanL_step _ _ (by simp), decodeL_low b _ hb]
    dsimp only
    rw [hp, if_neg (by decide), spanL_nil]
  | n + 1, l, h => by
    by_cases hne : l = []
    · subst hne
      exact span_behind p b hb hp 0 [] (Nat.le_refl _)
    · have h1 := decodeL_pos l
      have h2 := decodeL_le l hne
      rw [spanL_step _ _ (by simp), spanL_step p l hne, decode_behind l b hne hb, List.drop_append_of_le_length h2, span_behind p b hb hp n _ (by rw [List.length_drop]; omega)]
theorem scan_more (t : List UInt8) : ∀ (n : Nat) (l : List UInt8), l.length ≤ n → ∀ x, scanB l = some x → scanB (l ++ t) = some x
  | _, [], _, x, h => by cases h
  | 0, _ :: _, hl, _, _ => by simp at hl
  | n + 1, b :: r, hl, x, h => by
    by_cases h1 : b = 39
    · rw [List.cons_append]
      rw [scanB.eq_def] at h ⊢
      dsimp only at h ⊢
      rw [if_pos h1] at h ⊢
      exact h
    · by_cases h2 : b = 92
      · subst h2
        match r, h with
        | [], h => cases h
        | c :: r, h =>
          rw [List.cons_append, List.cons_append]
          rw [scan_esc] at h ⊢
          simp only [List.length_cons] at hl
          split at h
          · rename_i hc
            rw [if_pos hc]
            obtain ⟨y, hy, rfl⟩ := Option.map_eq_some_iff.1 h
            rw [scan_more t n r (by omega) y hy]
            rfl
          · rename_i hc
            rw [if_neg hc]
            split at h
            · rename_i hd
              rw [if_pos hd]
              obtain ⟨y, hy, rfl⟩ := Option.map_eq_some_iff.1 h
              rw [scan_more t n r (by omega) y hy]
              rfl
            · cases h
      · rw [List.cons_append]
        rw [scan_cons b _ h1 h2] at h ⊢
        obtain ⟨y, hy, rfl⟩ := Option.map_eq_some_iff.1 h
        simp only [List.length_cons] at hl
        rw [scan_more t n r (by omega) y hy]
        rfl
theorem text_more (t l : List UInt8) (x : List UInt8 × Nat) (h : textL l = some x) : textL (l ++ t) = some x := by
  unfold textL at h ⊢
  cases hs : scanB l with
  | none => rw [hs] at h; cases h
  | some y =>
    rw [hs] at h
    rw [scan_more t _ l (Nat.le_refl _) y hs]
    dsimp only at h ⊢
    have := scan_le _ l (Nat.le_refl _) y hs
    rw [List.take_append_of_le_length (by omega)]
    exact h
theorem find_same {α : Type} (p q : α → Bool) : ∀ L : List α, (∀ g ∈ L, p g = q g) → L.find? p = L.find? q
  | [], _ => rfl
  | g :: L, h => by
    rw [List.find?_cons, List.find?_cons, h g (List.mem_cons_self ..), find_same p q L fun k hk => h k (List.mem_cons_of_mem _ hk)]
theorem sign_behind (l : List UInt8) (b : UInt8) (hb : b = 32 ∨ b = 9) : signL (l ++ [b]) = signL l := by
  unfold signL
  congr 1
  have hall : ∀ g ∈ signsL, (32 : UInt8) ∉ g ∧ (9 : UInt8) ∉ g := by decide
  refine find_same _ _ _ fun g hg => ?_
  have hng : b ∉ g := by rcases hb with rfl | rfl; exact (hall g hg).1; exact (hall g hg).2
  rw [Bool.eq_iff_iff, List.isPrefixOf_iff_prefix, List.isPrefixOf_iff_prefix, List.prefix_concat_iff]
  constructor
  · rintro (rfl | h)
    · exact absurd (by simp) hng
    · exact h
  · exact .inr
theorem blank_facts (b : UInt8) (hb : b = 32 ∨ b = 9) : b.toNat < 128 ∧ blankB (b.toNat : Int) = true ∧ digB (b.toNat : Int) = false ∧ runeB false (b.toNat : Int) = false := by
  rcases hb with rfl | rfl <;> decide
theorem word_behind (l : List UInt8) (b : UInt8) (hb : b = 32 ∨ b = 9) (hne : l ≠ []) (he : (wordL l).e = 0) : wordL (l ++ [b]) = wordL l := by
  obtain ⟨f1, f2, f3, f4⟩ := blank_facts b hb
  unfold wordL at he ⊢
  rw [decode_behind l b hne f1]
  split
  · rename_i h39
    rw [if_pos h39] at he
    unfold textW at he ⊢
    rw [List.tail_append_of_ne_nil hne]
    cases ht : textL l.tail with
    | none => rw [ht] at he; exact absurd he (by simp [bad])
    | some x => rw [text_more [b] _ x ht]
  · rename_i h39
    split
    · have hs := span_behind digB b f1 f3 _ l (Nat.le_refl _)
      have hl := spanL_le digB _ l (Nat.le_refl _)
      unfold numW
      rw [hs, List.take_append_of_le_length hl]
    · split
      · have hs := span_behind (runeB false) b f1 f4 _ l (Nat.le_refl _)
        have hl := spanL_le (runeB false) _ l (Nat.le_refl _)
        unfold nameW
        rw [hs, List.take_append_of_le_length hl]
      · unfold signW
        rw [sign_behind l b hb]
theorem lexG_behind (b : UInt8) (hb : b = 32 ∨ b = 9) : ∀ (n m at' : Nat) (l : List UInt8) (acc : List Tk), l.length ≤ n → l.length < m → (lexG n at' l acc).2.2 = 0 → lexG m at' (l ++ [b]) acc = lexG n at' l acc := by
  obtain ⟨f1, f2, f3, f4⟩ := blank_facts b hb
  intro n
  induction n with
  | zero =>
    intro m at' l acc h1 h2 h
    have : l = [] := List.length_eq_zero_iff.1 (by omega)
    subst this
    obtain ⟨m, rfl⟩ : ∃ k, m = k + 1 := ⟨m - 1, by simp at h2; omega⟩
    rw [List.nil_append, lex_blank _ _ _ _ (by simp) (by rw [decodeL_low b _ f1]; exact f2), show ([b] : List UInt8).drop 1 = [] from rfl, lex_end, lex_end]
  | succ n ih =>
    intro m at' l acc h1 h2 h
    obtain ⟨m, rfl⟩ : ∃ k, m = k + 1 := ⟨m - 1, by omega⟩
    by_cases hne : l = []
    · subst hne
      rw [List.nil_append, lex_blank _ _ _ _ (by simp) (by rw [decodeL_low b _ f1]; exact f2), show ([b] : List UInt8).drop 1 = [] from rfl, lex_end, lex_end]
    · have hd := decode_behind l b hne f1
      have hp : 0 < l.length := List.length_pos_iff.2 hne
      cases hbk : blankB (decodeL l).1 with
      | true =>
        rw [lex_blank _ _ _ _ hne hbk] at h ⊢
        rw [lex_blank _ _ _ _ (by simp) (by rw [hd]; exact hbk), List.drop_append_of_le_length (by omega)]
        exact ih m _ _ _ (by rw [List.length_drop]; omega) (by rw [List.length_drop]; omega) h
      | false =>
        by_cases he : (wordL l).e = 0
        · have hw := word_behind l b hb hne he
          have hl := word_len l hne he
          rw [lex_word _ _ _ _ hne hbk he] at h ⊢
          rw [lex_word _ _ _ _ (by simp) (by rw [hd]; exact hbk) (by rw [hw]; exact he), hw, List.drop_append_of_le_length hl.2]
          exact ih m _ _ _ (by rw [List.length_drop]; omega) (by rw [List.length_drop]; omega) h
        · rw [lex_bad _ _ _ _ hne hbk he] at h
          exact absurd h he
theorem lex_behind (l : List UInt8) (b : UInt8) (hb : b = 32 ∨ b = 9) (hl : l.length + 1 ≤ 4096) (h : (lexL l).2.2 = 0) : lexL (l ++ [b]) = lexL l := by
  have hz : (l ++ [b]).length = l.length + 1 := by simp
  unfold lexL at h ⊢
  rw [if_neg (by omega)] at h
  rw [if_neg (by omega), if_neg (by omega)]
  exact lexG_behind b hb _ _ _ _ _ (Nat.le_refl _) (by simp) h
/-- A word so far on. -/
def mvK (k : Nat) (x : Tk) : Tk := ⟨x.k, x.t, x.n, x.at' + k⟩
theorem lexG_moved (k : Nat) : ∀ (n at' : Nat) (l : List UInt8) (acc : List Tk), lexG n (at' + k) l (acc.map (mvK k)) =
    ((lexG n at' l acc).1.map (mvK k), (if (lexG n at' l acc).2.2 = 0 then 0 else (lexG n at' l acc).2.1 + k), (lexG n at' l acc).2.2)
  | 0, at', l, acc => by simp [lexG]
  | n + 1, at', l, acc => by
    by_cases hne : l = []
    · subst hne
      rw [lex_end, lex_end]
      simp
    · cases hbk : blankB (decodeL l).1 with
      | true =>
        rw [lex_blank _ _ _ _ hne hbk, lex_blank _ _ _ _ hne hbk, ← lexG_moved k n (at' + 1) (l.drop 1) acc]
        congr 1
        omega
      | false =>
        by_cases he : (wordL l).e = 0
        · rw [lex_word _ _ _ _ hne hbk he, lex_word _ _ _ _ hne hbk he, ← lexG_moved k n _ _ _, List.map_append]
          congr 1
          omega
        · rw [lex_bad _ _ _ _ hne hbk he, lex_bad _ _ _ _ hne hbk he]
          simp [he]
theorem lexG_ahead (b : UInt8) (hb : b = 32 ∨ b = 9) (l : List UInt8) (acc : List Tk) : ∀ (k n at' : Nat), lexG (k + n) at' (List.replicate k b ++ l) acc = lexG n (at' + k) l acc
  | 0, n, at' => by simp
  | k + 1, n, at' => by
    obtain ⟨f1, f2, _⟩ := blank_facts b hb
    rw [show k + 1 + n = k + n + 1 by omega, List.replicate_succ, List.cons_append, lex_blank _ _ _ _ (by simp) (by rw [decodeL_low b _ f1]; exact f2)]
    rw [show (b :: (List.replicate k b ++ l)).drop 1 = List.replicate k b ++ l from rfl, lexG_ahead b hb l acc k n (at' + 1)]
    congr 1
    omega
theorem lex_ahead (l : List UInt8) (b : UInt8) (hb : b = 32 ∨ b = 9) (k : Nat) (hl : l.length + k ≤ 4096) : lexL (List.replicate k b ++ l) =
    ((lexL l).1.map (mvK k), (if (lexL l).2.2 = 0 then 0 else (lexL l).2.1 + k), (lexL l).2.2) := by
  have hz : (List.replicate k b ++ l).length = k + l.length := by simp
  unfold lexL
  rw [if_neg (by rw [hz]; omega), if_neg (by omega), hz, lexG_ahead b hb]
  exact lexG_moved k _ 0 l []
theorem lexG_count : ∀ (n at' : Nat) (l : List UInt8) (acc : List Tk), (lexG n at' l acc).1.length ≤ acc.length + n
  | 0, at', l, acc => by simp [lexG]
  | n + 1, at', l, acc => by
    by_cases hne : l = []
    · subst hne
      rw [lex_end]
      exact Nat.le_add_right _ _
    · cases hbk : blankB (decodeL l).1 with
      | true =>
        rw [lex_blank _ _ _ _ hne hbk]
        have := lexG_count n (at' + 1) (l.drop 1) acc
        omega
      | false =>
        by_cases he : (wordL l).e = 0
        · rw [lex_word _ _ _ _ hne hbk he]
          have := lexG_count n (at' + (wordL l).len) (l.drop (wordL l).len) (acc ++ [tkL (wordL l) at'])
          rw [List.length_append, List.length_singleton] at this
          omega
        · rw [lex_bad _ _ _ _ hne hbk he]
          exact Nat.zero_le _
theorem lex_count (l : List UInt8) : (lexL l).1.length ≤ l.length := by
  unfold lexL
  split
  · exact Nat.zero_le _
  · have := lexG_count l.length 0 l []
    rwa [List.length_nil, Nat.zero_add] at this
/-- Words stand behind one another, and within so many bytes. -/
def goodK (L : List Tk) (n : Nat) : Prop := L.Pairwise (fun x y => x.at' < y.at') ∧ ∀ x ∈ L, x.at' < n
theorem lexG_good : ∀ (n at' : Nat) (l : List UInt8) (acc : List Tk), goodK acc at' → goodK (lexG n at' l acc).1 (at' + l.length)
  | 0, at', l, acc, h => ⟨by simpa [lexG] using h.1, fun x hx => by have := h.2 x (by simpa [lexG] using hx); omega⟩
  | n + 1, at', l, acc, h => by
    by_cases hne : l = []
    · subst hne
      rw [lex_end]
      exact ⟨h.1, fun x hx => by have := h.2 x hx; omega⟩
    · have hp : 0 < l.length := List.length_pos_iff.2 hne
      cases hbk : blankB (decodeL l).1 with
      | true =>
        rw [lex_blank _ _ _ _ hne hbk]
        have := lexG_good n (at' + 1) (l.drop 1) acc ⟨h.1, fun x hx => by have := h.2 x hx; omega⟩
        rw [List.length_drop, show at' + 1 + (l.length - 1) = at' + l.length by omega] at this
        exact this
      | false =>
        by_cases he : (wordL l).e = 0
        · have hl := word_len l hne he
          rw [lex_word _ _ _ _ hne hbk he]
          have := lexG_good n (at' + (wordL l).len) (l.drop (wordL l).len) (acc ++ [tkL (wordL l) at']) ⟨by
            refine List.pairwise_append.2 ⟨h.1, List.pairwise_singleton _ _, fun x hx y hy => ?_⟩
            rw [List.mem_singleton] at hy
            subst hy
            exact h.2 x hx, fun x hx => by
            rcases List.mem_append.1 hx with hx | hx
            · have := h.2 x hx; omega
            · rw [List.mem_singleton] at hx
              subst hx
              show at' < _
              omega⟩
          rw [List.length_drop, show at' + (wordL l).len + (l.length - (wordL l).len) = at' + l.length by omega] at this
          exact this
        · rw [lex_bad _ _ _ _ hne hbk he]
          exact ⟨List.Pairwise.nil, fun x hx => by cases hx⟩
theorem lex_good (l : List UInt8) : goodK (lexL l).1 l.length := by
  unfold lexL
  split
  · exact ⟨List.Pairwise.nil, fun x hx => by cases hx⟩
  · have := lexG_good l.length 0 l [] ⟨List.Pairwise.nil, fun x hx => by cases hx⟩
    rwa [Nat.zero_add] at this
theorem lexG_none : ∀ (n at' : Nat) (l : List UInt8) (acc : List Tk), (lexG n at' l acc).2.2 ≠ 0 → (lexG n at' l acc).1 = []
  | 0, at', l, acc, h => absurd rfl h
  | n + 1, at', l, acc, h => by
    by_cases hne : l = []
    · subst hne
      rw [lex_end] at h
      exact absurd rfl h
    · cases hbk : blankB (decodeL l).1 with
      | true =>
        rw [lex_blank _ _ _ _ hne hbk] at h ⊢
        exact lexG_none n _ _ _ h
      | false =>
        by_cases he : (wordL l).e = 0
        · rw [lex_word _ _ _ _ hne hbk he] at h ⊢
          exact lexG_none n _ _ _ h
        · rw [lex_bad _ _ _ _ hne hbk he]
theorem lex_none (l : List UInt8) (h : (lexL l).2.2 ≠ 0) : (lexL l).1 = [] := by
  unfold lexL at h ⊢
  split
  · rfl
  · rename_i hl
    rw [if_neg hl] at h
    exact lexG_none _ _ _ _ h
theorem lexG_place : ∀ (n at' : Nat) (l : List UInt8) (acc : List Tk), (lexG n at' l acc).2.1 ≤ at' + l.length
  | 0, at', l, acc => Nat.zero_le _
  | n + 1, at', l, acc => by
    by_cases hne : l = []
    · subst hne
      rw [lex_end]
      exact Nat.zero_le _
    · have hp : 0 < l.length := List.length_pos_iff.2 hne
      cases hbk : blankB (decodeL l).1 with
      | true =>
        rw [lex_blank _ _ _ _ hne hbk]
        have := lexG_place n (at' + 1) (l.drop 1) acc
        rw [List.length_drop] at this
        omega
      | false =>
        by_cases he : (wordL l).e = 0
        · have hl := word_len l hne he
          rw [lex_word _ _ _ _ hne hbk he]
          have := lexG_place n (at' + (wordL l).len) (l.drop (wordL l).len) (acc ++ [tkL (wordL l) at'])
          rw [List.length_drop] at this
          omega
        · rw [lex_bad _ _ _ _ hne hbk he]
          exact Nat.le_add_right _ _
theorem lex_place (l : List UInt8) : (lexL l).2.1 ≤ l.length := by
  unfold lexL
  split
  · exact Nat.zero_le _
  · have := lexG_place l.length 0 l []
    rwa [Nat.zero_add] at this
end Go.Proofs.YtdnlnghgjjiajaaDoor
