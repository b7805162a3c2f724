/-
  The words of a text that is cut off at a word, and of a text with a blank and another behind.
-/
import Derived.Test.YtefenbonjepjgaaGreatDoorLxp
namespace Go.Proofs.YtefenbonjepjgaaGreatDoor
open Go.Lib
set_option linter.unusedSimpArgs false
set_option linter.unusedVariables false

theorem decode_more (l : List UInt8) (b : UInt8) (t : List UInt8) (hne : l ≠ []) (hb : b.toNat < 128) : decodeL (l ++ b :: t) = decodeL l := by
  by_cases h : (decodeL (l ++ b :: t)).2 ≤ l.length
  · have := decodeL_take (l ++ b :: t) l.length h
    rw [List.take_left] at this
    exact this.symm
  · exfalso
    have hp : 0 < l.length := List.length_pos_iff.2 hne
    have he := encode_decode (l ++ b :: t) (by simp) (by omega)
    have hm : b ∈ (l ++ b :: t).take (decodeL (l ++ b :: t)).2 := by
      have h1 : (l ++ b :: t)[l.length]? = some b := by simp
      have h2 : ((l ++ b :: t).take (decodeL (l ++ b :: t)).2)[l.length]? = some b := by rw [List.getElem?_take_of_lt (by omega)]; exact h1
      exact List.mem_of_getElem? h2
    have hi : 128 ≤ (decodeL (l ++ b :: t)).1 := by
      obtain ⟨c, r, rfl⟩ := List.exists_cons_of_ne_nil hne
      by_cases hc : c.toNat < 128
      · rw [List.cons_append, decodeL_low c _ hc] at h
        exact absurd (by simp) h
      · exact decodeL_high c _ (by omega)
    have := encode_highs ((decodeL (l ++ b :: t)).1 : Int) (by omega) b (by rw [he]; exact hm)
    omega
theorem span_more (p : Int → Bool) (b : UInt8) (t : List UInt8) (hb : b.toNat < 128) (hp : p (b.toNat : Int) = false) : ∀ (n : Nat) (l : List UInt8), l.length ≤ n → spanL p (l ++ b :: t) = spanL p l
  | 0, l, h => by
    have : l = [] := List.length_eq_zero_iff.1 (by omega)
    subst this
    rw [List.nil_append, spanL_step _ _ (by simp), decodeL_low b _ hb]
    dsimp only
    rw [hp, if_neg (by decide), spanL_nil]
  | n + 1, l, h => by
    by_cases hne : l = []
    · subst hne
      exact span_more p b t hb hp 0 [] (Nat.le_refl _)
    · have h1 := decodeL_pos l
      have h2 := decodeL_le l hne
      rw [spanL_step _ _ (by simp), spanL_step p l hne, decode_more l b t hne hb, List.drop_append_of_le_length h2, span_more p b t hb hp n _ (by rw [List.length_drop]; omega)]
theorem scanM (t : List UInt8) : ∀ (n : Nat) (l : List UInt8), l.length ≤ n → ∀ x, scanB l = some x → scanB (l ++ t) = some x
  | _, [], _, x, h => by cases h
  | 0, _ :: _, hl, _, _ => by simp at hl
  | n + 1, b :: r, hl, x, h => by
    by_cases h1 : b = 39
    · rw [List.cons_append]
      rw [scanB.eq_def] at h ⊢
      dsimp only at h ⊢
      rw [if_pos h1] at h ⊢
      exact h
    · by_cases h2 : b = 92
      · subst h2
        match r, h with
        | [], h => cases h
        | c :: r, h =>
          rw [List.cons_append, List.cons_append]
          rw [scan_esc] at h ⊢
          simp only [List.length_cons] at hl
          split at h
          · rename_i hc
            rw [if_pos hc]
            obtain ⟨y, hy, rfl⟩ := Option.map_eq_some_iff.1 h
            rw [scanM t n r (by omega) y hy]
            rfl
          · rename_i hc
            rw [if_neg hc]
            split at h
            · rename_i hd
              rw [if_pos hd]
              obtain ⟨y, hy, rfl⟩ := Option.map_eq_some_iff.1 h
              rw [scanM t n r (by omega) y hy]
              rfl
            · cases h
      · rw [List.cons_append]
        rw [scan_cons b _ h1 h2] at h ⊢
        obtain ⟨y, hy, rfl⟩ := Option.map_eq_some_iff.1 h
        simp only [List.length_cons] at hl
        rw [scanM t n r (by omega) y hy]
        rfl
theorem textM (t l : List UInt8) (x : List UInt8 × Nat) (h : textL l = some x) : textL (l ++ t) = some x := by
  unfold textL at h ⊢
  cases hs : scanB l with
  | none => rw [hs] at h; cases h
  | some y =>
    rw [hs] at h
    rw [scanM t _ l (Nat.le_refl _) y hs]
    dsimp only at h ⊢
    have := scan_le _ l (Nat.le_refl _) y hs
    rw [List.take_append_of_le_length (by omega)]
    exact h
theorem findS {α : Type} (p q : α → Bool) : ∀ L : List α, (∀ g ∈ L, p g = q g) → L.find? p = L.find? q
  | [], _ => rfl
  | g :: L, h => by
    rw [List.find?_cons, List.find?_cons, h g (List.mem_cons_self ..), findS p q L fun k hk => h k (List.mem_cons_of_mem _ hk)]
theorem sign_more (l t : List UInt8) : signL (l ++ 32 :: t) = signL l := by
  unfold signL
  congr 1
  have hall : ∀ g ∈ signsL, (32 : UInt8) ∉ g := by decide
  refine findS _ _ _ fun g hg => ?_
  have hng := hall g hg
  rw [Bool.eq_iff_iff, List.isPrefixOf_iff_prefix, List.isPrefixOf_iff_prefix]
  constructor
  · intro h
    by_cases hl : g.length ≤ l.length
    · exact List.prefix_of_prefix_length_le h (List.prefix_append _ _) hl
    · exfalso
      apply hng
      have h1 : (l ++ 32 :: t)[l.length]? = some 32 := by simp
      exact List.mem_of_getElem? (i := l.length) (by
        obtain ⟨u, hu⟩ := h
        rw [← hu, List.getElem?_append_left (by omega)] at h1
        exact h1)
  · intro h
    exact h.trans (List.prefix_append _ _)
theorem word_more (l t : List UInt8) (hne : l ≠ []) (he : (wordL l).e = 0) : wordL (l ++ 32 :: t) = wordL l := by
  unfold wordL at he ⊢
  rw [decode_more l 32 t hne (by decide)]
  split
  · rename_i h39
    rw [if_pos h39] at he
    unfold textW at he ⊢
    rw [List.tail_append_of_ne_nil hne]
    cases ht : textL l.tail with
    | none => rw [ht] at he; exact absurd he (by simp [bad])
    | some x => rw [textM (32 :: t) _ x ht]
  · split
    · have hs := span_more digB 32 t (by decide) (by decide) _ l (Nat.le_refl _)
      have hl := spanL_le digB _ l (Nat.le_refl _)
      unfold numW
      rw [hs, List.take_append_of_le_length hl]
    · split
      · have hs := span_more (runeB false) 32 t (by decide) (by decide) _ l (Nat.le_refl _)
        have hl := spanL_le (runeB false) _ l (Nat.le_refl _)
        unfold nameW
        rw [hs, List.take_append_of_le_length hl]
      · unfold signW
        rw [sign_more l t]

/-- Enough is enough. -/
theorem lexG_fuel : ∀ (n m at' : Nat) (l : List UInt8) (acc : List Tk), l.length ≤ n → l.length ≤ m → lexG n at' l acc = lexG m at' l acc
  | 0, m, at', l, acc, h, _ => by
    have : l = [] := List.length_eq_zero_iff.1 (by omega)
    subst this
    rw [lex_end, lex_end]
  | n + 1, m, at', l, acc, h, k => by
    by_cases hne : l = []
    · subst hne
      rw [lex_end, lex_end]
    · have hp : 0 < l.length := List.length_pos_iff.2 hne
      obtain ⟨m, rfl⟩ : ∃ k, m = k + 1 := ⟨m - 1, by omega⟩
      cases hbk : blankB (decodeL l).1 with
      | true =>
        rw [lex_blank _ _ _ _ hne hbk, lex_blank _ _ _ _ hne hbk]
        exact lexG_fuel n m _ _ _ (by rw [List.length_drop]; omega) (by rw [List.length_drop]; omega)
      | false =>
        by_cases he : (wordL l).e = 0
        · have hl := word_len l hne he
          rw [lex_word _ _ _ _ hne hbk he, lex_word _ _ _ _ hne hbk he]
          exact lexG_fuel n m _ _ _ (by rw [List.length_drop]; omega) (by rw [List.length_drop]; omega)
        · rw [lex_bad _ _ _ _ hne hbk he, lex_bad _ _ _ _ hne hbk he]
/-- The words of a text, from a place on: what is behind them does not hang on those ahead. -/
inductive Lxs : Nat → List UInt8 → List Tk → Prop where
  | nil (at' : Nat) : Lxs at' [] []
  | blank (at' : Nat) (l : List UInt8) (L : List Tk) (hne : l ≠ []) (h : blankB (decodeL l).1 = true) (r : Lxs (at' + 1) (l.drop 1) L) : Lxs at' l L
  | word (at' : Nat) (l : List UInt8) (L : List Tk) (hne : l ≠ []) (h : blankB (decodeL l).1 = false) (he : (wordL l).e = 0) (r : Lxs (at' + (wordL l).len) (l.drop (wordL l).len) L) : Lxs at' l (tkL (wordL l) at' :: L)
theorem lxs_lex {at' : Nat} {l : List UInt8} {L : List Tk} (h : Lxs at' l L) : ∀ (n : Nat) (acc : List Tk), l.length ≤ n → lexG n at' l acc = (acc ++ L, 0, 0) := by
  induction h with
  | nil at' => intro n acc _; rw [lex_end, List.append_nil]
  | blank at' l L hne h r ih =>
    intro n acc hn
    have hp : 0 < l.length := List.length_pos_iff.2 hne
    obtain ⟨n, rfl⟩ : ∃ k, n = k + 1 := ⟨n - 1, by omega⟩
    rw [lex_blank _ _ _ _ hne h]
    exact ih n acc (by rw [List.length_drop]; omega)
  | word at' l L hne h he r ih =>
    intro n acc hn
    have hl := word_len l hne he
    obtain ⟨n, rfl⟩ : ∃ k, n = k + 1 := ⟨n - 1, by omega⟩
    rw [lex_word _ _ _ _ hne h he, ih n _ (by rw [List.length_drop]; omega), List.append_assoc]
    rfl
theorem lex_lxs : ∀ (n at' : Nat) (l : List UInt8) (acc : List Tk), l.length ≤ n → (lexG n at' l acc).2.2 = 0 → ∃ L, (lexG n at' l acc).1 = acc ++ L ∧ Lxs at' l L
  | 0, at', l, acc, h, _ => by
    have : l = [] := List.length_eq_zero_iff.1 (by omega)
    subst this
    exact ⟨[], by rw [lex_end, List.append_nil], .nil _⟩
  | n + 1, at', l, acc, h, k => by
    by_cases hne : l = []
    · subst hne
      exact ⟨[], by rw [lex_end, List.append_nil], .nil _⟩
    · have hp : 0 < l.length := List.length_pos_iff.2 hne
      cases hbk : blankB (decodeL l).1 with
      | true =>
        rw [lex_blank _ _ _ _ hne hbk] at k ⊢
        obtain ⟨L, h1, h2⟩ := lex_lxs n _ _ acc (by rw [List.length_drop]; omega) k
        exact ⟨L, h1, .blank _ _ _ hne hbk h2⟩
      | false =>
        by_cases he : (wordL l).e = 0
        · have hl := word_len l hne he
          rw [lex_word _ _ _ _ hne hbk he] at k ⊢
          obtain ⟨L, h1, h2⟩ := lex_lxs n _ _ _ (by rw [List.length_drop]; omega) k
          exact ⟨_ :: L, by rw [h1, List.append_assoc]; rfl, .word _ _ _ hne hbk he h2⟩
        · rw [lex_bad _ _ _ _ hne hbk he] at k
          exact absurd k he
theorem lexL_lxs {l : List UInt8} (h : (lexL l).2.2 = 0) : l.length ≤ 4096 ∧ Lxs 0 l (lexL l).1 := by
  unfold lexL at h ⊢
  by_cases hl : 4096 < l.length
  · rw [if_pos hl] at h
    exact absurd h (by decide)
  · rw [if_neg hl] at h ⊢
    obtain ⟨L, h1, h2⟩ := lex_lxs _ _ _ _ (Nat.le_refl _) h
    rw [h1, List.nil_append]
    exact ⟨by omega, h2⟩
theorem lxs_lexL {l : List UInt8} {L : List Tk} (h : Lxs 0 l L) (hl : l.length ≤ 4096) : lexL l = (L, 0, 0) := by
  unfold lexL
  rw [if_neg (by omega), lxs_lex h _ _ (Nat.le_refl _), List.nil_append]
/-- So far on. -/
def mvT (k : Nat) (x : Tk) : Tk := ⟨x.k, x.t, x.n, x.at' + k⟩
theorem Lxs.moved {at' : Nat} {l : List UInt8} {L : List Tk} (h : Lxs at' l L) (k : Nat) : Lxs (at' + k) l (L.map (mvT k)) := by
  induction h with
  | nil at' => exact .nil _
  | blank at' l L hne h r ih => exact .blank _ _ _ hne h (by rw [show at' + k + 1 = at' + 1 + k by omega]; exact ih)
  | word at' l L hne h he r ih => exact .word _ _ _ hne h he (by rw [show at' + k + (wordL l).len = at' + (wordL l).len + k by omega]; exact ih)
/-- A blank and another text behind. -/
theorem Lxs.join {at' : Nat} {l : List UInt8} {L : List Tk} (h : Lxs at' l L) {t : List UInt8} {M : List Tk} (ht : Lxs (at' + l.length + 1) t M) : Lxs at' (l ++ 32 :: t) (L ++ M) := by
  induction h with
  | nil at' =>
    refine .blank _ _ _ (by simp) ?_ ht
    show blankB (decodeL (32 :: t)).1 = true
    rw [decodeL_low 32 t (by decide)]
    decide
  | blank at' l L hne h r ih =>
    have hp : 0 < l.length := List.length_pos_iff.2 hne
    refine .blank _ _ _ (by simp) (by rw [decode_more l 32 t hne (by decide)]; exact h) ?_
    rw [List.drop_append_of_le_length (by omega)]
    exact ih (by rw [List.length_drop, show at' + 1 + (l.length - 1) + 1 = at' + l.length + 1 by omega]; exact ht)
  | word at' l L hne h he r ih =>
    have hl := word_len l hne he
    have hw := word_more l t hne he
    rw [List.cons_append, ← hw]
    refine .word _ _ _ (by simp) (by rw [decode_more l 32 t hne (by decide)]; exact h) (by rw [hw]; exact he) ?_
    rw [hw, List.drop_append_of_le_length hl.2]
    exact ih (by rw [List.length_drop, show at' + (wordL l).len + (l.length - (wordL l).len) + 1 = at' + l.length + 1 by omega]; exact ht)

theorem span_take (p : Int → Bool) : ∀ (n : Nat) (l : List UInt8) (k : Nat), l.length ≤ n → spanL p l ≤ k → (k = spanL p l ∨ (decodeL (l.drop (spanL p l))).2 ≤ k - spanL p l) → spanL p (l.take k) = spanL p l
  | 0, l, k, h, _, _ => by
    have : l = [] := List.length_eq_zero_iff.1 (by omega)
    subst this
    rw [List.take_nil]
  | n + 1, l, k, h, h1, h2 => by
    by_cases hne : l = []
    · subst hne
      rw [List.take_nil]
    · have hd1 := decodeL_pos l
      have hd2 := decodeL_le l hne
      by_cases hk : k = 0
      · subst hk
        rw [List.take_zero, spanL_nil]
        omega
      · have hne' : l.take k ≠ [] := by
          intro e
          have := congrArg List.length e
          rw [List.length_take, List.length_nil] at this
          omega
        by_cases hp : p (decodeL l).1 = true
        · have hs := spanL_step p l hne
          rw [if_pos hp] at hs
          have hdk : (decodeL l).2 ≤ k := by omega
          rw [spanL_step p (l.take k) hne', decodeL_take l k hdk, if_pos hp, List.drop_take, hs]
          rw [span_take p n (l.drop (decodeL l).2) (k - (decodeL l).2) (by rw [List.length_drop]; omega) (by omega) (by
            rw [hs, ← List.drop_drop] at h2
            rcases h2 with h2 | h2
            · left; omega
            · right
              omega)]
        · have hs := spanL_step p l hne
          rw [if_neg hp] at hs
          have hdk : (decodeL l).2 ≤ k := by
            rw [hs, List.drop_zero] at h2
            rcases h2 with h2 | h2
            · exact absurd h2 hk
            · omega
          rw [spanL_step p (l.take k) hne', decodeL_take l k hdk, if_neg hp, hs]
theorem scan_take : ∀ (n : Nat) (l : List UInt8), l.length ≤ n → ∀ x k, scanB l = some x → x.2 + 1 ≤ k → scanB (l.take k) = some x
  | _, [], _, x, k, h, _ => by cases h
  | 0, _ :: _, hl, _, _, _, _ => by simp at hl
  | n + 1, b :: r, hl, x, 0, h, hk => by omega
  | n + 1, b :: r, hl, x, k + 1, h, hk => by
    rw [List.take_succ_cons]
    by_cases h1 : b = 39
    · rw [scanB.eq_def] at h ⊢
      dsimp only at h ⊢
      rw [if_pos h1] at h ⊢
      exact h
    · by_cases h2 : b = 92
      · subst h2
        match r, h with
        | [], h => cases h
        | c :: r, h =>
          rw [scan_esc] at h
          simp only [List.length_cons] at hl
          split at h
          · rename_i hc
            obtain ⟨y, hy, rfl⟩ := Option.map_eq_some_iff.1 h
            dsimp only at hk
            obtain ⟨k, rfl⟩ : ∃ j, k = j + 1 := ⟨k - 1, by omega⟩
            rw [List.take_succ_cons, scan_esc, if_pos hc, scan_take n r (by omega) y k hy (by omega)]
            rfl
          · rename_i hc
            split at h
            · rename_i hd
              obtain ⟨y, hy, rfl⟩ := Option.map_eq_some_iff.1 h
              dsimp only at hk
              obtain ⟨k, rfl⟩ : ∃ j, k = j + 1 := ⟨k - 1, by omega⟩
              rw [List.take_succ_cons, scan_esc, if_neg hc, if_pos hd, scan_take n r (by omega) y k hy (by omega)]
              rfl
            · cases h
      · rw [scan_cons b _ h1 h2] at h ⊢
        obtain ⟨y, hy, rfl⟩ := Option.map_eq_some_iff.1 h
        simp only [List.length_cons] at hl
        dsimp only at hk
        rw [scan_take n r (by omega) y k hy (by omega)]
        rfl
theorem tail_take' : ∀ (l : List UInt8) (k : Nat), (l.take k).tail = l.tail.take (k - 1)
  | [], k => by simp
  | b :: l, 0 => by simp
  | b :: l, k + 1 => by simp
theorem find_take (l : List UInt8) (k : Nat) : ∀ (G : List (List UInt8)) (g : List UInt8), G.find? (fun g => g.isPrefixOf l) = some g → g.length ≤ k → G.find? (fun g => g.isPrefixOf (l.take k)) = some g
  | [], g, h, _ => by cases h
  | x :: G, g, h, hk => by
    rw [List.find?_cons] at h ⊢
    by_cases hx : x.isPrefixOf l = true
    · rw [hx] at h
      cases h
      have : x.isPrefixOf (l.take k) = true := by
        rw [List.isPrefixOf_iff_prefix] at hx ⊢
        exact List.prefix_take_iff.2 ⟨hx, hk⟩
      rw [this]
    · have hx' : x.isPrefixOf (l.take k) = false := by
        rw [Bool.eq_false_iff]
        intro h2
        apply hx
        rw [List.isPrefixOf_iff_prefix] at h2 ⊢
        exact h2.trans (List.take_prefix _ _)
      rw [Bool.eq_false_iff.2 hx] at h
      rw [hx']
      exact find_take l k G g h hk
theorem sign_take (l : List UInt8) (k : Nat) (hs : signL l ≠ []) (hk : (signL l).length ≤ k) : signL (l.take k) = signL l := by
  unfold signL at hs hk ⊢
  cases h : signsL.find? fun g => g.isPrefixOf l with
  | none => rw [h] at hs; exact absurd rfl hs
  | some g =>
    rw [h] at hk
    rw [find_take l k _ g h hk]
theorem num_dec (l : List UInt8) (hne : l ≠ []) (h : digB (decodeL l).1 = true) : (decodeL l).2 ≤ spanL digB l := by
  rw [spanL_step digB l hne, if_pos h]
  omega
theorem name_dec (l : List UInt8) (hne : l ≠ []) (h : runeB true (decodeL l).1 = true) : (decodeL l).2 ≤ spanL (runeB false) l := by
  have hn2 : runeB false (decodeL l).1 = true := by
    unfold runeB at h ⊢
    revert h
    cases letB (decodeL l).1 || decide ((((decodeL l).1 : Nat) : Int) = 95) <;> simp
  rw [spanL_step (runeB false) l hne, if_pos hn2]
  omega
theorem low_one (l : List UInt8) (hne : l ≠ []) (h : (decodeL l).1 < 128) : (decodeL l).2 = 1 := by
  obtain ⟨c, r, rfl⟩ := List.exists_cons_of_ne_nil hne
  by_cases hc : c.toNat < 128
  · rw [decodeL_low c r hc]
  · have := decodeL_high c r (by omega)
    omega
theorem sign_low (l : List UInt8) (hne : l ≠ []) (hs : signL l ≠ []) : (decodeL l).2 = 1 := by
  unfold signL at hs
  cases h : signsL.find? fun g => g.isPrefixOf l with
  | none => rw [h] at hs; exact absurd rfl hs
  | some g =>
    have h1 := List.find?_some h
    have h2 := List.mem_of_find?_eq_some h
    obtain ⟨r, rfl⟩ := List.isPrefixOf_iff_prefix.1 h1
    have hall : ∀ g ∈ signsL, g ≠ [] ∧ ∀ b ∈ g, b.toNat < 128 := by decide
    obtain ⟨a1, a2⟩ := hall g h2
    obtain ⟨c, g, rfl⟩ := List.exists_cons_of_ne_nil a1
    rw [List.cons_append, decodeL_low c _ (a2 c (List.mem_cons_self ..))]
/-- A word's first rune lies within it. -/
theorem word_dec (l : List UInt8) (hne : l ≠ []) (he : (wordL l).e = 0) : (decodeL l).2 ≤ (wordL l).len := by
  have hlen := (word_len l hne he).1
  unfold wordL at he hlen ⊢
  split
  · rename_i h39
    rw [if_pos h39] at hlen
    have := low_one l hne (by omega)
    omega
  · rename_i h39
    rw [if_neg h39] at he hlen
    split
    · rename_i hd
      rw [if_pos hd] at he
      have := num_dec l hne hd
      unfold numW at he ⊢
      split
      · exact this
      · rename_i hm
        rw [if_neg hm] at he
        exact absurd he (by simp [bad])
    · rename_i hd
      rw [if_neg hd] at he hlen
      split
      · rename_i hn
        rw [if_pos hn] at he
        have := name_dec l hne hn
        unfold nameW at he ⊢
        split
        · exact this
        · rename_i hk
          rw [if_neg hk] at he
          split
          · rename_i h32
            rw [if_pos h32] at he
            exact absurd he (by simp [bad])
          · exact this
      · rename_i hn
        rw [if_neg hn] at he hlen
        unfold signW at he hlen ⊢
        split
        · rename_i hs
          rw [if_pos hs] at he
          exact absurd he (by simp [bad])
        · rename_i hs
          rw [if_neg hs] at hlen
          rw [sign_low l hne hs]
          exact hlen
theorem word_take (l : List UInt8) (k : Nat) (hne : l ≠ []) (he : (wordL l).e = 0) (hk : (wordL l).len ≤ k) (hr : k = (wordL l).len ∨ (decodeL (l.drop (wordL l).len)).2 ≤ k - (wordL l).len) : wordL (l.take k) = wordL l := by
  have hdec := word_dec l hne he
  have hd := decodeL_take l k (by omega)
  unfold wordL at he hk hr ⊢
  rw [hd]
  split
  · rename_i h39
    rw [if_pos h39] at he hk
    unfold textW at he hk ⊢
    cases ht : textL l.tail with
    | none => rw [ht] at he; exact absurd he (by simp [bad])
    | some x =>
      rw [ht] at hk
      dsimp only at hk
      have : textL (l.take k).tail = some x := by
        unfold textL at ht ⊢
        cases hs : scanB l.tail with
        | none => rw [hs] at ht; cases ht
        | some y =>
          rw [hs] at ht
          dsimp only at ht
          split at ht
          · rename_i hv
            cases ht
            rw [tail_take', scan_take _ l.tail (Nat.le_refl _) x (k - 1) hs (by omega)]
            dsimp only
            rw [List.take_take, Nat.min_eq_left (by omega), if_pos hv]
          · cases ht
      rw [this]
  · rename_i h39
    rw [if_neg h39] at he hk hr
    split
    · rename_i hdg
      rw [if_pos hdg] at he hk hr
      unfold numW at he hk hr ⊢
      split at he
      · rename_i hm
        rw [if_pos hm] at hk hr
        dsimp only at hk hr
        rw [span_take digB _ l k (Nat.le_refl _) hk hr, List.take_take, Nat.min_eq_left hk]
      · exact absurd he (by simp [bad])
    · rename_i hdg
      rw [if_neg hdg] at he hk hr
      split
      · rename_i hn
        rw [if_pos hn] at he hk hr
        have hq : (nameW l).len = spanL (runeB false) l := by
          unfold nameW at he ⊢
          split
          · rfl
          · rename_i hkey
            rw [if_neg hkey] at he
            split
            · rename_i h32
              rw [if_pos h32] at he
              exact absurd he (by simp [bad])
            · rfl
        rw [hq] at hk hr
        unfold nameW
        rw [span_take (runeB false) _ l k (Nat.le_refl _) hk hr, List.take_take, Nat.min_eq_left hk]
      · rename_i hn
        rw [if_neg hn] at he hk hr
        unfold signW at he hk ⊢
        split at he
        · exact absurd he (by simp [bad])
        · rename_i hs
          rw [if_neg hs] at hk
          dsimp only at hk
          rw [sign_take l k hs hk]
theorem Lxs.ge {at' : Nat} {l : List UInt8} {L : List Tk} (h : Lxs at' l L) : ∀ x ∈ L, at' ≤ x.at' ∧ x.at' < at' + l.length := by
  induction h with
  | nil at' => intro x hx; cases hx
  | blank at' l L hne h r ih =>
    intro x hx
    have hp : 0 < l.length := List.length_pos_iff.2 hne
    have := ih x hx
    rw [List.length_drop] at this
    omega
  | word at' l L hne h he r ih =>
    intro x hx
    have hl := word_len l hne he
    rcases List.mem_cons.1 hx with rfl | hx
    · show at' ≤ at' ∧ at' < _
      omega
    · have := ih x hx
      rw [List.length_drop] at this
      omega
/-- Cut off at a word: the words ahead of it, and those from it on. -/
theorem Lxs.cut {at' : Nat} {l : List UInt8} {L : List Tk} (h : Lxs at' l L) : ∀ (i : Nat) (x : Tk), L[i]? = some x → (x.at' = at' ∨ (decodeL l).2 ≤ x.at' - at') ∧ Lxs at' (l.take (x.at' - at')) (L.take i) ∧ Lxs x.at' (l.drop (x.at' - at')) (L.drop i) := by
  induction h with
  | nil at' => intro i x hx; simp at hx
  | blank at' l L hne h r ih =>
    intro i x hx
    obtain ⟨h1, h2, h3⟩ := ih i x hx
    have hge := (r.ge x (List.mem_of_getElem? hx)).1
    obtain ⟨k, hk⟩ : ∃ k, x.at' = at' + 1 + k := ⟨x.at' - at' - 1, by omega⟩
    rw [show x.at' - (at' + 1) = k by omega] at h1 h2 h3
    rw [show x.at' - at' = k + 1 by omega]
    have hb := blank_one l hne h
    have hlt := (r.ge x (List.mem_of_getElem? hx)).2
    refine ⟨.inr (by omega), .blank _ _ _ ?_ ?_ ?_, ?_⟩
    · intro e
      have := congrArg List.length e
      have hp : 0 < l.length := List.length_pos_iff.2 hne
      rw [List.length_take, List.length_nil] at this
      omega
    · rw [decodeL_take l _ (by omega)]
      exact h
    · rw [List.drop_take]
      exact h2
    · rw [List.drop_drop, Nat.add_comm 1 k] at h3
      exact h3
  | word at' l L hne h he r ih =>
    intro i x hx
    have hl := word_len l hne he
    cases i with
    | zero =>
      cases hx
      refine ⟨.inl rfl, ?_, ?_⟩
      · show Lxs at' (l.take (at' - at')) _
        rw [Nat.sub_self, List.take_zero]
        exact .nil _
      · show Lxs at' (l.drop (at' - at')) _
        rw [Nat.sub_self]
        exact .word _ _ _ hne h he r
    | succ i =>
      rw [List.getElem?_cons_succ] at hx
      obtain ⟨h1, h2, h3⟩ := ih i x hx
      have hge := (r.ge x (List.mem_of_getElem? hx)).1
      obtain ⟨k, hk⟩ : ∃ k, x.at' = at' + (wordL l).len + k := ⟨x.at' - at' - (wordL l).len, by omega⟩
      rw [show x.at' - (at' + (wordL l).len) = k by omega] at h1 h2 h3
      rw [show x.at' - at' = (wordL l).len + k by omega]
      have hdec := word_dec l hne he
      have hw := word_take l ((wordL l).len + k) hne he (by omega) (by
        rcases h1 with h1 | h1
        · left; omega
        · right
          rw [show (wordL l).len + k - (wordL l).len = k by omega]
          exact h1)
      refine ⟨.inr (by omega), ?_, ?_⟩
      · have hq : tkL (wordL l) at' = tkL (wordL (l.take ((wordL l).len + k))) at' := by rw [hw]
        rw [List.take_succ_cons, hq]
        refine .word _ _ _ ?_ ?_ (by rw [hw]; exact he) ?_
        · intro e
          have := congrArg List.length e
          rw [List.length_take, List.length_nil] at this
          omega
        · rw [decodeL_take l _ (by omega)]
          exact h
        · rw [hw, List.drop_take, show (wordL l).len + k - (wordL l).len = k by omega]
          exact h2
      · rw [List.drop_succ_cons]
        rw [List.drop_drop] at h3
        exact h3
end Go.Proofs.YtefenbonjepjgaaGreatDoor
