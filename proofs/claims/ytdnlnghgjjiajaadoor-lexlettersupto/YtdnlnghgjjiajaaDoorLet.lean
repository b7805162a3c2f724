/-
  A key in small and great letters, by itself and with more behind it: pure.
-/
import Derived.Test.YtdnlnghgjjiajaaDoorRky
import Derived.Test.YtdnlnghgjjiajaaDoorNmp
namespace Go.Proofs.YtdnlnghgjjiajaaDoor
open Go.Lib
set_option linter.unusedSimpArgs false

/-- A letter of the first ones. -/
def ltr (b : UInt8) : Prop := 97 ≤ b.toNat ∧ b.toNat ≤ 122 ∨ 65 ≤ b.toNat ∧ b.toNat ≤ 90
theorem ltr_low {b : UInt8} (h : ltr b) : b.toNat < 128 := by unfold ltr at h; omega
theorem ltr_rune {b : UInt8} (h : ltr b) (f : Bool) : runeB f (b.toNat : Int) = true := by
  have : letB (b.toNat : Int) = true := (letB_t _).2 (by unfold ltr at h; omega)
  unfold runeB
  rw [this]
  rfl
theorem span_ltr : ∀ (B L : List UInt8), (∀ b ∈ B, ltr b) → spanL (runeB false) (B ++ L) = B.length + spanL (runeB false) L
  | [], L, _ => by simp
  | b :: B, L, h => by
    have hb := h b (List.mem_cons_self ..)
    rw [List.cons_append, spanL_step _ _ (by simp), decodeL_low b _ (ltr_low hb)]
    dsimp only
    rw [if_pos (ltr_rune hb false), show (b :: (B ++ L)).drop 1 = B ++ L from rfl, span_ltr B L (fun c hc => h c (List.mem_cons_of_mem _ hc)), List.length_cons]
    omega
/-- A text that begins with a letter: what it begins with is a name or a key. -/
theorem word_ltr (b : UInt8) (L : List UInt8) (h : ltr b) : wordL (b :: L) = nameW (b :: L) ∧ blankB (decodeL (b :: L)).1 = false := by
  have hl := ltr_low h
  have hr := ltr_rune h true
  have hd : digB (b.toNat : Int) = false := by
    cases hx : digB (b.toNat : Int) with
    | false => rfl
    | true => rw [digB_t] at hx; unfold ltr at h; omega
  refine ⟨?_, ?_⟩
  · unfold wordL
    rw [decodeL_low b _ hl]
    dsimp only
    rw [if_neg (by unfold ltr at h; omega), hd, if_neg (by decide), if_pos hr]
  · rw [decodeL_low b _ hl]
    dsimp only
    cases hx : blankB (b.toNat : Int) with
    | false => rfl
    | true => rw [blankB_t] at hx; unfold ltr at h; omega
theorem lex_key (B K : List UInt8) (hne : B ≠ []) (hb : ∀ b ∈ B, ltr b) (hk : keyL B = K) (hK : K ≠ []) (hl : B.length ≤ 4096) : lexL B = ([⟨2, K, 0, 0⟩], 0, 0) := by
  subst hk
  have hsp := span_ltr B [] hb
  rw [List.append_nil, spanL_nil, Nat.add_zero] at hsp
  obtain ⟨b, r, rfl⟩ := List.exists_cons_of_ne_nil hne
  obtain ⟨h1, h2⟩ := word_ltr b r (hb b (List.mem_cons_self ..))
  have hw : wordL (b :: r) = ⟨2, keyL (b :: r), 0, (b :: r).length, 0⟩ := by
    rw [h1]
    unfold nameW
    rw [hsp, List.take_length, if_pos hK]
  unfold lexL
  rw [if_neg (by omega)]
  rw [show (b :: r).length = r.length + 1 from rfl, lex_word _ _ _ _ (by simp) h2 (by rw [hw]), hw]
  dsimp only
  rw [List.drop_length, lex_end]
  rfl
theorem lexG_pre : ∀ (n at' : Nat) (l : List UInt8) (acc : List Tk), (lexG n at' l acc).2.2 ≠ 0 ∨ acc <+: (lexG n at' l acc).1
  | 0, at', l, acc => .inr (by simp [lexG])
  | n + 1, at', l, acc => by
    unfold lexG
    split
    · exact .inr (List.prefix_rfl)
    · split
      · exact lexG_pre n _ _ acc
      · split
        · rcases lexG_pre n (at' + (wordL l).len) (l.drop (wordL l).len) (acc ++ [⟨(wordL l).k, (wordL l).t, (wordL l).n, at'⟩]) with h | h
          · exact .inl h
          · exact .inr ((List.prefix_append _ _).trans h)
        · rename_i h
          exact .inl h
theorem key_no95 (l : List UInt8) (h : (95 : UInt8) ∈ l) : keyL l = [] := by
  have hall : ∀ k ∈ keysL, (95 : UInt8) ∉ k := by decide
  unfold keyL
  rw [if_neg]
  intro ha
  obtain ⟨k, hk, e⟩ := List.any_eq_true.1 ha
  have e := of_decide_eq_true e
  exact hall k hk (by rw [← e]; exact List.mem_map.2 ⟨95, h, rfl⟩)
theorem lex_nokey (B L : List UInt8) (hne : B ≠ []) (hb : ∀ b ∈ B, ltr b) : (lexL (B ++ 95 :: L)).2.2 ≠ 0 ∨ ∃ x r, (lexL (B ++ 95 :: L)).1 = x :: r ∧ x.k = 1 := by
  have h95 : runeB false ((95 : UInt8).toNat : Int) = true := by decide
  have hsp := span_ltr B (95 :: L) hb
  rw [spanL_step _ (95 :: L) (by simp), decodeL_low 95 _ (by decide)] at hsp
  dsimp only at hsp
  rw [if_pos h95] at hsp
  have hkey : keyL ((B ++ 95 :: L).take (spanL (runeB false) (B ++ 95 :: L))) = [] := by
    refine key_no95 _ ?_
    rw [hsp, List.take_append, List.take_of_length_le (by omega), show B.length + (1 + spanL (runeB false) ((95 :: L).drop 1)) - B.length = spanL (runeB false) ((95 :: L).drop 1) + 1 by omega, List.take_succ_cons]
    simp
  obtain ⟨b, r, rfl⟩ := List.exists_cons_of_ne_nil hne
  obtain ⟨h1, h2⟩ := word_ltr b (r ++ 95 :: L) (hb b (List.mem_cons_self ..))
  rw [List.cons_append] at *
  unfold lexL
  split
  · exact .inl (by decide)
  · rw [show (b :: (r ++ 95 :: L)).length = (r ++ 95 :: L).length + 1 from rfl]
    by_cases he : (wordL (b :: (r ++ 95 :: L))).e = 0
    · rw [lex_word _ _ _ _ (by simp) h2 he]
      have hk1 : (wordL (b :: (r ++ 95 :: L))).k = 1 := by
        rw [h1] at he ⊢
        unfold nameW at he ⊢
        rw [hkey, if_neg (by simp)] at he ⊢
        split at he
        · exact absurd he (by simp [bad])
        · rename_i h32
          rw [if_neg h32]
      rcases lexG_pre (r ++ 95 :: L).length (0 + (wordL (b :: (r ++ 95 :: L))).len) ((b :: (r ++ 95 :: L)).drop (wordL (b :: (r ++ 95 :: L))).len) ([] ++ [tkL (wordL (b :: (r ++ 95 :: L))) 0]) with h | ⟨t, h⟩
      · exact .inl h
      · exact .inr ⟨_, t, h.symm, hk1⟩
    · rw [lex_bad _ _ _ _ (by simp) h2 he]
      exact .inl he
/-- What becomes a key when its letters are made great, has letters only. -/
theorem ltr_of_up (B K : List UInt8) (hK : K ∈ keysL) (h : B.map up = K) : ∀ b ∈ B, ltr b := by
  have hall : ∀ k ∈ keysL, ∀ b ∈ k, 65 ≤ b.toNat ∧ b.toNat ≤ 90 := by decide
  intro b hb
  have := hall K hK (up b) (by rw [← h]; exact List.mem_map.2 ⟨b, hb, rfl⟩)
  rw [up_t] at this
  unfold ltr
  split at this <;> omega
theorem keys_small : ∀ k ∈ keysL, k ≠ [] ∧ k.length ≤ 8 ∧ (∀ b ∈ k, 65 ≤ b.toNat ∧ b.toNat ≤ 90) ∧ k.map up = k := by decide
theorem keys_in (k : Nat) (hk : k < 23) : keysL.getD k [] ∈ keysL := by
  have hl : k < keysL.length := hk
  rw [show keysL.getD k [] = keysL[k] by simp [List.getD, hl]]
  exact List.getElem_mem _
theorem low_up (c : UInt8) (h : 65 ≤ c.toNat ∧ c.toNat ≤ 90) : up (UInt8.ofNat (c.toNat + 32)) = c ∧ (UInt8.ofNat (c.toNat + 32)).toNat = c.toNat + 32 := by
  have e : (UInt8.ofNat (c.toNat + 32)).toNat = c.toNat + 32 := by simp; omega
  refine ⟨?_, e⟩
  apply UInt8.toNat_inj.1
  rw [up_t, e, if_pos (by omega)]
  omega
theorem key_of_up (B K : List UInt8) (hK : K ∈ keysL) (h : B.map up = K) : keyL B = K := by
  unfold keyL
  rw [if_pos (List.any_eq_true.2 ⟨K, hK, decide_eq_true h⟩), h]
end Go.Proofs.YtdnlnghgjjiajaaDoor
